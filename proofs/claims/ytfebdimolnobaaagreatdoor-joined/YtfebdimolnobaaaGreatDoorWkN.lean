import Derived.Test.YtfebdimolnobaaaGreatDoorDfQ
import Derived.Shelf.SlIter.Collect
import Derived.Shelf.SlSortCmp.WholeK
import Derived.Laws.IdiomStrings
import Derived.Defers
import Derived.Recover
set_option maxRecDepth 100000
set_option maxHeartbeats 8000000
set_option linter.all false
namespace Go.Proofs.YtfebdimolnobaaaGreatDoor
open Go.RowKit Go.Proofs.Tryz
def tT {k:Nat}(hk:k<=15):eO k=true<->ee k≠2:=by
 constructor
 ·intro h q
  rcases Ba hk q with rfl|rfl<;>simp[eO]at h
 ·intro h;unfold eO
  by_cases h1:k=13
  ·subst h1;exact absurd rfl h
  ·by_cases h2:k=14
   ·subst h2;exact absurd rfl h
   ·simp;omega
def Bk (S:d8)(t:am):S.base t<=16:=by
 unfold d8.base
 split
 ·rename_i k hk
  have:=AW _ _ _ _ hk;have e:mN.length=15:=Ui;omega
 ·split<;>omega
def nW {S:d8}{mp:am->Option Nat}{d:MT}{f:eT}{g:GF}{k:Nat}(fg:FG S mp d f g):lu mp g k=true<->(k=fG S f\/(k=2/\f.isRep=true)):=by
 have Uv:=Bk S f.ty
 have hb:ee (eh mp g)=fG S f:=by
  unfold eh fG d8.wire;rw[fg.map,fg.eq,fg.base]
  by_cases h:g.form=4
  ·simp[h];rfl
  ·simp[h]
 unfold lu gR;rw[hb,fg.rep];simp only[ci,aJ,beq_iff_eq,dF]
 constructor
 ·rintro(h|⟨h1,h2,h3⟩)
  ·exact .inl Ue
  ·exact .inr ⟨Ue,h2⟩
 ·rintro(h|⟨h1,h2⟩)
  ·exact .inl Ue
  ·by_cases q:fG S f=2
   ·exact .inl Ue
   ·refine .inr ⟨Ue,h2,?_⟩;have Ut:eh mp g=S.base f.ty:=by unfold eh;rw[dD Ue,fg.eq,fg.base]
    rw[hb.symm,Ut]at q;rw[Ut];have:S.base f.ty≠16:=λe=>q (by rw[e];rfl)
    exact(tT Ue).2 q
def Bl (w:an)(B:Nat)(S:d8)(mp:am->Option Nat)(k:Nat)(d:MT)(f:eT)(g:GF)(fb:Nat)(Z:ap)(rb db:Nat)(b:am)(e a z deep F kn:Nat)(num:Int)(m:PM)
  (I:oF w B S mp k d Z rb db b e a z deep m) (hfa:eJ w (λb=>b<B) mp g fb) (fg:FG S mp d f g) (hff:dR d.fs f.num=some f) (hS:Eo S) (hkd:k+deep=8) (hgd:lw S d) (hRd:Ni S mp B b F) (hF:e-z<=F) (hfit:lu mp g kn=true):
  Ua 133 #[ag fb,aa kn,ag rb,ag db] w (g6 S k d w Z rb db (b.extract 0 e) deep (jJ S b F d f m deep (fx (b.extract 0 e) a num kn z))):=by
 have hq:=(nW fg).1 hfit;have Uv:=Bk S f.ty
 by_cases h4:g.form=4
 ·have hm:f.isMap=true:=by rw[fg.map,h4];rfl
  obtain rfl:kn=2:=by
   rcases hq with h|⟨h,_⟩
   ·rw[h];unfold fG;rw[dE hm]
   ·exact h
  exact JP w B S mp k d f g fb Z rb db b e a z deep F num m I hfa fg hff hS h4 hkd hgd hRd hF
 ·have hm:f.isMap=false:=by rw[fg.map];simp[h4]
  have Ur:fG S f=ee (S.base f.ty):=by unfold fG d8.wire;rw[hm];rfl
  by_cases hb:S.base f.ty=16
  ·obtain rfl:kn=2:=by
    rcases hq with h|⟨h,_⟩
    ·rw[h,Ur,hb];rfl
    ·exact h
   have:=fg.nest.1 hb;have⟨sub,Us⟩:=bZ.1 this;have hM:Dg S d f sub:=⟨by unfold eV;rw[hm];exact Us,hm⟩;exact JN w B S mp k d f g fb Z rb db b e a z deep F num m sub I hfa fg hff hS hM hkd hRd hF
  ·have Uq:S.base f.ty<=15:=Ue
   by_cases h2:g.form=2
   ·refine JL w B S mp k d f g fb Z rb db b e a z deep F num kn m I hfa fg h2 Uq hff ?_
    rcases hq with h|⟨h,_⟩
    ·exact .inl (by rw[h,Ur])
    ·by_cases q:ee (S.base f.ty)=2
     ·exact .inl Ue
     ·exact .inr ⟨Ue,q⟩
   ·have Uw:f.isRep=false:=by rw[fg.rep];simp[h2]
    obtain rfl:kn=ee (S.base f.ty):=by
     rcases hq with h|⟨_,h⟩
     ·rw[h,Ur]
     ·rw[Uw]at h;cases h
    exact JM w B S mp k d f g fb Z rb db b e a z deep F num m I hfa fg h4 h2 Uq hff
def EP {s:am}{a:Nat}{x:(Int×Int)×Nat}(h:ju s a= .ok x):∃kn:Nat,x.1.2=kn/\(kn=0\/kn=1\/kn=2\/kn=5)/\a<x.2/\x.2<=s.size:=by
 unfold ju at h
 cases hv:g9 s a s.size with
 |error y=>rw[hv]at h;cases h
 |ok y=>
  rw[hv]at h;have⟨v0,v1,v2,v3⟩:=iG (m:=y.1) (z:=y.2) hv;simp only at h
  split at h
  ·cases h
  ·split at h
   ·rename_i q
    cases h
    rcases q with q|q|q|q
    ·exact⟨0,q,.inl rfl,v2,v3⟩
    ·exact⟨1,q,.inr (.inl rfl),v2,v3⟩
    ·exact⟨2,q,.inr (.inr (.inl rfl)),v2,v3⟩
    ·exact⟨5,q,.inr (.inr (.inr rfl)),v2,v3⟩
   ·cases h
def tU {s:am}{a z:Nat}{num kind:Int}{r:oj}(h:fx s a num kind z= .ok r):r.num=num/\r.a=a:=by
 unfold fx at h
 split at h
 ·cases hv:g9 s z s.size<;>rw[hv]at h<;>cases h;exact⟨rfl,rfl⟩
 ·split at h
  ·cases hv:iT s z 8<;>rw[hv]at h<;>cases h;exact⟨rfl,rfl⟩
  ·split at h
   ·cases hv:iT s z 4<;>rw[hv]at h<;>cases h;exact⟨rfl,rfl⟩
   ·cases hv:eP s z<;>rw[hv]at h<;>cases h;exact⟨rfl,rfl⟩
section
variable {S:d8} {b:am} {F a e deep z kn:Nat} {d:MT} {m:PM} {num:Int} {f:eT}
def ry (he:e<=b.size)(ht:ju (b.extract 0 e) a= .ok ((num,(kn:Int)),z)):fD b a e=fx (b.extract 0 e) a num kn z:=by
 rw[<-vL he,qi,ht]
def Di (he:e<=b.size)(h:a<e)(ht:ju (b.extract 0 e) a= .ok ((num,(kn:Int)),z))(hk:kn=0\/kn=1\/kn=2\/kn=5)(hf:dR d.fs num=some f)(hfit:kn=fG S f\/(kn=2/\f.isRep=true)):
  eE S b (F+1) d m a e deep=match jJ S b F d f m deep (fx (b.extract 0 e) a num kn z)with| .error x=> .error x| .ok y=>eE S b F d y.1 y.2 e deep:=by
 have hr:=ry he ht
 cases hq:fx (b.extract 0 e) a num kn z with
 |error x=>
  rw[hq]at hr;rw[gV h hr];rfl
 |ok r=>
  rw[hq]at hr;have h1:=mD hk hq;have h2:=tU hq;rw[Hq h hr (by rw[h2.1];exact hf) (by rw[h1];exact hfit)];simp only[jJ]
  cases yL S b F d f m r deep<;>rfl
def Gk (hS:Eo S)(hb:b.size<=268435456)(hd:lw S d)(he:e<=b.size)(hw:WM S a d m)(ht:ju (b.extract 0 e) a= .ok ((num,(kn:Int)),z))(hk:kn=0\/kn=1\/kn=2\/kn=5)(hf:dR d.fs num=some f)(hfit:kn=fG S f\/(kn=2/\f.isRep=true)){y:PM×Nat}
  (h:jJ S b F d f m deep (fx (b.extract 0 e) a num kn z)= .ok y):WM S y.2 d y.1/\z<y.2/\y.2<=e:=by
 have hr:=ry he ht
 cases hq:fx (b.extract 0 e) a num kn z with
 |error x=>rw[hq]at h;cases h
 |ok r=>
  rw[hq]at hr h;have h1:=mD hk hq;have h2:=tU hq;have⟨h3,_,h4,_⟩:=pH hq;rw[gp he]at h4;simp only[jJ]at h
  cases hm:yL S b F d f m r deep with
  |error x=>rw[hm]at h;cases h
  |ok m2=>
   rw[hm]at h
   cases h
   refine⟨?_,h3,h4⟩;have Uu:dR d.fs r.num=some f:=by rw[h2.1];exact hf
   unfold yL at hm
   split at hm
   ·rename_i q
    exact M9 hS.good hb hd hw hr he Uu q hm
   ·rename_i q
    have Ux:=hfit.resolve_left (λe=>q (by rw[h1];exact e))
    cases hp:ko S b f (m.get f.num) r.fr r.e with
    |error x=>rw[hp]at hm;cases hm
    |ok l=>
     rw[hp]at hm
     cases hm
     exact(Na hS.good hw hr Uu q (by rw[h1];exact Ux.1) hp).1
def tV (he:e<=b.size)(h:a<e)(ht:ju (b.extract 0 e) a= .ok ((num,(kn:Int)),z))(hk:kn=0\/kn=1\/kn=2\/kn=5)(hf:∀f,dR d.fs num=some f->¬(kn=fG S f\/(kn=2/\f.isRep=true))):
  eE S b (F+1) d m a e deep=match lq (b.extract 0 e) z kn with| .error x=> .error x| .ok y=>eE S b F d (m.keep (b.extract a y.2)) y.2 e deep:=by
 have hr:=ry he ht;rw[qj (b.extract 0 e) a num kn z]
 cases hq:fx (b.extract 0 e) a num kn z with
 |error x=>
  rw[hq]at hr;rw[gV h hr]
 |ok r=>
  rw[hq]at hr;have h1:=mD hk hq;have h2:=tU hq;rw[oD h hr (λf q=>by rw[h2.1]at q;have:=hf f q;rw[h1];exact⟨λe=>this (.inl e),λe=>this (.inr e)⟩),h2.2]
def Dj (he:e<=b.size)(h:a<e){x:Int×Int}(ht:ju (b.extract 0 e) a= .error x):eE S b (F+1) d m a e deep= .error x:=by
 refine gV h ?_;rw[<-vL he,qi,ht]
end
def vU {s:am}{z kn:Nat}{y:Unit×Nat}(h:lq s z kn= .ok y):z<y.2/\y.2<=s.size:=by
 rw[qj s 0 0 kn z]at h
 cases hq:fx s 0 0 kn z with
 |error x=>rw[hq]at h;cases h
 |ok r=>
  rw[hq]at h
  cases h
  have⟨h1,_,h3,_⟩:=pH hq;exact⟨h1,h3⟩
section
open Uq
section
variable {w w':an} {rb:Nat} {s:am} {deep:Int}
structure yT (S:d8)(k:Nat)(d:MT)(B:Nat)(w wr:an)(Z Z':ap)(rb db:Nat)(b:am)(e deep F a:Nat)(m:PM)(P:Fx PM):Prop where
 st:eC w Z rb wr Z'
 rr:dW wr rb (b.extract 0 e) a deep
 dr:ek S (k+1) (some d) wr Z' db m
 hi:a<=e
 wm:WM S a d m
 fu:e-a<F
 eq:Hid (P=eE S b F d m a e deep)
 zz:∀x,Z' x->B<=x/\x<wr.heap.size
def OT (S:d8)(b:am)(F:Nat)(d:MT)(e deep:Nat):Fx (PM×Nat)->Fx PM
 | .error x=> .error x
 | .ok y=>eE S b F d y.1 y.2 e deep
def JQ (S:d8)(b:am)(F:Nat)(d:MT)(m:PM)(a e deep:Nat):Fx (Unit×Nat)->Fx PM
 | .error x=> .error x
 | .ok y=>eE S b F d (m.keep (b.extract a y.2)) y.2 e deep
theorem Jj.part {r:Fx (Unit×Nat)}{e:Ending}(h:Jj w rb s deep r e w'):
  (∃x,r= .error x/\e=dL x.1 x.2/\dX [rb] w w')\/∃x,r= .ok x/\e= .returned (.tuple #[])/\dX [rb] w w'/\dW w' rb s x.2 deep:=by
 obtain⟨h1,h2⟩:=h
 cases r with
 |error x=>exact .inl ⟨x,rfl,h2,h1⟩
 |ok x=>exact .inr ⟨x,rfl,h2.1,h1,h2.2⟩
theorem g6.part2 {S:d8}{k:Nat}{d:MT}{Z:ap}{db:Nat}{deep:Nat}{R:Fx (PM×Nat)}{en:Ending}(h:g6 S k d w Z rb db s deep R en w'):
  (∃x,R= .error x/\en=dL x.1 x.2/\∃Z',eC w Z rb w' Z')\/∃x,R= .ok x/\en= .returned (.tuple #[])/\∃Z',eC w Z rb w' Z'/\ek S (k+1) (some d) w' Z' db x.1/\dW w' rb s x.2 deep:=by
 cases R with
 |error x=>exact .inl ⟨x,rfl,h.1,h.2⟩
 |ok x=>exact .inr ⟨x,rfl,h.1,h.2⟩
theorem yU (S:d8)(mp:am->Option Nat)(B:Nat)(b:am)(hS:Eo S)(hbs:b.size<=268435456):∀F,Ni S mp B b F:=by
 intro F
 induction F using Nat.strongRecOn with
 |_ F ih=>
 intro w Z d m a e deep k mb gs nm rb db cx hM hG U6 hr hd hZ UJ Vk Vl he hF Vm Vn;have UD:(b.extract 0 e).size=e:=gp he;have UP:=cx.le;have Vb:rb<w.heap.size:=dM.lt hr;obtain⟨P,hP⟩:∃P,eE S b F d m a e deep=P:=⟨_,rfl⟩;rw[hP];have O0:yT S k d B w w Z Z rb db b e deep F a m P:=⟨eC.refl _ _ _,hr,hd,Vl,Vn,hF,hP.symm,hZ⟩;clear hP;go_enter func83,ntmps83;go_wp2;go_loopw [9] (λ_ wr=>∃Z' a' m' F',F'<=F/\yT S k d B w wr Z Z' rb db b e deep F' a' m' P) (λ_ wr=>lH wr rb e)
 case atStart=>exact⟨Z,a,m,F,ay _,O0⟩
 case round=>
  obtain⟨Z',a',m',F',hFF,O⟩:=hrel;have UQ:=rm wr rb _ a' deep O.rr;rw[UD]at UQ;have hhi:=O.hi;have hfu:=O.fu;go_wp2_with fail;refine UQ.mono ?_;rintro en w4 ⟨rfl,q,rfl⟩
  by_cases hlt:a'<e
  ·have Vc:decide (a'<e)=true:=decide_eq_true hlt;obtain⟨F1,rfl⟩:∃F1,F'=F1+1:=⟨F'-1,Ue⟩;have UR:dW (wr.drewN q) rb (b.extract 0 e) a' deep:=O.rr;have Vd:ek S (k+1) (some d) (wr.drewN q) Z' db m':=O.dr.keep (λ_ _ _=>rfl);have US:eC w Z rb (wr.drewN q) Z':=O.st.trans (.of_below (ie (Below.refl _ _) q));have Ve:=Rf (wr.drewN q) rb _ a' deep UR;have UT:=Jg (wr.drewN q) rb _ a' deep UR Ue;have UU:∀x,Z' x->B<=x/\x<(wr.drewN q).heap.size:=O.zz;have Uv:¬Z' rb:=O.st.not Vb Vk;have HM:Hid (lH wr rb e=e-a'):=gW O.rr;have UE:∀x,Z x->B<=x:=λx q=>(hZ x q).1
   obtain⟨T,hT⟩:∃T,ju (b.extract 0 e) a'=T:=⟨_,rfl⟩;rw[hT]at UT;have HT:Hid (ju (b.extract 0 e) a'=T):=hT;clear hT;generalize wr.drewN q=w4 at*;go_wp2_with fail;refine Ve.mono ?_;rintro en w5 ⟨rfl,rfl⟩;go_wp2_with fail;refine UT.mono ?_;intro en w6 Vo
   rcases Vo.part with⟨x,rfl,rfl,Us⟩|⟨x,rfl,rfl,Us,UK⟩
   ·have HB:Hid (P= .error x):=by
     show P=_;rw[O.eq.out,Dj he hlt HT.out]
    unfold dL;go_wp2;rw[HB.out];exact⟨rfl,rfl,Z',US.trans (.of_kept Us)⟩
   obtain⟨⟨num,kind⟩,z⟩:=x;have⟨kn,U7,UL,U8,UM⟩:=EP HT.out;simp only at U7 U8 UM UK;subst U7;rw[UD]at UM;have⟨B7,KT⟩:=dS w6 #[aa num,aa kn] 237;have UV:dW (w6.alloc (ak #[aa num,aa kn] 237)) rb (b.extract 0 e) z deep:=dM.alloc UK _;have UW:=(US.trans (.of_kept Us)).trans (.of_below B7);have Vf:=(eC.dr Vd Us Uv).keep (λx _ q=>B7.block x q);have Vg:Below B w (w6.alloc (ak #[aa num,aa kn] 237)):=UW.below UP UE UJ;have Vh:=zG (w6.alloc (ak #[aa num,aa kn] 237)) (λb=>b<B) mp mb nm gs num kn (hM.keep (λx q _=>Vg.block x q)) hG.srt hG.len;have UX:∀x,Z' x->B<=x/\x<(w6.alloc (ak #[aa num,aa kn] 237)).heap.size:=λx q=>⟨(UU x q).1,aD (aD (UU x q).2 Us.size) B7.size⟩
   have⟨k1,k2⟩:=KT.rules;have hrw:rb<w6.heap.size:=dM.lt UK;go_wp2_with fail;generalize w6.alloc (ak #[aa num,aa kn] 237)=w7 at*;generalize w6.heap.size=tb at*;refine Vh.mono ?_;rintro en w8 ⟨Uw,B8⟩;have UY:dW w8 rb (b.extract 0 e) z deep:=dM.below UV B8 (dM.lt UV);have Uq:=UW.trans (.of_below B8);have UZ:=Vf.keep (λx _ q=>B8.block x q);have U0:Below B w w8:=Uq.below UP UE UJ;have U1:=KT.below B8 KT.lt;have U2:∀x,Z' x->B<=x/\x<w8.heap.size:=λx q=>⟨(UX x q).1,aD (UX x q).2 B8.size⟩
   have hul:=O.wm.len;clear k1 k2
   cases hfit:sl mp gs num kn with
   |some g=>
    rw[hfit]at Uw;obtain⟨fb,rfl,Vp⟩:=Uw
    obtain⟨f,Ux,fg,U9⟩:∃f,dR d.fs num=some f/\FG S mp d f g/\lu mp g kn=true:=by
     unfold sl at hfit
     cases hfg:ic gs num with
     |none=>rw[hfg]at hfit;cases hfit
     |some g'=>
      rw[hfg]at hfit;simp only at hfit
      split at hfit
      ·cases hfit
       cases hf:dR d.fs num with
       |none=>rw[hG.no num hf]at hfg;cases hfg
       |some f=>
        have⟨g2,q1,q2⟩:=hG.yes num f hf;rw[hfg]at q1
        cases q1
        exact⟨f,rfl,q2,Uo⟩
      ·cases hfit
    have UF:f.num=num:=(eW Ux).1;have I:oF w8 B S mp k d Z' rb db b e a' z deep m':=⟨cx.on U0,UY,UZ,U2,UJ,Uv,U8,UM,he,hbs,O.wm⟩;have U3:=Bl w8 B S mp k d f g fb Z' rb db b e a' z deep F1 kn num m' I Vp fg (by rw[UF];exact Ux) hS Vm U6 (ih F1 Ue) Ue U9;have hit:=(nW fg).1 U9;obtain⟨R,hR⟩:∃R,jJ S b F1 d f m' deep (fx (b.extract 0 e) a' num kn z)=R:=⟨_,rfl⟩
    have HL:Hid (P=OT S b F1 d e deep R):=by
     have h:=Di (S:=S) (F:=F1) (deep:=deep) (d:=d) (m:=m') he hlt HT.out UL Ux hit;rw[hR]at h;show P=_;rw[O.eq.out,h]
     cases R<;>rfl
    have HW:Hid (∀y,R= .ok y->WM S y.2 d y.1/\z<y.2/\y.2<=e):=λy hy=>Gk hS hbs U6 he O.wm HT.out UL Ux hit (hR.trans hy)
    rw[hR]at U3;clear hR hfit;have⟨k1,k2⟩:=U1.rules;go_wp2_with fail;refine U3.mono ?_;intro en w9 UN
    rcases UN.part2 with⟨x,rfl,rfl,Z9,Uy⟩|⟨y,rfl,rfl,Z9,Uy,UG,Ut⟩
    ·unfold dL;go_wp2;rw[HL.out];exact⟨rfl,rfl,Z9,Uq.trans Uy⟩
    have⟨Vq,Vr,Uz⟩:=HW.out y rfl
    have O9:yT S k d B w w9 Z (λi=>Z9 i/\i<w9.heap.size) rb db b e deep F1 y.2 y.1 P:=
     ⟨(Uq.trans Uy).clip,Ut,UG.clip,Uz,Vq,Ue,HL,λx q=>⟨(Uy.grow x q.1).elim (λe=>(U2 x e).1) (λe=>by have:=U0.size;omega),q.2⟩⟩
    clear k1 k2;go_wp2;go_roundw
    case rel=>exact⟨_,_,_,_,Ue,O9⟩
    case measure=>rw[HM.out,gW Ut];omega
   |none=>
    rw[hfit]at Uw;obtain rfl:en= .returned (.pointer none):=Uw
    have Vi:∀f,dR d.fs num=some f->¬(kn=fG S f\/(kn=2/\f.isRep=true)):=λf hf hq=>by
     have⟨g,q1,q2⟩:=hG.yes num f hf;unfold sl at hfit;rw[q1]at hfit;simp only at hfit;rw[(nW q2).2 hq,dE rfl]at hfit
     cases hfit
    have U4:=AV w8 rb _ z deep kn UY Ue Ue Ue;obtain⟨R,hR⟩:∃R,lq (b.extract 0 e) z kn=R:=⟨_,rfl⟩
    have HL:Hid (P=JQ S b F1 d m' a' e deep R):=by
     have h:=tV (S:=S) (F:=F1) (deep:=deep) (d:=d) (m:=m') he hlt HT.out UL Vi;rw[hR]at h;show P=_;rw[O.eq.out,h]
     cases R<;>rfl
    have HW:Hid (∀y,R= .ok y->z<y.2/\y.2<=e):=λy hy=>by
     have:=vU (hR.trans hy);rw[UD]at this;exact this
    rw[hR]at U4;clear hR hfit;have⟨k1,k2⟩:=U1.rules;go_wp2_with fail;refine U4.mono ?_;intro en w9 UN
    rcases UN.part with⟨x,rfl,rfl,UA⟩|⟨y,rfl,rfl,UA,Ut⟩
    ·unfold dL;go_wp2;rw[HL.out];exact⟨rfl,rfl,Z',Uq.trans (.of_kept UA)⟩
    have⟨Vr,Uz⟩:=HW.out y rfl;have U5:=vH w9 rb _ y.2 deep a' Ut Ue Ue;have UG:=eC.dr UZ UA Uv;have hex:(b.extract 0 e).extract a' y.2=b.extract a' y.2:=jR he Uz;rw[hex]at U5;clear k1 k2;go_wp2_with fail;refine U5.mono ?_;rintro en w10 ⟨rfl,UB,rfl⟩;have UH:ek S (k+1) (some d) (w9.drewN UB) Z' db m':=UG.keep (λ_ _ _=>rfl);have Vj:=Bf S k (some d) (w9.drewN UB) Z' db m' (b.extract a' y.2) UH (by rw[aU];omega);go_wp2_with fail;refine Vj.mono ?_;rintro en UC ⟨rfl,Va,Uu,UO⟩;have UI:dW (w9.drewN UB) rb (b.extract 0 e) y.2 deep:=Ut;have Ur:dW UC rb (b.extract 0 e) y.2 deep:=dM.step UI Uu Uv;have stA:eC w Z rb UC Va:=((Uq.trans (.of_kept UA)).trans (.of_below (ie (Below.refl _ _) UB))).trans (.of_step Uu)
    have O9:yT S k d B w UC Z (λi=>Va i/\i<UC.heap.size) rb db b e deep F1 y.2 (m'.keep (b.extract a' y.2)) P:=
     ⟨stA.clip,Ur,UO.clip,Uz,O.wm.keep _ (by rw[aU];omega),Ue,HL,λx q=>⟨(stA.grow x q.1).elim (UE x) (λe=>Ue),q.2⟩⟩
    go_wp2;go_roundw
    case rel=>exact⟨_,_,_,_,Ue,O9⟩
    case measure=>rw[HM.out,gW Ur];omega
  ·have Vc:decide (a'<e)=false:=decide_eq_false hlt;obtain rfl:a'=e:=Ue
   have HE:Hid (P= .ok m'):=by
    show P=_;rw[O.eq.out,gN hlt]
   go_wp2;go_end0;rw[HE.out];exact⟨rfl,Z',O.st.trans (.of_below (ie (Below.refl _ _) q)),O.dr.keep (λ_ _ _=>rfl),O.rr⟩
end
end
def rz:aq->List PV->aq
 |mv::ms,v::vs=> .int .u64 v.1::ae v.2.1::mv::ae v.2.2.unk::rz ms vs
 |_,_=> []
def rA:aq->List PF->aq
 |vv::r,f::fs=>aa f.1::vv::rA r fs
 |_,_=> []
def uM:∀{a:aq} {l:List PV} {b:aq} {r:List PV},a.length=l.length->rz (a++b) (l++r)=rz a l++rz b r
 | [],[],_,_,_=>Uk
 | [],_::_,_,_,h=>by grind
 |_::_,[],_,_,h=>by grind
 |mv::a,v::l,b,r,h=>by simp[rz,uM (a:=a) (l:=l) (b:=b) (r:=r) (by grind)]
def uN:∀{a:aq} {l:List PF} {b:aq} {r:List PF},a.length=l.length->rA (a++b) (l++r)=rA a l++rA b r
 | [],[],_,_,_=>Uk
 | [],_::_,_,_,h=>by grind
 |_::_,[],_,_,h=>by grind
 |mv::a,v::l,b,r,h=>by simp[rA,uN (a:=a) (l:=l) (b:=b) (r:=r) (by grind)]
abbrev EQ:=Value->PM->(ap)->Prop
def jL (P:EQ)(w:an)(A:ap)(vv:Value)(l:List PV):Prop:=
 ∃ms Y,eD w A 55 4 vv l.length (rz ms l)/\(∀b,vv.ownBlock=some b->¬Y b)/\(∀b,Y b->A b)/\jx (λmv v C=>P mv v.2.2 C) Y ms l
def pI:Nat->an->EQ
 |0,_,_,_,_=>False
 |k+1,w,v,m,Z=>∃Us Y,eD w Z 58 2 v m.fs.length (rA Us m.fs)/\(∀b,v.ownBlock=some b->¬Y b)/\(∀b,Y b->Z b)/\jx (λvv f A=>jL (pI k w) w A vv f.2) Y Us m.fs
def jL.keep {P Q:EQ}{w w':an}{A:ap}{vv:Value}{l:List PV}(h:jL P w A vv l)(hk:∀b,A b->b<w.heap.size->w'.heap[b]?=w.heap[b]?)
  (hPQ:∀mv m C,(∀b,C b->A b)->P mv m C->Q mv m C):jL Q w' A vv l:=by
 obtain⟨ms,Y,h1,h2,h3,h4⟩:=h;exact⟨ms,Y,h1.keep hk,h2,h3,h4.imp λmv v C _ _ hC h=>hPQ mv _ C (λb hb=>h3 b (hC b hb)) h⟩
def pI.keep:∀{k:Nat} {w w':an} {v:Value} {m:PM} {Z:ap},pI k w v m Z->(∀b,Z b->b<w.heap.size->w'.heap[b]?=w.heap[b]?)->pI k w' v m Z
 |0,_,_,_,_,_,h,_=>h
 |_+1,_,_,_,_,_,⟨Us,Y,h1,h2,h3,h4⟩,hk=>⟨Us,Y,h1.keep hk,h2,h3,h4.imp λ_ _ _ _ _ hA h=>
   h.keep (λb hb hl=>hk b (h3 b (hA b hb)) hl) (λ_ _ _ hC hm=>hm.keep λb hb hl=>hk b (h3 b (hA b (hC b hb))) hl)⟩
def pI.none (k:Nat)(w:an)(Z:ap):pI (k+1) w (.slice .none 0 0) PM.none Z:=⟨[],λ_=>False,eD.nil _ _ _ _,(by grind),(by grind),trivial⟩
def pI.form {k:Nat}{w:an}{v:Value}{m:PM}{Z:ap}(h:pI k w v m Z):∃a c,v= .slice a m.fs.length c:=by
 cases k with
 |zero=>exact h.elim
 |succ k=>
  obtain⟨Us,Y,h1,_⟩:=h;obtain⟨a,n,c,rfl⟩:=dN h1.1;rw[eK h1.1]
  grind
def jL.form {P:EQ}{w:an}{A:ap}{vv:Value}{l:List PV}(h:jL P w A vv l):∃a c,vv= .slice a l.length c:=by
 obtain⟨ms,Y,h1,_⟩:=h;obtain⟨a,n,c,rfl⟩:=dN h1.1;rw[eK h1.1]
 grind
def Nl {k:Nat}{w:an}{A:ap}{vv:Value}{lv:List LV}(h:eD w A 55 4 vv lv.length (lv.flatMap lV)):jL (pI (k+1) w) w A vv (lv.map pC):=by
 have e:∀lv:List LV,lv.flatMap lV=rz (lv.map λ_=>ah) (lv.map pC):=λlv=>by
  induction lv with
  |nil=>rfl
  |cons x lv ih=>rw[bi,ih];rfl
 refine⟨lv.map λ_=>ah,λ_=>False,?_,λb _ h=>h,λb h=>h.elim,?_⟩
 ·grind
 ·have:∀lv:List LV,jx (λmv (v:PV) C=>pI (k+1) w mv v.2.2 C) (λ_=>False) (lv.map λ_=>ah) (lv.map pC):=λlv=>by
   induction lv with
   |nil=>trivial
   |cons x lv ih=>exact⟨λ_=>False,λ_=>False,pI.none k w _,ih,λb h=>h,λb h=>h,λb h=>h.elim⟩
  grind
def Rj (k:Nat)(w:an)(Z:ap)(m:PM)(e:Ending)(w':an):Prop:=
 ∃v Z',e= .returned (.agg #[v,ae m.unk])/\pI (k+1) w' v m Z'/\(∀b,Z' b->b<w'.heap.size/\(Z b\/w.heap.size<=b))/\aj w w'
def rC (k:Nat)(w:an)(A:ap)(l:List PV)(e:Ending)(w':an):Prop:=
 ∃v Z',e= .returned v/\jL (pI (k+1) w') w' Z' v l/\(∀b,Z' b->b<w'.heap.size/\(A b\/w.heap.size<=b))/\aj w w'
def vm (S:d8)(k:Nat)(T:Option MT)(w0:an)(B:ap)(wr:an)(u:Value)(done:List PV)(ps:au)(rest:List PV):Prop:=
 ∃ms Y,∃B1 B2:ap,jx (λp v C=>v=mV v.2.2/\ek S k T w0 C p v.2.2) B2 ps rest/\(∀b,B1 b->B b)/\(∀b,B2 b->B b)/\(∀b,B1 b->¬B2 b)/\
  wr.ownsRow w0.heap.size 55 4 u done.length (rz ms done)/\(∀b,u.ownBlock=some b->¬Y b)/\jx (λmv v C=>pI (k+1) wr mv v.2.2 C) Y ms done/\(∀b,Y b->b<wr.heap.size/\(B1 b\/w0.heap.size<=b))
def vm.start {S:d8}{k:Nat}{T:Option MT}{w0:an}{B:ap}{wr:an}{ps:au}{l:List PV}(h:jx (λp v C=>v=mV v.2.2/\ek S k T w0 C p v.2.2) B ps l):vm S k T w0 B wr (ah) [] ps l:=
 ⟨[],λ_=>False,λ_=>False,B,h,λ_ q=>q.elim,λ_ q=>q,λ_ q=>q.elim,bm _ _ _ _,(λ_ q=>by cases q),trivial,λ_ q=>q.elim⟩
def vm.done {S:d8}{k:Nat}{T:Option MT}{w0:an}{B:ap}{wr:an}{u:Value}{l:List PV}(h:vm S k T w0 B wr u l [] []):
  ∃Z',jL (pI (k+1) wr) wr Z' u l/\∀b,Z' b->b<wr.heap.size/\(B b\/w0.heap.size<=b):=by
 obtain⟨ms,Y,B1,B2,_,Uw,_,_,Uq,Ut,Ur,hY⟩:=h;refine⟨λb=>Y b\/u.ownBlock=some b,⟨ms,Y,⟨ownsRow_base_a Uq (aL _),λb hb=> .inr hb⟩,Ut,λb hb=> .inl hb,Ur⟩,?_⟩;rintro b (hb|hb)
 ·grind
 ·exact⟨(Uq.lt b hb).2,.inr (Uq.lt b hb).1⟩
def vm.step {S:d8}{k:Nat}{T:Option MT}{w0:an}{B:ap}{wr w1 w2:an}{u u' mv:Value}{done rest:List PV}{ps:au}{v:PV}{A B2 B2' B1 Y Z':ap}{ms:aq}
  (hlB:∀b,B b->b<w0.heap.size) (h0:w0.heap.size<=wr.heap.size)
  (hs:jx (λp v C=>v=mV v.2.2/\ek S k T w0 C p v.2.2) B2' ps rest) (hA:∀b,A b->B2 b) (hB':∀b,B2' b->B2 b) (hAB:∀b,A b->¬B2' b)
  (Uw:∀b,B1 b->B b) (hB2:∀b,B2 b->B b) (h12:∀b,B1 b->¬B2 b) (Uq:wr.ownsRow w0.heap.size 55 4 u done.length (rz ms done)) (Ut:∀b,u.ownBlock=some b->¬Y b)
  (Ur:jx (λmv v C=>pI (k+1) wr mv v.2.2 C) Y ms done) (hY:∀b,Y b->b<wr.heap.size/\(B1 b\/w0.heap.size<=b))
  (hb1:aj wr w1) (hm:pI (k+1) w1 mv v.2.2 Z') (hZ:∀b,Z' b->b<w1.heap.size/\(A b\/wr.heap.size<=b))
  (hg:w1.grownBy w2 u.ownBlock) (hrow':w2.ownsRow w0.heap.size 55 4 u' (done.length+1) (rz ms done++rz [mv] [v])) (hu':u'.ownBlock=u.ownBlock\/∃g,u'.ownBlock=some g/\w1.heap.size<=g):
  vm S k T w0 B w2 u' (done++ [v]) ps rest:=by
 have hlen:ms.length=done.length:=Ur.len
 have Uu:∀b,Y b->¬Z' b:=λb hb hz=>by
  grind
 have Uv:∀b,u.ownBlock=some b->¬(Y b\/Z' b):=λb hb h=>by
  rcases h with h|h
  ·grind
  ·have q:=Uq.lt b hb
   grind
 have hk:∀b,(Y b\/Z' b)->b<w1.heap.size->w2.heap[b]?=w1.heap[b]?:=λb hb hl=>hg.block b hl (λe=>Uv b e.symm hb)
 refine⟨ms++ [mv],λb=>Y b\/Z' b,λb=>B1 b\/A b,B2',hs,?_,λb hb=>hB2 b (hB' b hb),?_,?_,?_,?_,?_⟩
 ·grind
 ·grind
 ·rw[uM hlen]
  grind
 ·intro b hb h
  rcases hu' with e|⟨g,e,hge⟩
  ·grind
  ·rw[e]at hb
   cases hb
   rcases h with h|h
   ·have:=(hY _ h).1;have:=hb1.size;omega
   grind
 ·refine jx.append (A:=Y) (B:=Z') ?_ ?_ (λb h=> .inl h) (λb h=> .inr h) Uu
  ·refine Ur.imp λmv v C _ _ hC h=>h.keep λb hb hl=> ?_
   exact(hk b (.inl (hC b hb)) (aD hl hb1.size)).trans (hb1.block b hl)
  ·exact⟨Z',λ_=>False,hm.keep λb hb hl=>hk b (.inr hb) hl,trivial,λb h=>h,λb h=>h.elim,λb _ h=>h⟩
 ·have hsz:=hg.size;rintro b (hb|hb)
  ·have q:=hY b hb;have:=hb1.size
   grind
  grind
section
open Go.Maps Go.Sort
def JR:WideMaps.KeyLaw prog 386:=deep_law (m:=2) Ue Uj Uj Uj
def JS {a b:LV}(h:kV a=kV b):a=b:=by
 unfold kV at h;simp only[Value.agg.injEq,Array.mk.injEq,List.cons.injEq,Value.int.injEq,true_and,Value.string.injEq,and_true]at h;exact cU h.1 h.2
def Dk {v:Value}{kl:Lit}(h:Go.keyOf prog 386 v=some kl):∃k:LV,v=kV k/\yO k:=by
 obtain⟨xs,L,rfl,h1,_⟩:=keyOf_top Uj h;have hb:Nat.ble 1 prog.types.size=true:=Uj;have hb2:=Nat.le_of_ble_eq_true hb;obtain⟨N,hN⟩:∃N,prog.types.size+1=N+1+1:=⟨prog.types.size-1,Ue⟩;rw[hN]at h1;obtain⟨l⟩:=xs
 have hl:l.length=2:=by
  simp only[Program.keyLits,underlying386,EL]at h1
  split at h1
  ·rename_i q;exact q.1
  ·cases h1
 obtain⟨c0,c1,rfl⟩:∃c0 c1,l= [c0,c1]:=by
  match l,hl with
  | [c0,c1],_=>exact⟨c0,c1,rfl⟩
 ·simp[Program.keyLits,underlying386,EL,JC,C7,underlying53,underlying9]at h1
  cases c0 with
  |int q n=>
   simp only at h1
   by_cases hq:q= .u64/\(Lit.int .u64 n).wf=true
   ·rw[dE hq]at h1
    cases c1 with
    |string t=>
     simp only[Option.bind_some,Function.comp]at h1
     by_cases hs:t.size<=maxLen
     ·obtain⟨rfl,h2⟩:=hq;have UE:(decide (0<=n)&&decide (n<=18446744073709551615))=true:=h2;simp only[aJ,dF]at UE;exact⟨(n,t),rfl,⟨UE.1,by show n<_;omega,hs⟩⟩
     ·rw[dD hs]at h1;simp at h1
    |_=>simp at h1
   ·rw[dD hq]at h1;simp at h1
  |_=>simp at h1
def pJ (D0:DataW Unit)(left:Lit->Bool)(ss:List LV):Prop:=ss.Nodup/\(∀k∈ss,yO k)/\∀(k:LV) kl,Go.keyOf prog 386 (kV k)=some kl->(k∈ss<->(has D0 kl=true/\left kl=false))
def pJ.start (D0:DataW Unit):pJ D0 (has D0) []:=⟨List.nodup_nil,Uf,λk kl _=>by cases has D0 kl<;>simp⟩
def pJ.step {D0:DataW Unit}{left:Lit->Bool}{ss:List LV}(h:pJ D0 left ss){x:LV}{kl:Lit}{y:DataW Unit}(hx:yO x)(hk:Go.keyOf prog 386 (kV x)=some kl)(UB:left kl=true)(UC:∀zd,D0.atKey kl zd=y):pJ D0 (λz=>left z&& !z.sameKey kl) (ss++ [x]):=by
 have Uw:has D0 kl=true:=has_true_of_atKey UC;have Ux:x∉ss:=λq=>by have:=((h.2.2 x kl hk).1 q).2;rw[UB]at this;cases this
 refine⟨dz.2 ⟨h.1,Uf,λa ha b hb=>by simp at hb;subst hb;exact λe=>Ux (e▸ha)⟩,λk hk=>by
  rcases aR.1 hk with hk|hk
  ·exact h.2.1 k hk
  ·simp at hk;subst hk;exact hx,λk kl' Ut=> ?_⟩
 obtain⟨s,rfl⟩:=JR.str hk;obtain⟨s',rfl⟩:=JR.str Ut
 by_cases e:k=x
 ·subst e;rw[hk]at Ut
  cases Ut
  simp[Uw,Lit.sameKey]
 ·have UG:s'≠s:=λq=>by
   subst q;exact e (JS (JR.inj Ut hk))
  simp[h.2.2 k _ Ut,e,Lit.sameKey,UG]
def Bn {v:Value}{y:DataW Unit×List MemPlace}(h:gr v=some y):∃o:Option Nat,v=gI o:=by
 unfold gr at h
 split at h
 ·exact⟨none,rfl⟩
 ·rename_i b;exact⟨some b,rfl⟩
 ·cases h
def JT (F:Fence)(n:Nat)(hF:∀f,F.fn f)(Uq:F.round=none)(hn:1<=n)(l Bm b nn:Nat)(D0:DataW Unit)(J:List LV->an->Prop)
  (hY:∀pre x W,J pre W->pre.length<Go.Maps.size D0->YieldAt F (n-1) prog l #[kV x] W λe W'=>e= .returned (.bool true)/\J (pre++ [x]) W'/\KeepsWalks W W')
  (W:an) (hJ:AbidesFrom W.heap.size J) (hm:W.cell? (ai Bm 0)=some (.map (some b))) (hown:W.ownsMap prog 386 gr b nn D0) (h0:J [] W):
  CallsIn F n prog 356 #[.func (.yield l) #[] #[],ag Bm] W λe W'=>(∃v,e= .returned v)/\∃ss:List LV,(pJ D0 (λ_=>false) ss/\ss.length<=Go.Maps.size D0)/\J ss W':=by
 refine callsIn_of_wp func356 rfl (hF _) ?_ Uq;simp only[ntmps356,dB,be,cW,Nat.reduceAdd,Nat.reduceSub,dg,dh,dC,dv,aS,bf]
 gi_wp2_with (first
  |(gi_at_range;refine wpListIn_range_own _ rfl _ 247 rfl 386 180 EK underlying247 _ b nn _ rfl hown ?_;intro w0 Uz UJ hs0)
  |gi_in)
 go_frame
 gi_loopw [3] (λ_ wr=>∃(left:Lit->Bool) (cnt:Nat) (ss:List LV),wr.ranges prog 386 gr b W.heap.size nn D0 left cnt/\ss.length+cnt<=Go.Maps.size D0/\pJ D0 left ss/\J ss wr) (λ_ wr=>wr.rangeLeft b W.heap.size)
 case atStart=>exact⟨_,_,[],Uz,Uf,pJ.start D0,hJ [] W w0 none h0 UJ (λr e=>by cases e)⟩
 case round=>
  obtain⟨left,cnt,ss,Uv,hcs,hC,UF⟩:=hrel
  gi_wp2_with (first
   |(gi_at_next;refine wpListIn_next_ranges _ rfl _ rfl 386 EK gr kV gI (λkey kl hk=>by obtain⟨k,rfl,_⟩:=Dk hk;exact⟨k,rfl⟩) (λv y hv=>by obtain⟨o,rfl⟩:=Bn hv;exact⟨o,rfl⟩) b W.heap.size nn _ _ _ rfl Uv ?_ ?_)
   |gi_in)
  ·intro hc0 UK
   gi_wp2
   go_end0;have hz:left=λ_=>false:=funext UK
   subst hz;exact⟨⟨_,rfl⟩,ss,⟨hC,Ue⟩,UF⟩
  ·intro x1 x2 c kl yd yp w2 UA Uu UB hv UC UD UL UM UN UO;have⟨x',ex,UP⟩:=Dk Uu;obtain rfl:=JS ex;have UH:J ss w2:=hJ ss wr w2 (some W.heap.size) UF UM (λr e=>by cases e;exact⟨ay _,Uv.iter_walk⟩);have Uy:J ss (w2.alloc (ak #[.int .u64 x1,ae x2] 386)):=hJ ss w2 _ none UH (World.grownBy_alloc w2 _ none) (λr e=>by cases e);have⟨fn,tmps,assign,body,hy,hR⟩:=hY ss ((x1,x2):LV) _ Uy Ue;unfold kV at UO hy;clear UN
   gi_wp2
   refine hR.mono ?_;rintro e W3 ⟨rfl,Uy,UQ⟩
   gi_wp2
   have Ur:=UD.of_walks ((KeepsWalks.alloc _ _).trans UQ);go_roundw
   case rel=>exact⟨_,UA,ss++ [(x1,x2)],Ur,Ug,hC.step UP Uu UB UC,Uy⟩
   case measure=>rw[Ur.left_eq,Uv.left_eq];exact UL
def JU (F:Fence)(n:Nat)(hF:∀f,F.fn f)(Uq:F.round=none)(l Bm:Nat)(J:List LV->an->Prop)(W:an)(hJ:AbidesFrom W.heap.size J)
  (hm:W.cell? (ai Bm 0)=some (.map none)) (h0:J [] W):
  CallsIn F n prog 356 #[.func (.yield l) #[] #[],ag Bm] W λe W'=>(∃v,e= .returned v)/\∃ss:List LV,ss= []/\J ss W':=by
 refine callsIn_of_wp func356 rfl (hF _) ?_ Uq;simp only[ntmps356,dB,be,cW,Nat.reduceAdd,Nat.reduceSub,dg,dh,dC,dv,aS,bf];have Uv:=run_range_nilMap (P:=prog) W 247 386 180 underlying247;have hnx:∀ty,(Instr.next (ag W.heap.size) false ty).run prog (W.alloc (.mapIter none 0 #[] 0))=_:=λty=>run_next_nilMap _ ty 0 0 #[]
 gi_wp2
 refine wpIn_loop_rounds 1 ?_;rw[roundsIn_succ]
 gi_wp2
 go_end0;exact⟨⟨_,rfl⟩,[],rfl,hJ [] W _ none h0 (World.grownBy_alloc W _ none) (λr e=>by cases e)⟩
def ER (w:an)(Bm:Nat)(S:List LV->Prop)(N:Nat):Prop:=∀(F:Fence) (n:Nat),(∀f,F.fn f)->F.round=none->1<=n->SeqGives F n prog 356 #[ag Bm] kV S N w
def ES {w:an}{Bm b nn:Nat}{D0:DataW Unit}(hBm:Bm<w.heap.size)(hm:w.cell? (ai Bm 0)=some (.map (some b)))(hown:w.ownsMap prog 386 gr b nn D0):
  ER w Bm (λss=>pJ D0 (λ_=>false) ss/\ss.length<=Go.Maps.size D0) (Go.Maps.size D0):=λF n hF Uq hn l J W hW hJ hY h0=>by
 have Us:W.ownsMap prog 386 gr b nn D0:=by
  have UI:=hown.lt;obtain⟨es,clock,hb,Ft,hs,hD⟩:=hown;exact⟨es,clock,(hW.block b UI).trans hb,Ft,hs,hD⟩
 exact JT F n hF Uq hn l Bm b nn D0 J hY W hJ ((hW.cell (p:=(ai Bm 0)) hBm).trans hm) Us h0
def Dl {w:an}{Bm:Nat}(hBm:Bm<w.heap.size)(hm:w.cell? (ai Bm 0)=some (.map none)):ER w Bm (λss=>ss= []) 0:=
 λF n hF Uq _ l J W hW hJ _ h0=>JU F n hF Uq l Bm J W hJ ((hW.cell (p:=(ai Bm 0)) hBm).trans hm) h0
def Rk:(prog.info? 386).map (λi=>(i.zero,i.size,i.bytes))=some (some (.agg #[.int .u64 0,T9]),2,24):=Uj
def kx:List LV->aq
 | []=> []
 |k::ks=> .int .u64 k.1::ae k.2::kx ks
def uO:∀(a b:List LV),kx (a++b)=kx a++kx b
 | [],b=>rfl
 |k::a,b=>by simp[kx,uO a b]
def j0:∀a:List LV,(kx a).length=2*a.length
 | []=>rfl
 |k::a=>by simp[kx,j0 a];omega
def xD:Code:=(Code.region 2 #[{dst:=some 5,op:=Op.alloc 386,type:=0,pos:= "iter.go:51",after:= #[],guard:=none},{dst:=none,op:=Op.store 386 (Operand.tmp 5) (Operand.tmp 7),type:=0,pos:= "iter.go:51",after:= #[{on:=0,ground:=Ground.data},{on:=0,ground:=Ground.phase}],guard:=none}] false)
def ET:Code:=(Code.block 1 (Code.region 3 #[{dst:=some 8,op:=Op.load 389 (Operand.tmp 2),type:=389,pos:= "iter.go:52",after:= #[],guard:=none},{dst:=some 9,op:=Op.load 386 (Operand.tmp 5),type:=386,pos:= "iter.go:52",after:= #[],guard:=none},{dst:=some 10,op:=Op.buildSlice 389 1 #[(0,Operand.tmp 9)],type:=389,pos:= "iter.go:52",after:= #[{on:=1,ground:=Ground.data}],guard:=none},{dst:=some 11,op:=Op.call {callee:=Callee.builtin Builtin.append,args:= #[Operand.tmp 8,Operand.tmp 10],argTypes:= #[389,389]},type:=389,pos:= "iter.go:52",after:= #[{on:=0,ground:=Ground.data},{on:=2,ground:=Ground.data}],guard:=none},{dst:=none,op:=Op.store 389 (Operand.tmp 2) (Operand.tmp 11),type:=0,pos:= "iter.go:52",after:= #[{on:=3,ground:=Ground.data},{on:=3,ground:=Ground.chain},{on:=0,ground:=Ground.phase},{on:=1,ground:=Ground.phase},{on:=2,ground:=Ground.phase},{on:=3,ground:=Ground.phase}],guard:=none}] false))
def pK (fn:FuncId)(sv:Value)(Bs D:Nat)(st:LoopState)(pend:Option Code):Loop:=
 {state:=st,pending:=pend,fn,tmps:= #[ah,sv,ag Bs,undef,ah,undef,sv,undef,undef,undef,undef,undef,undef],params:= #[7],assign:=xD,body:=ET,defers:=D}
structure Hu (w0:an)(fn:FuncId)(sv:Value)(Bs l D:Nat)(ss:List LV)(W:an):Prop where
 box:∃v,W.heap[Bs]?=some (.cells #[v] 389 (0,0))/\W.ownsRow w0.heap.size 386 2 v ss.length (kx ss)
 L:W.heap[l]?=some (.loop (pK fn sv Bs D .ready none))
 K:W.heap[D]?=some (.deferred (some []))
 below:aj w0 W
def zV (w0:an)(fn:FuncId)(sv:Value)(Bs l D B:Nat)(hB:w0.heap.size<=B):AbidesFrom B (Hu w0 fn sv Bs l D):=λs W W' row h hg Uq=>by
 have Us:∀r,row=some r->∃o:Obj,W.heap[r]?=some o/\o.isWalk=true:=λr e=>(Uq r e).2
 have⟨v,hv,hr⟩:=h.box
 exact⟨⟨v,(grownBy_keeps hg Us hv rfl).trans hv,ownsRow_abides_a hr hg Us⟩,(grownBy_keeps hg Us h.L rfl).trans h.L,(grownBy_keeps hg Us h.K rfl).trans h.K,
  h.below.grown hg h.below.size (λk e=>aG hB (Uq k e).1)⟩
def Nm (F:Fence)(m:Nat)(w0:an)(fn:FuncId)(UV:F.fn fn)(sv:Value)(Bs l D:Nat)(hBl:Bs≠l)(hDl:D≠l)(hDB:D≠Bs)(h0B:w0.heap.size<=Bs)(h0l:w0.heap.size<=l)
  (N:Nat) (hN:N<=maxLen) (hNb:N*24<=140737488355328) (ss:List LV) (x:LV) (W:an) (h:Hu w0 fn sv Bs l D ss W) (hlen:ss.length<N):
  YieldAt F m prog l #[kV x] W λe W'=>e= .returned (.bool true)/\Hu w0 fn sv Bs l D (ss++ [x]) W'/\KeepsWalks W W':=by
 have⟨i0,hi,Vb,Vc,Vd⟩:=info_parts Rk;obtain⟨x1,x2⟩:=x;refine⟨fn,#[ah,sv,ag Bs,undef,ah,undef,sv,kV (x1,x2),undef,undef,undef,undef,undef],xD,ET,by simpa [pK]using run_yield (P:=prog) (args:= #[kV (x1,x2)]) h.L rfl,roundIn_of_wpIn UV ?_⟩;have hlW:l<W.heap.size:=(bA.1 h.L).1;have hA:Hu w0 fn sv Bs l D ss (W.alloc (.cells #[.int .u64 x1,ae x2] 386)):=zV w0 fn sv Bs l D w0.heap.size (ay _) ss W _ none h (World.grownBy_alloc W _ none) (λr e=>by cases e);have UW:KeepsWalks W (W.alloc (.cells #[.int .u64 x1,ae x2] 386)):=KeepsWalks.alloc _ _;have UX:(W.alloc (.cells #[.int .u64 x1,ae x2] 386)).heap[W.heap.size]?=some (.cells #[.int .u64 x1,ae x2] 386 (0,0)):=World.alloc_heap_new _ _;unfold xD kV
 gi_wp2_with (rw[Oper.semAt_eq _ _ _ (λc h=>by cases h)];go_simp;try go_bits)
 generalize W.alloc (.cells #[.int .u64 x1,ae x2] 386)=Wa at hA UW UX⊢;have⟨v,hv,Uq⟩:=hA.box;have hl:l<Wa.heap.size:=(bA.1 hA.L).1;obtain⟨W2,UB⟩:∃W2,Wa.putObj l (.loop {pK fn sv Bs D .ready none with state:= .busy})=W2:=⟨_,rfl⟩;have UY:=run_beginRound (P:=prog) hA.L rfl;rw[UB]at UY;have UZ:Wa.grownBy W2 (some l):=by rw[<-UB];exact grownBy_putObj_a _ _ _
 have U3:KeepsWalks W W2:=by rw[<-UB];exact UW.trans (KeepsWalks.putObj _ hA.L rfl)
 have UK:W2.heap[Bs]?=some (.cells #[v] 389 (0,0)):=by rw[<-UB];exact(World.putObj_heap_other hBl).trans hv
 have UP:W2.heap[D]?=some (.deferred (some [])):=by rw[<-UB];exact(World.putObj_heap_other hDl).trans hA.K
 have UQ:W2.heap[l]?=some (.loop {pK fn sv Bs D .ready none with state:= .busy}):=by rw[<-UB];exact World.putObj_heap_same hl
 have U0:W2.heap[W.heap.size]?=some (.cells #[.int .u64 x1,ae x2] 386 (0,0)):=by rw[<-UB];exact(World.putObj_heap_other Ue).trans UX
 have Ut:W2.ownsRow w0.heap.size 386 2 v ss.length (kx ss):=Uq.kept UZ (ownsRow_ne_a Uq hA.L (λUx e=>by cases e));have UL:aj w0 W2:=hA.below.grown UZ hA.below.size (λk e=>by grind);clear UB;have hnc0:W2.cell? (ai W.heap.size 0)=some (.int .u64 x1):=by simp[World.cell?,U0]
 have hnc1:W2.cell? (ai W.heap.size 1)=some (ae x2):=by simp[World.cell?,U0]
 have⟨hc2,hf2⟩:=cell_of_box_a UK;have UR:Bs<W2.heap.size:=(bA.1 UK).1;have U4:l<W2.heap.size:=(bA.1 UQ).1;have US:D<W2.heap.size:=(bA.1 UP).1
 have Uu:∀{j:Nat} {o:Obj},W2.heap[j]?=some o->(∀Ux,o≠ .cells Ux 386 (0,0))->some j≠v.ownBlock:=λhj Ve=>by
  rcases ownsRow_ne_a Ut hj Ve with e|e
  ·grind
  grind
 refine⟨W2,UY,?_⟩;unfold ET
 gi_wp2_with (first
  |(
    gi_at_builtin;refine wpListIn_append_own _ rfl _ _ 389 rfl w0.heap.size 386 i0 (.agg #[.int .u64 0,T9]) 2 24 underlying389 hi Vb Vc Vd rfl Uh _ _ _ rfl (Ut.alloc _) (ai W2.heap.size 0) 1 1 [.int .u64 x1,ae x2] rfl rfl (lS _ _ _ _) Um Ue Ue (by have:=UL.size;simp;omega) ?_;intro v' w3 Uv UH hnil3
    have UD:w3.heap[Bs]?=some (.cells #[v] 389 (0,0)):=(UH.block Bs Ug (Uu UK (λUx e=>by cases e))).trans ((Below.heap_alloc _ _ Bs UR).trans UK);have⟨Vf,Vg⟩:=cell_of_box_a UD;obtain⟨g',Ur,Uy,rfl,hbase',hgb',hr1,hr2,hr3,hr4⟩:∃g' Ur Uy,v'= Ub g' (ss.length+1) Ur/\w0.heap.size<=g'/\w3.heap[g']?=some (.cells Uy 386 (0,0))/\ss.length+1<=Ur/\Ur<=maxLen/\Uy.size=Ur*2/\Uy.toList.take ((ss.length+1)*2)=kx ss++ [.int .u64 x1,ae x2]:=Uv.2.elim (λq=>absurd q.2 Ue) id
    go_frame)
  |(rw[Oper.semAt_eq _ _ _ (λc h=>by cases h)];go_simp;try go_bits))
 have Uw:(W2.alloc (.cells #[.int .u64 x1,ae x2] 386)).grownBy w3 v.ownBlock:=UH;have U1:w3.heap[l]?=some (.loop {pK fn sv Bs D .ready none with state:= .busy}):=(Uw.block l Ug (Uu UQ (λUx e=>by cases e))).trans ((Below.heap_alloc _ _ l U4).trans UQ);have UE:w3.heap[D]?=some (.deferred (some [])):=(Uw.block D Ug (Uu UP (λUx e=>by cases e))).trans ((Below.heap_alloc _ _ D US).trans UP);obtain⟨w4,UI⟩:∃w4,w3.setCell (ai Bs 0) (Ub g' (ss.length+1) Ur)=w4:=⟨_,rfl⟩;rw[UI];have UM:w3.grownBy w4 (some Bs):=by rw[<-UI];exact grownBy_setCell0_a _ _ _
 have U5:w4.heap[Bs]?=some (.cells #[Ub g' (ss.length+1) Ur] 389 (0,0)):=by rw[<-UI];exact heap_setCell_box_a _ UD
 have UN:w4.heap[l]?=some (.loop {pK fn sv Bs D .ready none with state:= .busy}):=(UM.block l (bA.1 U1).1 (λe=>hBl (by grind))).trans U1;have U6:w4.heap[D]?=some (.deferred (some [])):=(UM.block D (bA.1 UE).1 (λe=>hDB (by grind))).trans UE;have Uz:=Uv.kept UM (ownsRow_ne_a Uv UD (λUx e=>by cases e));have U7:l<w4.heap.size:=(bA.1 UN).1;have UF:aj w0 w3:=(UL.alloc UL.size _).grown Uw (by have:=UL.size;simp;omega) (λk e=>(Ut.lt k e).1);have U2:aj w0 w4:=UF.grown UM UF.size (λk e=>by grind);have U8:KeepsWalks W w4:=((U3.trans (KeepsWalks.alloc _ _)).trans (KeepsWalks.of_grownBy Uw (ownsRow_not_walk_a (Ut.alloc _)))).trans (by rw[<-UI];exact KeepsWalks.setCell _ _ _);clear UI;refine⟨_,_,run_endRound none UN,rfl,⟨⟨_,(World.putObj_heap_other hBl).trans U5,?_⟩,World.putObj_heap_same U7,(World.putObj_heap_other hDl).trans U6,U2.grown (grownBy_putObj_a _ _ _) U2.size (λk e=>by grind)⟩,U8.trans (KeepsWalks.putObj _ UN rfl)⟩;have:=Uz.kept (grownBy_putObj_a w4 l (.loop {{pK fn sv Bs D .ready none with state:= .busy}with state:=if(none:Option Code).isNone then .ready else .done,pending:=none})) (ownsRow_ne_a Uz UN (λUx e=>by cases e));simpa [uO,kx]using this
def EU (F:Fence)(n:Nat)(hF:∀f,F.fn f)(hro:F.round=none)(hn:2<=n)(g:Nat)(lb:Array Value)(eg:∀args w,(callFunc g args).run prog w= .ok (.enter g args) w)
  (S:List LV->Prop) (N:Nat) (hN:N<=maxLen) (hNb:N*24<=140737488355328) (w:an) (hseq:SeqGives F (n-1) prog g lb kV S N w):
  CallsIn F n prog 407 #[ah,.func (.func g) #[] lb] w λe w'=>∃(v:Value) (ss:List LV),e= .returned v/\S ss/\w'.ownsRow w.heap.size 386 2 v ss.length (kx ss)/\aj w w':=by
 have h1:1<=n:=Ue;refine callsIn_of_wp_marks func407 rfl (hF _) ?_ hro;simp only[ntmps407,dB,be,cW,Nat.reduceAdd,Nat.reduceSub,dg,dh,dC,dv,aS,bf]
 gi_wp2
 refine wpIn_rangeFunc ?_;intro fn UV;rw[hro];obtain⟨W0,UO⟩:∃W0,w.alloc (.cells #[ah] 389)=W0:=⟨_,rfl⟩;have U9:W0.heap.size=w.heap.size+1:=by rw[<-UO];simp
 have Va:W0.heap[w.heap.size]?=some (.cells #[ah] 389 (0,0)):=by rw[<-UO];exact World.alloc_heap_new w _
 have UT:aj w W0:=by rw[<-UO];exact(Below.refl _ w).alloc (ay _) _
 rw[UO];obtain⟨W1,UC⟩:∃W1,(W0.alloc (.deferred (some []))).alloc (.loop (pK fn (.func (.func g) #[] lb) w.heap.size W0.heap.size .ready none))=W1:=⟨_,rfl⟩
 have hold:∀k,k<W0.heap.size->W1.heap[k]?=W0.heap[k]?:=λk hk=>by
  rw[<-UC];exact(Below.heap_alloc _ _ k Ug).trans (Below.heap_alloc _ _ k hk)
 have UU:aj w W1:=by rw[<-UC];exact(UT.alloc UT.size _).alloc (by have:=UT.size;simp;omega) _
 have hs1:W1.heap.size=W0.heap.size+2:=by rw[<-UC];simp
 have hM:Hu w fn (.func (.func g) #[] lb) w.heap.size (W0.heap.size+1) W0.heap.size [] W1:=
  ⟨⟨_,(hold w.heap.size Ue).trans Va,⟨rfl,.inl ⟨rfl,rfl⟩⟩⟩, by rw[<-UC];have:=World.alloc_heap_new (W0.alloc (.deferred (some []))) (.loop (pK fn (.func (.func g) #[] lb) w.heap.size W0.heap.size .ready none));rwa [cj]at this, by rw[<-UC];exact(Below.heap_alloc _ _ _ Uf).trans (World.alloc_heap_new W0 _),UU⟩
 refine⟨W0.heap.size+1,[{target:= .collected W0.heap.size,args:= #[]}],W1,{target:= .fn (.func g) lb,args:= #[.func (.yield (W0.heap.size+1)) #[] #[]]},W1,g,
  #[.func (.yield (W0.heap.size+1)) #[] #[]]++lb,W1,?_,?_,?_,?_,λ_=>h1,?_⟩
 ·rw[<-UC];exact run_enterLoop_outer _ _ _ _ _
 ·simp[resolve,go_sem]
 ·grind
 ·simp[invoke,go_sem,eg]
 ·refine(hseq (W0.heap.size+1) (Hu w fn (.func (.func g) #[] lb) w.heap.size (W0.heap.size+1) W0.heap.size) W1 UU (zV _ _ _ _ _ _ _ UU.size)
   (λpre x W hJ hl=>Nm F (n-1-1) w fn UV _ w.heap.size (W0.heap.size+1) W0.heap.size Ue Ue Ue (ay _) Ue N hN hNb pre x W hJ hl) hM).mono ?_
  rintro e W2 ⟨⟨v0,rfl⟩,ss,hS,h2⟩;have⟨v,hv,Uq⟩:=h2.box;have UG:=run_endLoop (P:=prog) h2.L (by simp[pK]);obtain⟨W3,UJ⟩:∃W3,W2.putObj (W0.heap.size+1) (.loop {pK fn (.func (.func g) #[] lb) w.heap.size W0.heap.size .ready none with state:= .exhausted})=W3:=⟨_,rfl⟩;rw[UJ]at UG;have UH:W2.grownBy W3 (some (W0.heap.size+1)):=by rw[<-UJ];exact grownBy_putObj_a _ _ _
  have UD:W3.heap[w.heap.size]?=some (.cells #[v] 389 (0,0)):=by rw[<-UJ];exact(World.putObj_heap_other Ue).trans hv
  have UE:W3.heap[W0.heap.size]?=some (.deferred (some [])):=by rw[<-UJ];exact(World.putObj_heap_other Ue).trans h2.K
  have UA:=Uq.kept UH (ownsRow_ne_a Uq h2.L (λUx e=>by cases e));have UF:aj w W3:=h2.below.grown UH h2.below.size (λk e=>by grind);have⟨Vf,Vg⟩:=cell_of_box_a UD;clear UJ;refine⟨none,W3,UG,?_⟩
  gi_wp2
  rw[<-U9];refine⟨Uf,.inl ⟨_,_,rfl,run_takeDeferred UE,?_⟩⟩;exact⟨_,results_tmp rfl _ _ _,v,ss,rfl,hS,UA.kept (grownBy_putObj_a _ _ _) (ownsRow_ne_a UA UE (λUx e=>by cases e)),UF.grown (grownBy_putObj_a _ _ _) UF.size (λk e=>by grind)⟩
def JV (F:Fence)(n:Nat)(hF:∀f,F.fn f)(hro:F.round=none)(hn:3<=n)(g:Nat)(lb:Array Value)(eg:∀args w,(callFunc g args).run prog w= .ok (.enter g args) w)
  (S:List LV->Prop) (N:Nat) (hN:N<=maxLen) (hNb:N*24<=140737488355328) (w:an) (hseq:SeqGives F (n-1-1) prog g lb kV S N w):
  CallsIn F n prog 354 #[.func (.func g) #[] lb] w λe w'=>∃(v:Value) (ss:List LV),e= .returned v/\S ss/\w'.ownsRow w.heap.size 386 2 v ss.length (kx ss)/\aj w w':=by
 have h1:1<=n:=Ue;refine callsIn_of_wp func354 rfl (hF _) ?_ hro;simp only[ntmps354,dB,be,cW,Nat.reduceAdd,Nat.reduceSub,dg,dh,dC,dv,aS,bf]
 gi_wp2
 refine(EU F (n-1) hF hro Ue g lb eg S N hN hNb _ hseq).mono ?_;rintro e w' ⟨v,ss,rfl,hS,Uq,hb⟩
 gi_wp2
 go_ret;exact⟨v,ss,rfl,hS,Uq,hb⟩
end
end Go.Proofs.YtfebdimolnobaaaGreatDoor
namespace Go.Proofs
open Go.Shelf
theorem Tryz.bShelfKy {f:FuncId}{B:Func}(h:((prog.funcs[f]?).elim "" Func.name== "runtime.NumGoroutine")=false)(k:prog.funcs[f]?=some {B with name:=(prog.funcs[f]?).elim "" Func.name}):Bears prog f B:=⟨_,h,k⟩
def Tryz.sortK_ren:Go.Shelf.Ren:=⟨fun|6=>355|15=>169|14=>408|28=>254|29=>255|20=>427|21=>428|22=>429|23=>430|24=>431|25=>432|26=>433|27=>434|46=>441|47=>332|48=>333|49=>442|50=>443|57=>446|n=>n,fun|22=>389|24=>386|25=>394|3=>3|39=>295|0=>0|53=>164|55=>53|4=>4|46=>367|45=>366|50=>331|5=>5|9=>9|66=>428|70=>431|76=>468|77=>469|n=>n,fun|n=>n⟩
theorem Tryz.sortK:Go.Proofs.SlLaysF0.n6 Tryz.prog Tryz.sortK_ren:=by constructor<;>first|kernel_rfl|(intro w;kernel_rfl)|(apply Tryz.bShelfKy<;>kernel_rfl)
end Go.Proofs
namespace Go.Proofs.YtfebdimolnobaaaGreatDoor
open Go.RowKit Go.Proofs.Tryz
section
open Go.Maps Go.Sort
open Uq
def xE (x:Int)(w:an):Calls prog 409 #[.int .u64 x] w λe w'=>e= .returned (.bool false)/\w'=w:=by
 go_in
 go_wp2;go_ret;exact⟨rfl,rfl⟩
def xF (x:am)(w:an):Calls prog 410 #[ae x] w λe w'=>e= .returned (.bool false)/\w'=w:=by
 go_in
 go_wp2;go_ret;exact⟨rfl,rfl⟩
def JX (x y:am):Int:=if Op.bytesLess x.toList y.toList then-1 else if x.toList==y.toList then 0 else 1
def EV (x y:Int)(w:an):Calls prog 358 #[.int .u64 x,.int .u64 y] w λe w'=>e= .returned (aa (kr x y))/\w'=w:=by
 unfold kr
 by_cases h:x<y
 ·rw[dE h];go_in
  go_wp2_with (first|(go_at_call 409;refine(xE _ _).mono ?_;rintro e w' ⟨rfl,rfl⟩))
  go_ret;exact⟨rfl,rfl⟩
 ·have hd:decide (x<y)=false:=by simp[h]
  rw[dD h]
  by_cases h2:y<x
  ·rw[dE h2];go_in
   go_wp2_with (first|(go_at_call 409;refine(xE _ _).mono ?_;rintro e w' ⟨rfl,rfl⟩))
   go_ret;exact⟨rfl,rfl⟩
  ·have hd2:decide (y<x)=false:=by simp[h2]
   rw[dD h2];go_in
   go_wp2_with (first|(go_at_call 409;refine(xE _ _).mono ?_;rintro e w' ⟨rfl,rfl⟩))
   go_ret;exact⟨rfl,rfl⟩
def EW (x y:am)(w:an):Calls prog 359 #[ae x,ae y] w λe w'=>e= .returned (aa (JX x y))/\w'=w:=by
 unfold JX
 cases h:Op.bytesLess x.toList y.toList with
 |true=>
  rw[dE rfl];go_in
  go_wp2_with (first|(go_at_call 410;refine(xF _ _).mono ?_;rintro e w' ⟨rfl,rfl⟩))
  go_ret;exact⟨rfl,rfl⟩
 |false=>
  rw[dD Uh]
  cases h2:x.toList==y.toList with
  |true=>
   rw[dE rfl];go_in
   go_wp2_with (first|(go_at_call 410;refine(xF _ _).mono ?_;rintro e w' ⟨rfl,rfl⟩))
   go_ret;exact⟨rfl,rfl⟩
  |false=>
   rw[dD Uh];go_in
   go_wp2_with (first|(go_at_call 410;refine(xF _ _).mono ?_;rintro e w' ⟨rfl,rfl⟩))
   go_ret;exact⟨rfl,rfl⟩
def R9 (x y:Int):Int:=if x=0 then y else x
def Sp (x y:Int)(b:Nat)(w:an)(h0:w.cell? (ai b 0)=some (aa x))(h1:w.cell? (ai b 1)=some (aa y)):
  Calls prog 357 #[Ub b 2 2] w λe w'=>e= .returned (aa (R9 x y))/\w'=w:=by
 unfold R9
 by_cases hx:x=0
 ·rw[dE hx];subst hx
  by_cases hy:y=0
  ·subst hy;go_in
   go_wp2;refine wp_loop_rounds 3 ?_;rw[rounds_succ];go_wp2;rw[rounds_succ];go_wp2;rw[rounds_succ];go_wp2;go_ret;exact⟨rfl,rfl⟩
  ·go_in
   go_wp2;refine wp_loop_rounds 2 ?_;rw[rounds_succ];go_wp2;rw[rounds_succ];go_wp2;go_ret;exact⟨rfl,rfl⟩
 ·rw[dD hx];go_in
  go_wp2;refine wp_loop_rounds 1 ?_;rw[rounds_succ];go_wp2;go_ret;exact⟨rfl,rfl⟩
def xG (x y:LV):Int:=R9 (kr x.1 y.1) (JX x.2 y.2)
def xH (x y:LV)(w:an):Calls prog 275 #[kV x,kV y] w λe w'=>e= .returned (aa (xG x y))/\∃q os,w'=grow (w.drewN q) os:=by
 obtain⟨x1,x2⟩:=x;obtain⟨y1,y2⟩:=y;unfold kV;go_in
 have hc:∀(o1 o2:Obj) (v0 v1:Value),(((w.alloc o1).alloc o2).alloc (.cells #[v0,v1] 3)).drew.cell? (ai (w.heap.size+1+1) 0)=some v0/\(((w.alloc o1).alloc o2).alloc (.cells #[v0,v1] 3)).drew.cell? (ai (w.heap.size+1+1) 1)=some v1:=λo1 o2 v0 v1=>by
  have h:=lS ((w.alloc o1).alloc o2) v0 v1 3;have h0:=h 0 v0 rfl;have h1:=h 1 v1 rfl;simp only[cj,Addr.add]at h0 h1;exact⟨h0,h1⟩
 go_upto_region 1 with fail
 go_region_held2 (λW=>W.cell? (ai w.heap.size 0)=some (.int .u64 x1)/\W.cell? (ai w.heap.size 1)=some (ae x2)/\W.cell? (ai (w.heap.size+1) 0)=some (.int .u64 y1)/\W.cell? (ai (w.heap.size+1) 1)=some (ae y2)) (go_keep) (first
  |(go_at_call 358;refine(EV _ _ _).mono ?_;rintro e w' ⟨rfl,rfl⟩)
  |(go_at_call 359;refine(EW _ _ _).mono ?_;rintro e w' ⟨rfl,rfl⟩)
  |(go_at_call 357;refine(Sp _ _ _ _ (hc _ _ _ _).1 (hc _ _ _ _).2).mono ?_;rintro e w' ⟨rfl,rfl⟩))
 go_wp2;go_ret;exact⟨rfl,1,#[_,_,_],rfl⟩
def Nn (x y:am):JX x y<0<->Op.bytesLess x.toList y.toList=true:=by
 unfold JX
 split
 ·rename_i h;simp[h]
 ·rename_i h;split<;>simp[h]
def Gl (x y:Int):kr x y=0<->x=y:=by
 unfold kr
 split
 ·simp;omega
 ·split
  ·simp;omega
  ·simp;omega
def Bo (x y:LV):xG x y<0<->lN x y:=by
 unfold xG R9 lN
 by_cases h:x.1=y.1
 ·rw[dE ((Gl _ _).2 h),Nn];simp[h]
 ·rw[dD (λq=>h ((Gl _ _).1 q)),mY];simp[h]
def QY (x y:LV):ltOf xG x y=true<->lN x y:=by
 unfold ltOf;simp[Bo]
def Sq:SWO (ltOf xG)where
 irrefl x:=by rw[ch];exact λh=>oE _ ((QY _ _).1 h)
 trans x y z h1 h2:=(QY _ _).2 (jZ ((QY _ _).1 h1) ((QY _ _).1 h2))
 ntrans x y z h1 h2:=by
  rw[ch,Ne,QY]at*;intro h
  rcases vS y x with q|q|q
  ·exact h2 (jZ q h)
  ·exact h2 (sD q h)
  ·exact h1 q
def Dm {a b:LV}(h:ji a b):a=b:=by
 obtain⟨h1,h2⟩:=h;exact cU h1 (cM (cT.1 (by rw[<-ByteArray.toList_eq,<-ByteArray.toList_eq];exact h2)))
def vq (k:LV):aq:= [.int .u64 k.1,ae k.2]
def Dn:∀(ss:List LV) (t:Nat),t<ss.length*2->(kx ss)[t]?=some ((vq ss.toArray[t/2]!)[t%2]!)
 | [],t,h=>by simp at h
 |k::ss,0,_=>by simp[kx,vq]
 |k::ss,1,_=>by simp[kx,vq]
 |k::ss,t+2,h=>by
  have e1:(t+2)/2=t/2+1:=Ue;have e2:(t+2)%2=t%2:=Ue;have h':t<ss.length*2:=by simp at h;omega
  have Uz:t/2<ss.length:=Ue;rw[e1,e2];have:=Dn ss t h';simp only[kx,cC];rw[this]
  congr 3;simp[Uz]
def zW (ss:List LV):(flatK vq 2 ss.toArray).toList=kx ss:=by
 apply List.ext_getElem?;intro t
 by_cases h:t<ss.length*2
 ·rw[Dn ss t h,bz,bF (by simpa using h),<-get_flatK vq 2 ss.toArray t (by simpa using h),getElem!_pos _ t (by simpa using h)]
 ·rw[aY Ug,aY (by rw[j0];omega)]
def Sr (w:an)(lo:Nat)(v:Value)(l:List LV)(e:Ending)(w':an):Prop:=
 e= .returned (.tuple #[])/\∃l':List LV,l'.Perm l/\l'.Pairwise (λa b=>¬lN b a)/\w'.ownsRow lo 386 2 v l.length (kx l')/\w.grownBy w' v.ownBlock
def PG (w:an)(lo:Nat)(v:Value)(l:List LV)(Uq:w.ownsRow lo 386 2 v l.length (kx l))(hl:l.length<=1099511627776):
  Ua 355 #[v,.func (.func 275) #[] #[]] w (Sr w lo v l):=by
 by_cases h0:l= []
 ·subst h0;obtain⟨a,c,rfl⟩:=iD Uq;refine(AnyF.slices_SortFunc_none (P:=prog) (ρ:=Tryz.sortK_ren) Tryz.sortK a c _ w).mono ?_;rintro e w' ⟨rfl,rfl⟩;exact⟨rfl,[],List.Perm.refl _,List.Pairwise.nil,Uq,⟨rfl,rfl,rfl,ay _,λ_ _ _=>rfl⟩⟩
 ·rcases Uq.2 with⟨rfl,h1⟩|⟨g,cap,UC,rfl,hg,hb,hn,hm,hs,ht⟩
  ·exact absurd (bC h1) h0
  ·have UA:g<w.heap.size:=dM.lt hb;have eg:∀args w,(callFunc 275 args).run prog w= .ok (.enter 275 args) w:=enters_of func275 Uj rfl;have Uv:CmpLays prog 275 #[] vq 2 xG g 0 l.toArray.size w:=λm os dk hsz x y=>xH x y _
   have hH:HoldsK vq 2 w g 0 l.toArray:=by
    have:=zh (enc:=id) (w:=w) (g:=g) (ss:=kx l) hb (by rw[j0,List.map_id,Nat.mul_comm];exact ht);rw[<-zW]at this;exact this
   have Us:=AnyQ.slices_SortFunc Tryz.sortK 2 (λ_=>isAgg386 _) (λ_=>sizeOf386 _) vq (λ_=>rfl) (λx v hv=>by simp[vq]at hv;rcases hv with rfl|rfl<;>rfl) xG Sq 275 #[] g 0 cap l.toArray w eg Uv hH UA Ug;have e1:l.toArray.size=l.length:=Uf;rw[e1]at Us;refine Us.mono ?_;rintro e w' ⟨rfl,d',n,os,Ur,Ut,rfl⟩;have hsz:d'.size=l.length:=by rw[Ur.1];exact e1
   obtain⟨l',rfl⟩:∃l':List LV,l'.toArray=d':=⟨d'.toList,Uf⟩;have Ux:l'.length=l.length:=by simpa using hsz
   refine⟨rfl,l',?_,?_,?_,tE (enc:=id) (flatK vq 2 l'.toArray)⟩
   ·have h2:=Ur.2.2;rw[<-e1]at h2;rw[dx,show l.toArray.size=l'.toArray.size from by simp[Ux],dx]at h2;simpa using h2
   ·rw[bM];intro i j hi hj UD;have h2:=Ut i j (aL _) UD Ue;rw[getElem!_pos l'.toArray i (by simpa using hi),getElem!_pos l'.toArray j (by simpa using hj),ch,Ne,QY]at h2;simpa using h2
   ·refine⟨by rw[j0];omega,.inr ⟨g,cap,_,rfl,hg,CK (enc:=id) (flatK vq 2 l'.toArray) hb,hn,hm,by simp[putCells,hs],?_⟩⟩;have:=CL (enc:=id) UC (kx l') (by rw[j0];omega);rw[j0,List.map_id]at this;have e3:flatK vq 2 l'.toArray=(kx l').toArray:=by rw[<-zW]
    rw[e3,Nat.mul_comm,<-Ux];exact this
def Rl (w:an)(S:List LV->Prop)(e:Ending)(w':an):Prop:=
 ∃(v:Value) (ss l:List LV),e= .returned v/\S ss/\l.Perm ss/\l.Pairwise (λa b=>¬lN b a)/\w'.ownsRow w.heap.size 386 2 v l.length (kx l)/\aj w w'
def Do (w:an)(Bm N:Nat)(S:List LV->Prop)(hN:N<=1099511627776)(hS:∀ss,S ss->ss.length<=N)(hk:ER w Bm S N):
  Calls prog 273 #[.func (.func 356) #[] #[ag Bm],.func (.func 275) #[] #[]] w (Rl w S):=by
 have eg:∀args w,(callFunc 356 args).run prog w= .ok (.enter 356 args) w:=enters_of func356 Uj rfl;have hm:maxLen=9223372036854775807:=rfl;have Uw:=(JV {fn:=λ_=>True} 3 (λ_=>trivial) rfl Ue _ #[ag Bm] eg S N Ue Ue w (hk _ _ (λ_=>trivial) rfl Ue)).calls (λ_ _ h=>by cases h);go_in
 go_wp2_with fail;refine Uw.mono ?_;rintro e w1 ⟨v,ss,rfl,Uy,Uq,hb⟩;obtain⟨a,c,rfl⟩:=iD Uq;go_wp2_with fail;refine(PG w1 w.heap.size _ ss Uq (aG (hS ss Uy) hN)).mono ?_;rintro e w2 ⟨rfl,l,hp,UE,Uu,hg⟩;go_wp2;go_ret;have UB:l.length=ss.length:=hp.length_eq;exact⟨_,ss,l,rfl,Uy,hp,UE,by rw[UB];exact Uu,hb.grown hg hb.size (λk e=>(Uq.lt k e).1)⟩
section
variable {ks:List LV} {ps:au} {w:an}
theorem zX:∀{ks:List LV} {ps:au} {q:LV},ks.length=ps.length->q∈ks->∃p,jy ks ps q=some p
 | [],_,_,_,h=>by cases h
 |_::_,[],_,h,_=>by simp at h
 |k::ks,p::ps,q,hl,h=>by
  rw[jy]
  by_cases e:k.1=q.1/\gG k.2 q.2=true
  ·exact⟨p,dE e⟩
  ·rw[dD e]
   rcases aN.1 h with rfl|h
   ·exact absurd ⟨rfl,gw.2 rfl⟩ e
   ·exact zX (by simpa using hl) h
theorem Dp:∀{ks:List LV} {ps:au} {i:Nat} {q:LV} {p:Nat},ks.Pairwise lN->ks[i]?=some q->ps[i]?=some p->jy ks ps q=some p
 | [],_,_,_,_,_,h,_=>by simp at h
 |_::_,[],_,_,_,_,_,h=>by simp at h
 |k::ks,p::ps,0,q,p',_,h,h'=>by
  simp at h h';subst h h';rw[jy,dE ⟨rfl,gw.2 rfl⟩]
 |k::ks,p::ps,i+1,q,p',hp,h,h'=>by
  simp at h h';rw[bg]at hp;have Ux:=hp.1 q (aI h);rw[jy,dD (λe=>kM Ux ⟨e.1,gw.1 e.2⟩)];exact Dp hp.2 h h'
theorem zY:∀{a b:List LV},a.Pairwise lN->b.Pairwise lN->(∀x,x∈a<->x∈b)->a=b
 | [],[],_,_,_=>rfl
 | [],y::b,_,_,h=>by have:=(h y).2 Uf;cases this
 |x::a,[],_,_,h=>by have:=(h x).1 Uf;cases this
 |x::a,y::b,h1,h2,h=>by
  rw[bg]at h1 h2
  have e:x=y:=by
   rcases aN.1 ((h x).1 Uf)with e|e
   ·exact e
   ·rcases aN.1 ((h y).2 Uf)with e'|e'
    ·exact e'.symm
    ·exact absurd (jZ (h1.1 y e') (h2.1 x e)) (oE _)
  subst e
  congr 1;refine zY h1.2 h2.2 λz=>⟨λhz=> ?_,λhz=> ?_⟩
  ·rcases aN.1 ((h z).1 (by simp[hz]))with e|e
   ·subst e;exact absurd (h1.1 _ hz) (oE _)
   ·exact e
  ·rcases aN.1 ((h z).2 (by simp[hz]))with e|e
   ·subst e;exact absurd (h2.1 _ hz) (oE _)
   ·exact e
theorem No {D:DataW Unit}{ss l:List LV}(hD:∀(k:LV) kl,Go.keyOf prog 386 (kV k)=some kl->∀z,D.atKey kl z=Rh (jy ks ps k) z)
  (hl:ks.length=ps.length) (hk:∀k∈ks,yO k) (hs:ks.Pairwise lN) (hC:pJ D (λ_=>false) ss) (hp:l.Perm ss) (UG:l.Pairwise (λa b=>¬lN b a)):l=ks:=by
 have UF:∀x,x∈ss<->x∈ks:=λx=>by
  have UH:yO x->(x∈ss<->x∈ks):=λhx=>by
   have⟨kl,Uw⟩:=PD hx;rw[hC.2.2 x kl Uw];simp only[and_true]
   constructor
   ·intro h
    by_cases hm:x∈ks
    ·exact hm
    ·have hn:jy ks ps x=none:=xt λy hy e=>hm (Dm e▸hy)
     have:=has_false_of_atKey (D:=D) (k:=kl) λz=>by rw[hD x kl Uw z,hn];rfl
     rw[this]at h;cases h
   ·intro h;have⟨p,hp⟩:=zX hl h;exact has_true_of_atKey (y:=nO (some p)) λz=>by rw[hD x kl Uw z,hp];rfl
  exact⟨λh=>(UH (hC.2.1 x h)).1 h,λh=>(UH (hk x h)).2 h⟩
 have UK:l.Nodup:=hp.nodup_iff.2 hC.1;refine zY ?_ hs (λx=>(hp.mem_iff).trans (UF x));refine(UG.and UK).imp ?_;rintro a b ⟨h1,h2⟩
 rcases vS a b with h|h|h
 ·exact h
 ·exact absurd (Dm h) h2
 ·exact absurd h h1
theorem Np (w:an):(zeroValue 180).run prog w= .ok (.pointer none) w:=Uj
theorem JY {mb:Nat}{i p:Nat}{q:LV}(h:jz w mb ks ps)(hs:ks.Pairwise lN)(hk:yO q)(h1:ks[i]?=some q)(h2:ps[i]?=some p):
  (Instr.lookup 247 (.map (some mb)) (.agg #[.int .u64 q.1,ae q.2]) false).run prog w= .ok (ag p) w:=by
 obtain⟨D,Uq,_,hD⟩:=h;have⟨kl,Uw⟩:=PD hk;have⟨v,pl,UA,hR⟩:=Uq.lookup EK underlying247 (Np w) (kK none) Uw;have e:=hD q kl Uw;rw[Dp hs h1 h2]at e;simp only[Rh]at e;unfold nO at e;rw[e]at hR;unfold kV at UA;rw[UA,pr (o:=some p) hR];rfl
theorem JZ (w:an)(v:Option Nat):Calls prog 274 #[.map v] w λe w'=>
  e= .returned (.func (.func 356) #[] #[ag w.heap.size])/\w'=w.alloc (ak #[.map v] 247):=by
 go_in
 go_wp2;go_ret;exact⟨rfl,rfl⟩
def EX (w:an)(v:Value)(ks:List LV)(ps:au):Prop:=
 (v= .map none/\ks= []/\ps= [])\/∃mb,v= .map (some mb)/\jz w mb ks ps/\ks.length=ps.length/\(∀k∈ks,yO k)/\ks.Pairwise lN
theorem Dq {v:Value}(h:EX w v ks ps)(hn:ks.length<=1099511627776):
  Ua 273 #[.func (.func 356) #[] #[ag w.heap.size],.func (.func 275) #[] #[]] (w.alloc (ak #[v] 247))
   λe w'=>∃v',e= .returned v'/\w'.ownsRow w.heap.size 386 2 v' ks.length (kx ks)/\aj w w':=by
 have UE:aj w (w.alloc (ak #[v] 247)):=(Below.refl _ _).alloc (ay _) _;have hc:(w.alloc (ak #[v] 247)).cell? (ai w.heap.size 0)=some v:=(dM.new w #[v] 247).cell 0
 rcases h with⟨rfl,rfl,rfl⟩|⟨mb,rfl,hm,hl,hk,hs⟩
 ·refine(Do _ w.heap.size 0 (λss=>ss= []) Ue (λss h=>by simp[h]) (Dl Uf hc)).mono ?_;rintro e w' ⟨v',ss,l,rfl,rfl,hp,_,Ur,hb⟩;obtain rfl:=hp.eq_nil;exact⟨v',rfl,ownsRow_base_a Ur Uf,UE.trans (hb.mono UE.size)⟩
 ·obtain⟨D,Uq,hsz,hD⟩:=hm
  have Uy:(w.alloc (ak #[.map (some mb)] 247)).ownsMap prog 386 gr mb ks.length D:=by
   have Ux:=Uq.lt;obtain⟨es,clock,UN,Ft,hs,hD⟩:=Uq;exact⟨es,clock,(Below.heap_alloc _ _ _ Ux).trans UN,Ft,hs,hD⟩
  refine(Do _ w.heap.size (Go.Maps.size D) (λss=>pJ D (λ_=>false) ss/\ss.length<=Go.Maps.size D) Ue (λ_ h=>h.2) (ES Uf hc Uy)).mono ?_;rintro e w' ⟨v',ss,l,rfl,⟨hC,_⟩,hp,UG,Ur,hb⟩;obtain rfl:=No hD hl hk hs hC hp UG;exact⟨v',rfl,ownsRow_base_a Ur Uf,UE.trans (hb.mono UE.size)⟩
def J8 (w:an)(ps:au)(e:Ending)(w':an):Prop:=
 ∃v,e= .returned v/\w'.ownsRow w.heap.size 180 1 v ps.length (eU ps)/\aj w w'
theorem Gm:∀{ks:List LV} {i:Nat} {q:LV},ks[i]?=some q->(kx ks)[i*2]?=some (.int .u64 q.1)/\(kx ks)[i*2+1]?=some (ae q.2)
 | [],_,_,h=>by simp at h
 |k::ks,0,q,h=>by simp at h;subst h;simp[kx]
 |k::ks,i+1,q,h=>by
  have:=Gm (ks:=ks) (i:=i) (q:=q) (by simpa using h);have e1:(i+1)*2=i*2+1+1:=Ue;rw[e1];simpa [kx]using this
theorem tW {o:Option Nat}(h:EX w (.map o) ks ps)(hn:ks.length<=1099511627776)(hlp:ks.length=ps.length):
  Calls prog 198 #[.map o] w (J8 w ps):=by
 have⟨i0,UO,UP,UQ,UR⟩:=info_parts (show(prog.info? 180).map (λi=>(i.zero,i.size,i.bytes))=some (some (.pointer none),1,8)by kernel_rfl);go_in
 go_wp2_with (first|(go_at_call 274;refine(JZ w o).mono ?_;rintro e w' ⟨rfl,rfl⟩)|(go_at_call 273;refine(Dq h hn).mono ?_;rintro e w1 ⟨v',rfl,Ur,hb⟩;obtain⟨ad,n,c,rfl⟩:=dN Ur;obtain rfl:n=ks.length:=eK Ur))
 go_loopw [3,5,10] (λv _ i wr=>∃(k:Nat),k<=ks.length/\i=aa k/\wr.ownsRow w1.heap.size 180 1 v (ps.take k).length (eU (ps.take k))/\aj w1 wr) (λ_ _ i _=>ks.length-(intOf i).toNat)
 case atStart=>exact⟨0,aL _,rfl,bm _ _ _ _,Below.refl _ _⟩
 case round=>
  obtain⟨k,hk,rfl,Uq,Ut⟩:=hrel
  by_cases Ux:k<ks.length
  ·have⟨q,hq⟩:=gx Ux;have⟨p,hp⟩:=gx (l:=ps) (i:=k) Ue;have⟨c0,c1⟩:=Gm hq;obtain⟨gf,rfl,_,UB,Us⟩:=el Ur Ue;have t0:=Us wr (Ut.block gf UB) _ _ c0;have t1:=Us wr (Ut.block gf UB) _ _ c1;have Uu:ps.take (k+1)=ps.take k++ [p]:=by rw[bJ,hp];rfl
   have hlook:(Instr.lookup 247 (.map o) (.agg #[.int .u64 q.1,ae q.2]) false).run prog (wr.alloc (ak #[.int .u64 q.1,ae q.2] 386))= .ok (ag p) (wr.alloc (ak #[.int .u64 q.1,ae q.2] 386)):=by
    rcases h with⟨_,rfl,_⟩|⟨mb,e,UJ,hl,US,hs⟩
    ·simp at hq
    ·cases e
     have Uv:=UJ.lt;have UL:(wr.alloc (ak #[.int .u64 q.1,ae q.2] 386)).heap[mb]?=w.heap[mb]?:=(Below.heap_alloc _ _ _ (aD (aD Uv hb.size) Ut.size)).trans ((Ut.block mb (aD Uv hb.size)).trans (hb.block mb Uv));exact JY (UJ.keep UL) hs (US q (aI hq)) hq hp
   have UM:(ps.take k).length<=1099511627776:=by rw[bG];omega
   have UI:Hid (ps.take (k+1)=ps.take k++ [p]):=Uu;have Uz:=cell_one_new (wr.alloc (ak #[.int .u64 q.1,ae q.2] 386)) (ag p) 180;rw[cj]at Uz;clear Us Uu;generalize ps.take k=L at Uq UM UI;go_wp2_with (first|(at_builtin;refine wpList_append_own_at _ rfl _ _ 245 rfl w1.heap.size 180 i0 _ 1 8 underlying245 UO UP UQ UR rfl Uh u3 _ _ rfl ((Uq.alloc _).alloc _) _ 1 1 [_] rfl rfl Uz ?h1 ?h63 ?hby ?hba ?_;rotate_right;intro v' w5 UC UD hnil hloc))
   case h1=>intro u hu;simp at hu;subst hu;rfl
   case h63=>unfold maxLen;omega
   case hby=>omega
   case hba=>have:=Ut.size;simp;omega
   refine⟨⟨k+1,Ue,by go_num,?_,?_⟩,by simp[intOf];omega⟩
   ·rw[UI.out];simpa [eU,gI]using UC
   ·exact((Ut.alloc Ut.size _).alloc (by have:=Ut.size;simp;omega) _).grown UD (by have:=Ut.size;simp;omega) (λj hj=>(Uq.lt j hj).1)
  ·have hli:decide ((k:Int)<(ks.length:Int))=false:=Ug;obtain rfl:k=ks.length:=Ue;rw[hlp,bo]at Uq;go_wp2;go_ret;exact⟨_,rfl,ownsRow_base_a Uq hb.size,hb.trans (Ut.mono hb.size)⟩
end
end
section
open Go.Maps
open Uq
section
variable {w:an} {k:Nat} {x:gj} {f:PF} {A:ap} {S:d8} {T:Option MT} {ps:au} {t:am}
theorem OU (w:an)(x0 x1 x2 x3:Value)(t:TypeId):∀j u,[x0,x1,x2,x3][j]?=some u->(w.alloc (.cells #[x0,x1,x2,x3] t)).cell? (((ai w.heap.size 0):Addr).add j)=some u:=br (dM.new w _ _)
def xI (S:d8)(k:Nat):Prop:=∀(T:Option MT) (w:an) (Z:ap) (db:Nat) (m:PM),ek S k T w Z db m->Ua 85 #[ag db] w (Rj k w Z m)
theorem Nq {lv:List LV}(h:Ti w x f A lv)(hA:∀b,A b->b<w.heap.size):
  Calls prog 137 #[.agg #[aa x.1,x.2.1,x.2.2.1,x.2.2.2]] w (rC k w A f.2):=by
 obtain⟨xn,xv,xm,xe⟩:=x;obtain⟨_,U8,Uv,rfl,rfl⟩:=h;simp only at Uv;obtain⟨a,n,c,rfl⟩:=dN Uv.1;have B0:∀o,aj w (w.alloc o):=λo=>(Uc w).alloc (ay _) o
 go_in
 go_wp2;refine wp_loop_rounds 1 ?_;rw[rounds_succ];have UP:∀w0:an,Ua 198 #[.map none] w0 (J8 w0 []):=λw0=>tW (ks:= []) (.inl ⟨rfl,rfl,rfl⟩) Uf rfl
 go_wp2_with (first|(go_at_call 198;refine(UP _).mono ?_;rintro e w1 ⟨v,rfl,UL,Ur⟩;obtain⟨a1,n1,c1,rfl⟩:=dN UL;obtain rfl:n1=0:=eK UL))
 refine wp_loop_rounds 1 ?_;rw[rounds_succ];go_wp2;go_ret;have UQ:=dI (B0 _) Ur;refine⟨_,A,rfl,?_,λb hb=>⟨aD (hA b hb) UQ.size,.inl hb⟩,UQ⟩;rw[U8];exact Nl (Uv.keep λb _ hl=>UQ.block b hl)
theorem Nr (HF:xI S k){L:Prop}{B:ap}(h:Tj (ek S k) w T L x f A ps B)(hA:∀b,A b->b<w.heap.size):
  Calls prog 137 #[.agg #[aa x.1,x.2.1,x.2.2.1,x.2.2.2]] w (rC k w A f.2):=by
 obtain⟨xn,xv,xm,xe⟩:=x;obtain⟨_,_,rfl,rfl,Uv,UT,_,Uw,U9⟩:=h;obtain⟨fn,vs⟩:=f;simp only at Uv Uw⊢;obtain⟨a,c,rfl⟩:=iD Uv.1;have⟨i0,UU,UV,UH,UC⟩:=info_parts Tryz.infoV;have hlen:Hid (ps.length=vs.length):=Uw.len;have U4:ps.length<=vs.length/\vs.length<=ps.length:=by have:=hlen.out;omega
 have⟨B0,KB⟩:=dS w #[aa xn,ah,.slice a ps.length c,.map none] 249;have Us:=Uv.keep λb _ hl=>B0.block b hl
 have Uy:=Uw.imp (Q:=λp v C=>v=mV v.2.2/\ek S k T (w.alloc (ak #[aa xn,ah,.slice a ps.length c,.map none] 249)) C p v.2.2) λ_ _ _ _ _ _ h=>⟨h.1,h.2.keep λb _ hl=>B0.block b hl⟩
 go_in
 go_wp2;generalize w.alloc (ak #[aa xn,ah,.slice a ps.length c,.map none] 249)=wB at*;have zB:=B0.size;have UR:∀b,B b->b<wB.heap.size:=λb hb=>by grind
 go_loopw [3,5,13] (λu _ i wr=>∃(q:Nat),q<=ps.length/\i=aa q/\vm S k T wB B wr u (vs.take q) (ps.drop q) (vs.drop q)/\Below wB.heap.size wB wr) (λ_ _ i _=>ps.length-(intOf i).toNat)
 case atStart=>exact⟨0,aL _,rfl,vm.start Uy,Below.refl _ _⟩
 case round=>
  obtain⟨q,hq,rfl,Uq,Uu⟩:=hrel
  by_cases hlt:q<ps.length
  ·have⟨p,hp⟩:=gx hlt;have⟨v,hv⟩:=gx (l:=vs) (i:=q) Ue;obtain⟨gf,rfl,_,UI,Ux⟩:=el Us.1 Ue;have t0:=Ux wr (Uu.block gf UI) q (qL p) (by grind);have e1:ps.drop q=p::ps.drop (q+1):=by rw[aX hlt];grind
   have e2:vs.drop q=v::vs.drop (q+1):=by rw[aX Ue];grind
   have e3:Hid (vs.take (q+1)=vs.take q++ [v]):=by grind
   rw[e1,e2]at Uq;obtain⟨ms,Y,B1,B2,hs,UW,UX,UY,UB,UJ,Uz,hY⟩:=Uq;obtain⟨C,Va,⟨UM,hdr⟩,UZ,hC,U0,U1⟩:=hs;obtain⟨v1,v2,m⟩:=v;have UD:v1=0:=dH Prod.fst UM;have UE:v2=eS:=dH (λz:PV=>z.2.1) UM;subst UD UE;have UF:=HF T wr C p m (hdr.keep λb _ hl=>Uu.block b hl);have US:(vs.take q).length<=1073741824:=by grind
   unfold qL at t0;generalize vs.take q=D at UB Uz US e3;go_wp2_with fail;refine UF.mono ?_;rintro e w1 ⟨mv,Z',rfl,hm,hZ,Ur⟩;obtain⟨a3,c3,rfl⟩:=hm.form;have UG:=eH Ur UB;have z1:=Ur.size;go_wp2_with (first|(at_builtin;refine wpList_append_own_at _ rfl _ _ 56 rfl wB.heap.size 55 i0 _ 4 64 underlying56 UU UV UH UC rfl Uh u3 _ _ rfl (UG.alloc _) _ 1 1 [_,_,_,_] rfl rfl (OU _ _ _ _ _ _) ?h1 ?h63 ?hby ?hba ?_;rotate_right;intro v' w5 UA Ut U2 U3))
   case h1=>intro u hu;simp at hu;rcases hu with rfl|rfl|rfl|rfl<;>rfl
   case h63=>unfold maxLen;omega
   case hby=>omega
   case hba=>have:=Uu.size;simp;omega
   have zr:=Uu.size;refine⟨⟨q+1,Ue,by go_num,?_,?_⟩,by simp[intOf];omega⟩
   ·rw[e3.out];refine vm.step UR Uu.size UZ hC U0 U1 UW UX UY UB UJ Uz hY (dI Ur ((Below.refl _ _).alloc (ay _) _)) (hm.keep λb _ hl=>Below.heap_alloc _ _ b hl) (λb hb=>⟨by have:=(hZ b hb).1;simp;omega,(hZ b hb).2⟩) Ut (by simpa [rz,eS]using UA) ?_
    grind
   ·exact(dI Uu (dI Ur ((Below.refl _ _).alloc (ay _) _))).grown Ut Ug (λj hj=>(UB.lt j hj).1)
  ·have U5:decide ((q:Int)<(ps.length:Int))=false:=by grind
   obtain rfl:q=ps.length:=Ue;rw[cw,hlen.out,bo,cw]at Uq;have UP:∀w0:an,Ua 198 #[.map none] w0 (J8 w0 []):=λw0=>tW (ks:= []) (.inl ⟨rfl,rfl,rfl⟩) Uf rfl
   have⟨k1,k2⟩:=(KB.below Uu KB.lt).rules;go_wp2_with (first|(go_at_call 198;refine(UP _).mono ?_;rintro e w1 ⟨v,rfl,UL,Ur⟩;obtain⟨a1,n1,c1,rfl⟩:=dN UL;obtain rfl:n1=0:=eK UL))
   refine wp_loop_rounds 1 ?_;rw[rounds_succ];go_wp2;go_ret;have⟨Z',UH,UC⟩:=Uq.done;have z1:=Ur.size;refine⟨_,Z',rfl,UH.keep (λb _ hl=>Ur.block b hl) (λmv m C _ hm=>hm.keep λb _ hl=>Ur.block b hl),λb hb=>⟨by grind,(UC b hb).2.imp (UT b) (λh=>Ue)⟩,dI B0 (dI Uu Ur)⟩
theorem En.kv {v:PV}(h:En t v):yO (jF t v):=by
 have:=h.lo;have:=h.hi;have:=h.sz;unfold jF;refine⟨?_,?_,by show _<=maxLen;unfold maxLen;grind⟩
 ·simp only
  split<;>omega
 omega
theorem Ns (HF:xI S k){B:ap}{mb:Nat}(h:Tl (ek S k) w x f A t mb ps B)(hA:∀b,A b->b<w.heap.size):
  Calls prog 137 #[.agg #[aa x.1,x.2.1,x.2.2.1,x.2.2.2]] w (rC k w A f.2):=by
 obtain⟨xn,xv,xm,xe⟩:=x;obtain⟨_,rfl,rfl,rfl,UK,UT,_,_,UN,UO,Uw,U9⟩:=h;obtain⟨fn,vs⟩:=f;simp only at UK UN UO Uw⊢;have⟨i0,UU,UV,UH,UC⟩:=info_parts Tryz.infoV;have hlen:Hid (ps.length=vs.length):=Uw.len;have U4:ps.length<=vs.length/\vs.length<=ps.length:=by have:=hlen.out;omega
 have B0:aj w (w.alloc (ak #[aa xn,ah,ah,.map (some mb)] 249)):=(Uc w).alloc (ay _) _
 have U6:EX (w.alloc (ak #[aa xn,ah,ah,.map (some mb)] 249)) (.map (some mb)) (vs.map λv=>jF t (fE v)) ps:=
  .inr ⟨mb,rfl,UK.keep (B0.block mb UK.lt),by grind,(by
   intro q hq;obtain⟨v,hv,rfl⟩:=aP.1 hq
   exact(UN v hv).kv),cm.2 UO⟩
 have U7:=tW U6 (by grind) (by grind);go_in
 go_wp2;refine wp_loop_rounds 1 ?_;rw[rounds_succ];go_wp2_with (first|(go_at_call 198;refine U7.mono ?_;rintro e wB ⟨v,rfl,Us,Ur⟩;obtain⟨a,n1,c,rfl⟩:=dN Us;obtain rfl:n1=ps.length:=eK Us))
 have BB:aj w wB:=dI B0 Ur;have zB:=BB.size;have Uy:=Uw.imp (Q:=λp v C=>v=mV v.2.2/\ek S k none wB C p v.2.2) λ_ _ _ _ _ _ h=>⟨h.1,h.2.keep λb _ hl=>BB.block b hl⟩
 have UR:∀b,B b->b<wB.heap.size:=λb hb=>by grind
 go_loopw [3,7,28] (λu _ i wr=>∃(q:Nat),q<=ps.length/\i=aa q/\vm S k none wB B wr u (vs.take q) (ps.drop q) (vs.drop q)/\Below wB.heap.size wB wr) (λ_ _ i _=>ps.length-(intOf i).toNat)
 case atStart=>exact⟨0,aL _,rfl,vm.start Uy,Below.refl _ _⟩
 case round=>
  obtain⟨q,hq,rfl,Uq,Uu⟩:=hrel
  by_cases hlt:q<ps.length
  ·have⟨p,hp⟩:=gx hlt;have⟨v,hv⟩:=gx (l:=vs) (i:=q) Ue;obtain⟨gf,rfl,_,UI,Ux⟩:=el Us Ue;have t0:=Ux wr (Uu.block gf UI) q (qL p) (by simp[eU,hp,qL,gI]);have e1:ps.drop q=p::ps.drop (q+1):=by rw[aX hlt];grind
   have e2:vs.drop q=v::vs.drop (q+1):=by rw[aX Ue];grind
   have e3:Hid (vs.take (q+1)=vs.take q++ [v]):=by grind
   rw[e1,e2]at Uq;obtain⟨ms,Y,B1,B2,hs,UW,UX,UY,UB,UJ,Uz,hY⟩:=Uq;obtain⟨C,Va,⟨UM,hdr⟩,UZ,hC,U0,U1⟩:=hs;obtain⟨v1,v2,m⟩:=v;have UD:v1=0:=dH Prod.fst UM;have UE:v2=eS:=dH (λz:PV=>z.2.1) UM;subst UD UE;have UF:=HF none wr C p m (hdr.keep λb _ hl=>Uu.block b hl);have US:(vs.take q).length<=1073741824:=by grind
   unfold qL at t0;generalize vs.take q=D at UB Uz US e3;go_wp2_with fail;refine UF.mono ?_;rintro e w1 ⟨mv,Z',rfl,hm,hZ,Ur⟩;obtain⟨a3,c3,rfl⟩:=hm.form;have UG:=eH Ur UB;have z1:=Ur.size;go_wp2_with (first|(at_builtin;refine wpList_append_own_at _ rfl _ _ 56 rfl wB.heap.size 55 i0 _ 4 64 underlying56 UU UV UH UC rfl Uh u3 _ _ rfl (UG.alloc _) _ 1 1 [_,_,_,_] rfl rfl (OU _ _ _ _ _ _) ?h1 ?h63 ?hby ?hba ?_;rotate_right;intro v' w5 UA Ut U2 U3))
   case h1=>intro u hu;simp at hu;rcases hu with rfl|rfl|rfl|rfl<;>rfl
   case h63=>unfold maxLen;omega
   case hby=>omega
   case hba=>have:=Uu.size;simp;omega
   have zr:=Uu.size;refine⟨⟨q+1,Ue,by go_num,?_,?_⟩,by simp[intOf];omega⟩
   ·rw[e3.out];refine vm.step UR Uu.size UZ hC U0 U1 UW UX UY UB UJ Uz hY (dI Ur ((Below.refl _ _).alloc (ay _) _)) (hm.keep λb _ hl=>Below.heap_alloc _ _ b hl) (λb hb=>⟨by have:=(hZ b hb).1;simp;omega,(hZ b hb).2⟩) Ut (by simpa [rz,eS]using UA) ?_
    grind
   ·exact(dI Uu (dI Ur ((Below.refl _ _).alloc (ay _) _))).grown Ut Ug (λj hj=>(UB.lt j hj).1)
  ·have U5:decide ((q:Int)<(ps.length:Int))=false:=by grind
   obtain rfl:q=ps.length:=Ue;rw[cw,hlen.out,bo,cw]at Uq;go_wp2;go_ret;have⟨Z',UH,UC⟩:=Uq.done;exact⟨_,Z',rfl,UH,λb hb=>⟨(UC b hb).1,(UC b hb).2.imp (UT b) (λh=>Ue)⟩,dI BB Uu⟩
theorem PH (HF:xI S k)(h:gD S (ek S k) w T x f A)(hA:∀b,A b->b<w.heap.size):Ua 137 #[.agg #[aa x.1,x.2.1,x.2.2.1,x.2.2.2]] w (rC k w A f.2):=by
 rcases h.2 with⟨_,lv,h⟩|⟨_,ps,B,h⟩|⟨t,_,mb,ps,B,h⟩
 ·exact Nq h hA
 ·exact Nr HF h hA
 ·exact Ns HF h hA
end
section
variable {w w0 wr:an} {u:Value} {S:d8} {k N0:Nat} {T:Option MT} {B:ap} {l:List gj} {f:PF}
theorem Hv {uv:Value}{u:am}(h:w.ownsRow 0 5 1 uv u.size (Lib.strCells u)):(convert 140 9 uv).run prog w= .ok (ae u) w:=by
 rcases h.2 with⟨rfl,h0⟩|⟨g,cap,Vi,rfl,_,hb,h1,h2,h3,h4⟩
 ·have hu:u=⟨#[]⟩:=by
   cases u with|mk d=>exact dH _ (Array.eq_empty_of_size_eq_zero h0)
  subst hu;exact run_convert_bytes_nil w 140 5 underlying140 underlying5 0 0 9 underlying9
 ·have hl:u.data.toList.length=u.size:=dt
  have:=run_convert_bytes_back (P:=prog) w 140 9 5 (ai g 0) cap u.data.toList underlying140 underlying5 underlying9 (λj hj=>by
   have h5:(Vi.toList.take (u.size*1))[j]?=(Lib.strCells u)[j]?:=by rw[h4]
   rw[cr Ue]at h5;have ea:((ai g 0):Addr).add j=(ai g j):=by unfold Addr.add;split<;>simp_all
   rw[ea];simp only[World.cell?,hb];simp only[Option.isSome_none,aM,if_false];rw[<-bz,h5];unfold Lib.strCells;rw[aO,aK hj]
   rfl)
  rw[hl]at this;simpa using this
def Bp (S:d8)(k:Nat)(T:Option MT)(w0:an)(N0:Nat)(B:ap)(wr:an)(u:Value)(done:List PF)(l:List gj)(rest:List PF):Prop:=
 ∃Us Y,∃B1 B2:ap,jx (gD S (ek S k) w0 T) B2 l rest/\(∀b,B1 b->B b)/\(∀b,B2 b->B b)/\(∀b,B1 b->¬B2 b)/\
  wr.ownsRow N0 58 2 u done.length (rA Us done)/\(∀b,u.ownBlock=some b->¬Y b)/\jx (λvv f A=>jL (pI (k+1) wr) wr A vv f.2) Y Us done/\(∀b,Y b->b<wr.heap.size/\(B1 b\/N0<=b))
theorem Bp.start {fs:List PF}(h:jx (gD S (ek S k) w0 T) B l fs):Bp S k T w0 N0 B wr (ah) [] l fs:=
 ⟨[],λ_=>False,λ_=>False,B,h,λ_ q=>q.elim,λ_ q=>q,λ_ q=>q.elim,bm _ _ _ _,(λ_ q=>by cases q),trivial,λ_ q=>q.elim⟩
theorem Bp.done {m:PM}(h:Bp S k T w0 N0 B wr u m.fs [] []):
  ∃Z',pI (k+1+1) wr u m Z'/\∀b,Z' b->b<wr.heap.size/\(B b\/N0<=b):=by
 obtain⟨Us,Y,B1,B2,_,UE,_,_,Ut,Uu,Ur,hY⟩:=h;refine⟨λb=>Y b\/u.ownBlock=some b,⟨Us,Y,⟨ownsRow_base_a Ut (aL _),λb hb=> .inr hb⟩,Uu,λb hb=> .inl hb,Ur⟩,?_⟩;rintro b (hb|hb)
 ·exact⟨(hY b hb).1,(hY b hb).2.imp (UE b) id⟩
 ·exact⟨(Ut.lt b hb).2,.inr (Ut.lt b hb).1⟩
theorem Bp.step {w1 w2:an}{u' vv:Value}{done rest:List PF}{A B2 UI B1 Y Z':ap}{Us:aq}
  (hlB:∀b,B b->b<N0) (h0:N0<=wr.heap.size)
  (hs:jx (gD S (ek S k) w0 T) UI l rest) (hA:∀b,A b->B2 b) (UP:∀b,UI b->B2 b) (hAB:∀b,A b->¬UI b)
  (UE:∀b,B1 b->B b) (UA:∀b,B2 b->B b) (UO:∀b,B1 b->¬B2 b) (Ut:wr.ownsRow N0 58 2 u done.length (rA Us done)) (Uu:∀b,u.ownBlock=some b->¬Y b)
  (Ur:jx (λvv f A=>jL (pI (k+1) wr) wr A vv f.2) Y Us done) (hY:∀b,Y b->b<wr.heap.size/\(B1 b\/N0<=b))
  (hb1:aj wr w1) (hm:jL (pI (k+1) w1) w1 Z' vv f.2) (hZ:∀b,Z' b->b<w1.heap.size/\(A b\/wr.heap.size<=b))
  (hg:∀b,(Y b\/Z' b)->b<w1.heap.size->u.ownBlock≠some b->w2.heap[b]?=w1.heap[b]?) (hsz:w1.heap.size<=w2.heap.size)
  (hrow':w2.ownsRow N0 58 2 u' (done.length+1) (rA Us done++rA [vv] [f])) (hu':u'.ownBlock=u.ownBlock\/∃g,u'.ownBlock=some g/\w1.heap.size<=g):
  Bp S k T w0 N0 B w2 u' (done++ [f]) l rest:=by
 have hlen:Us.length=done.length:=Ur.len
 have U9:∀b,Y b->¬Z' b:=λb hb hz=>by
  have q1:=hY b hb;have q2:=hZ b hz
  rcases q2.2 with q|q
  ·rcases q1.2 with q'|q'
   ·exact UO b q' (hA b q)
   ·have:=hlB b (UA b (hA b q));omega
  ·omega
 have U0:∀b,u.ownBlock=some b->¬(Y b\/Z' b):=λb hb h=>by
  rcases h with h|h
  ·exact Uu b hb h
  ·have q:=Ut.lt b hb
   rcases(hZ b h).2 with q'|q'
   ·have:=hlB b (UA b (hA b q'));omega
   ·omega
 have hk:∀b,(Y b\/Z' b)->b<w1.heap.size->w2.heap[b]?=w1.heap[b]?:=λb hb hl=>hg b hb hl (λe=>U0 b e hb)
 refine⟨Us++ [vv],λb=>Y b\/Z' b,λb=>B1 b\/A b,UI,hs,?_,λb hb=>UA b (UP b hb),?_,?_,?_,?_,?_⟩
 ·rintro b (hb|hb)
  ·exact UE b hb
  ·exact UA b (hA b hb)
 ·rintro b (hb|hb)
  ·exact λh=>UO b hb (UP b h)
  ·exact hAB b hb
 ·rw[uN hlen];simpa using hrow'
 ·intro b hb h
  rcases hu' with e|⟨g,e,hge⟩
  ·exact U0 b (e▸hb) h
  ·rw[e]at hb
   cases hb
   rcases h with h|h
   ·have:=(hY _ h).1;have:=hb1.size;omega
   ·have:=(hZ _ h).1;omega
 ·refine jx.append (A:=Y) (B:=Z') ?_ ?_ (λb h=> .inl h) (λb h=> .inr h) U9
  ·refine Ur.imp λvv f C _ _ hC h=> ?_
   have Uz:∀b,C b->b<wr.heap.size->w2.heap[b]?=wr.heap[b]?:=λb hb hl=>(hk b (.inl (hC b hb)) (aD hl hb1.size)).trans (hb1.block b hl)
   exact h.keep Uz (λ_ _ _ UY hm=>hm.keep λb hb hl=>Uz b (UY b hb) hl)
  ·have Uz:∀b,Z' b->b<w1.heap.size->w2.heap[b]?=w1.heap[b]?:=λb hb hl=>hk b (.inr hb) hl
   exact⟨Z',λ_=>False,hm.keep Uz (λ_ _ _ UY hm=>hm.keep λb hb hl=>Uz b (UY b hb) hl),trivial,λb h=>h,λb h=>h.elim,λb _ h=>h⟩
 ·rintro b (hb|hb)
  ·have q:=hY b hb;have:=hb1.size;exact⟨Ue,q.2.imp .inl id⟩
  ·have q:=hZ b hb;exact⟨Ue,q.2.imp .inr (λh=>Ue)⟩
theorem Nt (HF:xI S k){W:an}{x0:Int}{x1 x2 x3:Value}{C:ap}(h:gD S (ek S k) w T (x0,x1,x2,x3) f C)(hW:aj w W)
  (hC:∀b,C b->b<w.heap.size):Ua 137 #[.agg #[aa x0,x1,x2,x3]] W (rC k W C f.2):=by
 have Va:gD S (ek S k) W T (x0,x1,x2,x3) f C:=gD.keep (λ_ _ _ _ _ h=>ek.keep h λb _ hl=>hW.block b hl) (λb _ hl=>hW.block b hl) h;have:=PH HF Va (λb hb=>aD (hC b hb) hW.size);exact this
theorem Hw (HF:xI S k):xI S (k+1):=by
 intro T w Z db m h;obtain⟨sv,uv,l,Y0,hy,hs⟩:=h;have⟨i0,Vj,Vk,UM,UH⟩:=info_parts Tryz.infoF;obtain⟨sa,sc,rfl⟩:=iD hy.c.row;obtain⟨ua,n1,uc,rfl⟩:=dN hy.un;have U1:∀w':an,aj w w'->(convert 140 9 (.slice ua n1 uc)).run prog w'= .ok (ae m.unk) w':=λw' hb=>Hv (eH hb hy.un)
 have hlen:Hid (l.length=m.fs.length):=hs.len;have hle:l.length<=m.fs.length/\m.fs.length<=l.length:=by have:=hlen.out;omega
 have hlc:l.length<=1073741824:=hy.c.len;have KD:=hy.c.blk;have B0:aj w (w.alloc (ak #[ah,T9] 49)):=(Uc w).alloc (ay _) _;have B1:aj w ((w.alloc (ak #[ah,T9] 49)).alloc (ak #[ah,ae m.unk] 49)):=B0.alloc B0.size _;have UQ:=U1 _ B0;have KR:=(dM.new w #[ah,T9] 49).alloc (ak #[ah,ae m.unk] 49);have KA:=dM.newAt (w:=w.alloc (ak #[ah,T9] 49)) (n:=w.heap.size+1) Uf #[ah,ae m.unk] 49;have⟨d1,d2⟩:=(KD.below B0 KD.lt).rules;have⟨d3,d4⟩:=(KD.below B1 KD.lt).rules;go_enter func85,ntmps85;go_wp2;clear d1 d2 d3 d4 UQ U1 B0;generalize(w.alloc (ak #[ah,T9] 49)).alloc (ak #[ah,ae m.unk] 49)=wB at*;have hN:w.heap.size+2<=wB.heap.size:=KA.lt
 go_loopw [5,17] (λ_ i wr=>∃(q:Nat) (u:Value),q<=l.length/\i=aa q/\dM wr w.heap.size #[ah,T9] 49/\dM wr (w.heap.size+1) #[u,ae m.unk] 49/\
  Bp S k T w (w.heap.size+2) Y0 wr u (m.fs.take q) (l.drop q) (m.fs.drop q)/\aj w wr) (λ_ i _=>l.length-(intOf i).toNat)
 case atStart=>exact⟨0,_,aL _,rfl,KR,KA,Bp.start hs,B1⟩
 case round=>
  obtain⟨q,u,hq,rfl,KR,KA,Ux,UN⟩:=hrel
  by_cases hlt:q<l.length
  ·have⟨x,hx⟩:=gx hlt;have⟨f,hf⟩:=gx (l:=m.fs) (i:=q) Ue;obtain⟨gf,rfl,_,UZ,Uv⟩:=el hy.c.row Ue;have UG:=Uv wr (UN.block gf UZ);have t0:=UG (q*4+0) _ (fP d5 4 fW l q x hx 0 Ue);have t1:=UG (q*4+1) _ (fP d5 4 fW l q x hx 1 Ue);have t2:=UG (q*4+2) _ (fP d5 4 fW l q x hx 2 Ue);have t3:=UG (q*4+3) _ (fP d5 4 fW l q x hx 3 Ue);rw[Nat.add_zero]at t0;have e1:l.drop q=x::l.drop (q+1):=by rw[aX hlt];congr 1;exact Option.some.inj ((aK hlt).symm.trans hx)
   have e2:m.fs.drop q=f::m.fs.drop (q+1):=by rw[aX Ue];congr 1;exact Option.some.inj ((aK Ue).symm.trans hf)
   have e3:Hid (m.fs.take (q+1)=m.fs.take q++ [f]):=by show _=_;rw[bJ,hf];rfl
   rw[e1,e2]at Ux;obtain⟨Us,Y,B1',B2,Vl,UE,UA,UO,UF,Uu,Ur,hY⟩:=Ux;obtain⟨C,UI,Uw,Vm,hC,UP,Vn⟩:=Vl;have⟨⟨xa,xn,xc,hx1⟩,⟨UB,UC,UD,U5⟩,xo,U6⟩:=hy.c.form x (aI hx);obtain⟨x0,x1,x2,x3⟩:=x;simp only at hx1 U5 U6;subst hx1 U5 U6;have UR:f.1=x0:=Uw.1.symm;have U2:∀b,C b->b<w.heap.size:=λb hb=>hy.yl b (UA b (hC b hb))
   have US:Hid (∀W:an,aj w W->Ua 137 #[.agg #[aa x0,.slice xa xn xc,.slice UB UC UD,.map xo]] W (rC k W C f.2)):=λW hW=>Nt HF Uw hW U2
   have B4:=UN.alloc UN.size (ak #[aa x0,.slice xa xn xc,.slice UB UC UD,.map xo] 249);have⟨U7,KB⟩:=dS wr #[aa x0,.slice xa xn xc,.slice UB UC UD,.map xo] 249;have Vb:=KR.alloc (ak #[aa x0,.slice xa xn xc,.slice UB UC UD,.map xo] 249);have Vc:=KA.alloc (ak #[aa x0,.slice xa xn xc,.slice UB UC UD,.map xo] 249);have Vd:(m.fs.take q).length<=1073741824:=by rw[bG];omega
   have hua:w.heap.size+2<=wr.heap.size:=KA.lt;clear Uv UG e1 e2 Uw hx hf;generalize m.fs.take q=D at UF Ur Vd e3;obtain⟨ub,un,Uy,rfl⟩:=dN UF;have UT:∀b,(Value.slice ub un Uy).ownBlock=some b->w.heap.size+2<=b:=λb hb=>(UF.lt b hb).1
   go_upto_region 5 with fail
   clear t0 t1 t2 t3;generalize wr.alloc (ak #[aa x0,.slice xa xn xc,.slice UB UC UD,.map xo] 249)=w4 at*;have UU:=Vc.drew;have UK:=KB.drew;have U3:=Vb.drew;have HC:Hid (Ua 137 #[.agg #[aa x0,.slice xa xn xc,.slice UB UC UD,.map xo]] w4.drew (rC k w4.drew C f.2)):=US.out w4.drew B4.drew;have UV:w4.drew.ownsRow (w.heap.size+2) 58 2 (.slice ub un Uy) D.length (rA Us D):=eH U7.drew UF;have HO:Hid (some (w.heap.size+1)≠(Value.slice ub un Uy).ownBlock):=λe=>by have:=UT _ e.symm;omega
   have HB:Hid (some wr.heap.size≠(Value.slice ub un Uy).ownBlock):=λe=>by have:=(UF.lt _ e.symm).2;omega
   have HW:Hid (w.heap.size+1≠wr.heap.size):=λe=>Ue
   have Ve:Hid (some w.heap.size≠(Value.slice ub un Uy).ownBlock):=λe=>by have:=UT _ e.symm;omega
   have⟨p1,p2⟩:=UU.rules;have⟨p3,p4⟩:=UK.rules;have zr:wr.heap.size<w4.drew.heap.size:=UK.lt;go_region_law (first|(refine step_append_lies _ Uk _ _ _ Uk (w.heap.size+2) 58 i0 _ 2 32 underlying47 Vj Vk UM UH rfl Ue (.slice ub un Uy) D.length (rA Us D) Uk (UX.alloc _) (ai w5.heap.size 0) 1 1 [_,_] Uk Uk (br (dM.new _ _ _)) Um Ue Ul Ue Ug (w5.heap.size+1) Uf ?_;intro gg cap w6 UJ Uq Vo hlt6;have U4:=(UW.alloc _).grown Uq HO.out;have⟨r1,r2⟩:=U4.rules)|(go_simp;go_at_call 137;refine HC.out.mono ?_;rintro e w5 ⟨vv,Z',rfl,U8,hZ,b5⟩;obtain⟨va,vc,rfl⟩:=U8.form;have UW:=UU.below b5 UU.lt;have Vf:=UK.below b5 UK.lt;have UX:=eH b5 UV;have z5:=b5.size;have⟨q1,q2⟩:=UW.rules;have⟨q3,q4⟩:=Vf.rules;have⟨y3,y4,y5,y6⟩:=gA (w:=w5) (b:=w.heap.size+1) UW.lt))
   all_goals
    go_wp2;go_roundw
    case rel=>
     have Vg:=Uq.size;simp only[cj]at Vg
     have Vh:∀b,(Y b\/Z' b)->w.heap.size+1≠b:=by
      rintro b (hb|hb) e
      ·rcases(hY b hb).2 with h|h
       ·have:=hy.yl b (UE b h);omega
       ·omega
      ·rcases(hZ b hb).2 with h|h
       ·have:=U2 b h;omega
       ·omega
     refine⟨q+1,_,Ue,by go_num,(((U3.below b5 U3.lt).alloc _).grown Uq Ve.out).other 0 _ Ue,U4.set 0 _,?_,?_⟩
     ·rw[e3.out];refine Bp.step (λb hb=>by have:=hy.yl b hb;omega) Ue Vm hC UP Vn UE UA UO UF Uu Ur hY (w1:=w5) (dI U7.drew b5) U8 (λb hb=>⟨(hZ b hb).1,(hZ b hb).2.imp id (λh=>Ue)⟩) ?_ ?_ ?_ ?_
      ·intro b hb hl UL;rw[dK,dD (Vh b hb)];exact(Uq.block b Ug (λe=>UL e.symm)).trans (Below.heap_alloc _ _ b hl)
      ·simp only[cy];omega
      ·have:=ownsRow_setCell_below UJ (a:=(ai (w.heap.size+1) 0)) Uf (Ub gg (D.length+1) cap);simpa [rA,UR]using this
      ·rcases Vo with h|h
       ·exact .inl h.symm
       ·exact .inr ⟨gg,rfl,Ue⟩
     ·have z4:w.heap.size<=w5.heap.size:=Ue;exact(((dI B4.drew b5).alloc z4 _).grown Uq (by rw[cj];omega) (λj hj=>by have:=UT j hj;omega)).setCell (p:=(ai (w.heap.size+1) 0)) (bT _) _
    case measure=>simp[intOf];omega
  ·have hli:decide ((q:Int)<(l.length:Int))=false:=Ug;obtain rfl:q=l.length:=Ue;rw[cw,hlen.out,bo,cw]at Ux;have⟨Z',UM,UH⟩:=Ux.done;obtain⟨ub,Uy,rfl⟩:=UM.form;have⟨p1,p2⟩:=KA.rules;have⟨p3,p4⟩:=KR.rules;go_wp2
   have Uz:∀b,Z' b->b<wr.heap.size->((wr.setCell (ai w.heap.size 0) (.slice ub m.fs.length Uy)).setCell (ai w.heap.size 1) (ae m.unk)).heap[b]?=wr.heap[b]?:=λb hb _=>by
    have UL:w.heap.size≠b:=λe=>by
     rcases(UH b hb).2 with h|h
     ·have:=hy.yl b h;omega
     ·omega
    rw[dK,dD UL,dK,dD UL]
   refine dG (ec results85 _ _ rfl ((KR.set 0 _).set 1 _) underlying49 Uj) rfl ⟨_,Z',rfl,UM.keep Uz,λb hb=>⟨by simp only[cy];exact(UH b hb).1,(UH b hb).2.imp (hy.yz b) (λh=>Ue)⟩,(UN.setCell (p:=(ai w.heap.size 0)) (ay _) _).setCell (p:=(ai w.heap.size 1)) (ay _) _⟩
theorem xJ:∀k,xI S k
 |0=>λ_ _ _ _ _ h=>h.elim
 |k+1=>Hw (xJ k)
end
def lI (w:an)(R:Fx PM)(e:Ending)(w':an):Prop:=
 match R with
 | .error x=>e=dL x.1 x.2/\aj w w'
 | .ok m=>∃v Z',e= .returned (.agg #[v,ae m.unk])/\pI 9 w' v m Z'/\(∀b,Z' b->w.heap.size<=b/\b<w'.heap.size)/\aj w w'
def eC.belowW {w w':an}{Z Z':ap}{rb:Nat}(h:eC w Z rb w' Z'){n:Nat}(hn:n<=w.heap.size)(hZ:∀x,Z x->n<=x)(hr:n<=rb):Below n w w':=
 ⟨h.os,h.tape,h.output,h.size,λi hi=>h.block i (aD hi hn) (λq=>by have:=hZ i q;omega) Ue⟩
def EY (S:d8)(mp:am->Option Nat)(B:Nat)(b:am)(hS:Eo S)(hbs:b.size<=268435456)(w:an)(d:MT)(mb:Nat)(gs:List GF)(nm:am)(cx:sF w B S mp)(hM:iE w (λb=>b<B) mp mb nm gs)
  (hG:kG S mp d gs) (hgd:lw S d):
  Calls prog 47 #[ag mb,ae b] w (lI w (eE S b (b.size+1) d PM.none 0 b.size 1)):=by
 have hex:b.extract 0 b.size=b:=Uf;have Uy:=cx.le;have B1:aj w (w.alloc (ak #[ah,T9] 49)):=(Below.refl _ _).alloc (ay _) _;have B2:=B1.alloc Uf (ak #[ah,ah] 183);have B3:=B2.alloc Ug (ak #[ae b,aa 0,aa 1] 244);have KR:=((dM.new w #[ah,T9] 49).alloc (ak #[ah,ah] 183)).alloc (ak #[ae b,aa 0,aa 1] 244);have KD:=(dM.newAt (w:=w.alloc (ak #[ah,T9] 49)) (n:=w.heap.size+1) Uf #[ah,ah] 183).alloc (ak #[ae b,aa 0,aa 1] 244);have KW:=dM.newAt (w:=(w.alloc (ak #[ah,T9] 49)).alloc (ak #[ah,ah] 183)) (n:=w.heap.size+1+1) Uf #[ae b,aa 0,aa 1] 244;have Uq:=Jd ((w.alloc (ak #[ah,T9] 49)).alloc (ak #[ah,ah] 183)) b;simp only[cj]at Uq;go_in
 go_wp2_with fail;refine Uq.mono ?_;rintro e w' ⟨rfl,rfl⟩;have hsz:w.heap.size+3=(((w.alloc (ak #[ah,T9] 49)).alloc (ak #[ah,ah] 183)).alloc (ak #[ae b,aa 0,aa 1] 244)).heap.size:=Uf;clear Uq B1 B2;go_wp2_with fail;generalize(((w.alloc (ak #[ah,T9] 49)).alloc (ak #[ah,ah] 183)).alloc (ak #[ae b,aa 0,aa 1] 244))=w3 at*;have BB:Below B w w3:=⟨B3.os,B3.tape,B3.output,B3.size,λi hi=>B3.block i (aD hi Uy)⟩
 have Us:=yU S mp B b hS hbs (b.size+1) w3 (λx=>x=w.heap.size+1) d PM.none 0 b.size 1 7 mb gs nm (w.heap.size+1+1) (w.heap.size+1) (cx.on BB) (hM.keep (λx q _=>BB.block x q)) hG hgd (by rw[hex];exact KW) (ek.fresh KD)
  (λx hx=>by subst hx;omega) Ue Ue (aL _) (ay _) Ue rfl (WM.none _ _ _)
 refine Us.mono ?_;intro e w4 hq
 rcases hq.part with⟨x,hP,rfl,Z',st⟩|⟨m',hP,rfl,Z',st,hdr⟩
 ·unfold dL;go_wp2;exact⟨rfl,rfl,B3.trans (st.belowW Ue (λx hx=>Ue) Ue)⟩
 ·have B4:aj w w4:=B3.trans (st.belowW Ue (λx hx=>Ue) Ue);have Ut:dM w4 w.heap.size #[ah,T9] 49:=(st.block w.heap.size Ue Ue Ue).trans KR;have z4:=st.size;have hg:=st.grow;clear Us hq st;go_wp2_with fail;refine(xJ (S:=S) 8 (some d) w4 Z' (w.heap.size+1) m' hdr).mono ?_;rintro e w5 ⟨v,Z2,rfl,hm,Uw,Ux⟩;obtain⟨va,vc,rfl⟩:=hm.form;have Uu:=Ut.below Ux Ut.lt;have⟨r1,r2⟩:=Uu.rules
  have Ur:∀x,Z2 x->w.heap.size<x:=λx hx=>by
   rcases(Uw x hx).2 with h|h
   ·rcases hg x h with h|h
    ·omega
    ·omega
   ·omega
  go_wp2
  have Uz:∀x,Z2 x->x<w5.heap.size->((w5.setCell (ai w.heap.size 0) (.slice va m'.fs.length vc)).setCell (ai w.heap.size 1) (ae m'.unk)).heap[x]?=w5.heap[x]?:=λx hx _=>by
   have Uv:w.heap.size≠x:=by have:=Ur x hx;omega
   rw[dK,dD Uv,dK,dD Uv]
  rw[hP];refine dG (ec results47 _ _ rfl ((Uu.set 0 _).set 1 _) underlying49 Uj) rfl ⟨_,Z2,rfl,hm.keep Uz,λx hx=>⟨ck (Ur x hx),by simp only[cy];exact(Uw x hx).1⟩,?_⟩;exact((dI B4 Ux).setCell (p:=(ai w.heap.size 0)) (ay _) _).setCell (p:=(ai w.heap.size 1)) (ay _) _
def J9 (w:an)(kp mk n:Nat)(pm:am->Option Nat):Prop:=dM w kp #[.int .i32 0,.int .u32 0,.map (some mk)] 170/\fU w mk n pm
def Hx (w:an):Calls prog 37 #[] w λe w'=>∃kp mk,e= .returned (ag kp)/\J9 w' kp mk 0 (λ_=>none)/\w.heap.size<=kp/\w.heap.size<=mk/\mk≠kp/\aj w w':=by
 have hmm:= @run_makeMap prog;go_in
 go_wp2;go_ret;refine⟨_,_,rfl,⟨dM.newAt Uf _ _,?_⟩,bT _,ay _,Ue,(Ud w _).alloc Uf _⟩;exact(fU.made w).keep (Below.heap_alloc _ _ _ Uf)
end
section
open Go.Maps
def fI.keep {w w':an}{P:ap}{v:Value}{bs:List dQ}{y:List YM}(hk:∀b,P b->b<w.heap.size->w'.heap[b]?=w.heap[b]?)(h:fI w P v bs y):fI w' P v bs y:=
 ⟨h.row.keep hk,h.names,λm hm=>(h.msg m hm).keep hk,h.g⟩
def fI.mono {w:an}{P Q:ap}{v:Value}{bs:List dQ}{y:List YM}(hs:∀b,P b->b<w.heap.size->Q b)(h:fI w P v bs y):fI w Q v bs y:=
 ⟨h.row.mono hs,h.names,λm hm=>(h.msg m hm).mono hs,h.g⟩
def Dr (w:an)(sb kp mk:Nat)(bs:List dQ)(lo:Nat):Prop:=
 ∃v y,dM w sb #[v,ag kp] 92/\(lo<=sb/\lo<=kp/\lo<=mk/\sb≠kp/\sb≠mk/\mk≠kp)/\fI w (λb=>lo<=b/\b≠sb/\b≠kp/\b≠mk) v bs y/\J9 w kp mk 0 (λ_=>none)
def Nu (w:an)(r:Except (Int×Nat) (List dQ))(e:Ending)(w':an):Prop:=
 (match r with
 | .error (k,p)=>e=dL k p
 | .ok bs=>∃sb kp mk,e= .returned (ag sb)/\Dr w' sb kp mk bs w.heap.size)/\aj w w'
def QZ (w:an)(tb:Nat)(t:am)(hmax:t.size<=140737488355328)(hc:w.cell? (ai tb 0)=some (ae t))(hg:GOK w)(hbo:BOK w):
  Calls prog 34 #[ag tb] w (Nu w (im t)):=by
 generalize hr:im t=r;have HR:Hid (im t=r):=hr;clear hr;go_in
 go_wp2_with fail;refine(TM _ t hmax hg).mono ?_
 cases h:im t with
 |error q=>
  obtain⟨k,p⟩:=q;rintro e w2 ⟨he,Uq⟩;obtain rfl:e=dL k p:=he;obtain rfl:r= .error (k,p):=HR.out.symm.trans h;unfold dL;go_wp2;exact⟨rfl,rfl,Uq⟩
 |ok bs=>
  rintro e w2 ⟨⟨a,n,c,cs,rfl,Uu,UG⟩,Uq⟩;have OK:=rk h;obtain rfl:n=bs.length:=eK Uu.1;obtain rfl:r= .ok bs:=HR.out.symm.trans h;go_wp2_with fail;refine(MZ w2 a c bs cs _ Uu UG OK (hg.keep (Uq.block _ hg.lt)) (hbo.keep (Uq.block _ hbo.lt))).mono ?_;rintro e w3 ⟨v,y,rfl,hM,UH⟩;obtain⟨va,vn,vc,rfl⟩:=dN hM.row.1;have C3:=ew Uq UH;go_wp2_with fail;refine(Hx w3).mono ?_;rintro e w4 ⟨kp,mk,rfl,hK,hkp,hmk,UI,Uv⟩;have C4:=ew C3 Uv;have z3:=C3.size;have z2:=Uq.size;have zk:=hK.1.lt;have zm:=hK.2.lt;go_wp2;go_ret;refine⟨⟨w4.heap.size,kp,mk,rfl,_,y,dM.new w4 _ _,⟨C4.size,Ue,Ue,Ue,Ue,UI⟩,?_,(hK.1.alloc _),hK.2.keep (Below.heap_alloc _ _ _ zm)⟩,C4.alloc C4.size _⟩;have Uw:=hM.mono (Q:=λb=>w.heap.size<=b/\b<w3.heap.size) (λx hx hl=>⟨Ue,hl⟩);have h5:=Uw.keep (w':=w4) (λx _ hl=>Uv.block x hl);have h6:=h5.mono (Q:=λb=>w.heap.size<=b/\b≠w4.heap.size/\b≠kp/\b≠mk) (λx hx hl=>⟨hx.1,Ue,Ue,Ue⟩);exact h6.keep (λx _ hl=>Below.heap_alloc _ _ _ hl)
def PI (k p:Int)(w:an):(Instr.typeAssert (.iface 142 (.agg #[aa k,aa p])) 20 142 true).run prog w= .ok (.tuple #[.agg #[aa k,aa p],.bool true]) w:=Uj
def zZ (x y v:Value): #[x,y]++(((Array.replicate 18 undef).setIfInBounds 3 v).setIfInBounds 0 v)= #[x,y,v,undef,undef,v,undef,undef,undef,undef,undef,undef,undef,undef,undef,undef,undef,undef,undef,undef]:=Uj
def Ka (a b:Addr)(w:an):
  CallsD prog 65 #[.pointer (some a),.pointer (some b)] .returning w λe u' w'=>e= .returned (.tuple #[])/\u'= .returning/\w'=w:=by
 refine callsD_of_wpS func65 rfl λc₀ cs hu=> ?_
 apply wpS_seq;apply wpS_region;simp[wpOpsS,go_sem,recoverD,hu,ntmps65,Exit.thenS];refine wpS_of_wp ?_;rw[zZ];go_wp2
 cases c₀
 simp_all [bodyPostS,results,results65]
def EZ (ab bb:Nat)(k p:Int)(older:List PanicEntry)(w:an)(x y:Value)(ha:w.cell? (ai ab 0)=some x)(hb:w.cell? (ai bb 0)=some y)(fa:w.frozen? (ai ab 0)=false)(fb:w.frozen? (ai bb 0)=false)(hab:¬ab=bb):
  CallsD prog 65 #[ag ab,ag bb] (.panicking ({v:= .iface 142 (.agg #[aa k,aa p]),recovered:=false}::older)) w λe u' w'=>
   e= .returned (.tuple #[])/\u'= .panicking ({v:= .iface 142 (.agg #[aa k,aa p]),recovered:=true}::older)/\
    w'=(((w.setCell (ai ab 0) (aa k)).setCell (ai bb 0) (aa p)).alloc (ak #[aa k,aa p] 142)).drew:=by
 have hta:=PI k p;have la:=aQ _ _ ha;have lb:=aQ _ _ hb;simp only at la lb;have⟨p1,p2,p3,p4⟩:=gA (w:=w) (b:=ab) la;have⟨s1,s2,s3,s4⟩:=gA (w:=w) (b:=bb) lb;have hba:¬bb=ab:=λe=>hab e.symm
 refine callsD_of_wpS func65 rfl λc₀ cs hu=> ?_
 apply wpS_seq;apply wpS_region;simp[wpOpsS,go_sem,recoverD,hu,ntmps65,Exit.thenS];refine wpS_of_wp ?_;rw[zZ];go_wp2;go_region
 exact⟨rfl,_,rfl,.tuple #[],by simp[results,results65],rfl,rfl,rfl⟩
def Ds (w:an)(r:Except (Int×Nat) (List dQ))(e:Ending)(w':an):Prop:=
 (match r with
 | .error (k,p)=>e= .returned (.tuple #[.pointer none,aa k,aa p])
 | .ok bs=>∃sb kp mk,e= .returned (.tuple #[ag sb,aa 0,aa 0])/\Dr w' sb kp mk bs w.heap.size)/\aj w w'
def Q0 (w:an)(tb:Nat)(t:am)(hmax:t.size<=140737488355328)(hc:w.cell? (ai tb 0)=some (ae t))(hg:GOK w)(hbo:BOK w):
  Ua 33 #[.func (Fn.func 34) #[] #[ag tb]] w (Ds w (im t)):=by
 have hmf:= @vD;generalize hr:im t=r;have HR:Hid (im t=r):=hr;clear hr;have Ux:=aQ _ _ hc;have B0:=((Uc w).alloc (ay _) (ak #[aa 0] 24)).alloc Uf (ak #[aa 0] 3);go_enter_defers func33,ntmps33
 have Uy:((w.alloc (ak #[aa 0] 24)).alloc (ak #[aa 0] 3)).cell? (ai tb 0)=some (ae t):=(B0.cell (p:=(ai tb 0)) Ux).trans hc;have Uz:GOK ((w.alloc (ak #[aa 0] 24)).alloc (ak #[aa 0] 3)):=hg.keep (B0.block _ hg.lt);have Us:BOK ((w.alloc (ak #[aa 0] 24)).alloc (ak #[aa 0] 3)):=hbo.keep (B0.block _ hbo.lt);have K0:=(dM.new w #[aa 0] 24).alloc (ak #[aa 0] 3)
 have K1:dM ((w.alloc (ak #[aa 0] 24)).alloc (ak #[aa 0] 3)) (w.heap.size+1) #[aa 0] 3:=by
  have:=dM.new (w.alloc (ak #[aa 0] 24)) #[aa 0] 3;simpa using this
 go_wp2_with fail;refine(QZ _ tb t hmax Uy Uz Us).mono ?_
 cases h:im t with
 |error q=>
  obtain⟨k,p⟩:=q;rintro e w2 ⟨he,Uq⟩;obtain rfl:e=dL k p:=he;obtain rfl:r= .error (k,p):=HR.out.symm.trans h;have K2:=K0.below Uq K0.lt;have K3:=K1.below Uq K1.lt;have C2:=B0.trans (Uq.mono B0.size);have⟨k1,k2⟩:=K2.rules;have⟨k3,k4⟩:=K3.rules;have z3:=K3.lt;unfold dL;refine leaves_cons (f:=65) (args:= #[ag w.heap.size,ag (w.heap.size+1)]) Uf (by simp[go_sem]) ?_;refine(EZ w.heap.size (w.heap.size+1) k p [] w2 _ _ (k1 0) (k3 0) (k2 0) (k4 0) Ue).mono ?_;rintro e u' UJ ⟨rfl,rfl,rfl⟩;have q0:=(((K2.set 0 (aa k)).other (c:=w.heap.size+1) 0 (aa p) Ue).alloc (ak #[aa k,aa p] 142)).cell 0;have q1:=(((K3.other (c:=w.heap.size) 0 (aa k) Ue).set 0 (aa p)).alloc (ak #[aa k,aa p] 142)).cell 0;have C3:aj w (((w2.setCell (ai w.heap.size 0) (aa k)).setCell (ai (w.heap.size+1) 0) (aa p)).alloc (ak #[aa k,aa p] 142)).drew:=(((C2.setCell (p:=(ai w.heap.size 0)) (ay _) (aa k)).setCell (p:=(ai (w.heap.size+1) 0)) (bT _) (aa p)).alloc (by simp[World.setCell];omega) _).drew;simp at q0 q1;simp[Leaves,settle,results,results33,go_sem,q0,q1];exact⟨rfl,C3⟩
 |ok bs=>
  rintro e w2 ⟨⟨sb,kp,mk,rfl,Ut⟩,Uq⟩;obtain rfl:r= .ok bs:=HR.out.symm.trans h;have K2:=K0.below Uq K0.lt;have K3:=K1.below Uq K1.lt;have C2:=B0.trans (Uq.mono B0.size);have⟨k1,k2⟩:=K2.rules;have⟨k3,k4⟩:=K3.rules;have z3:=K3.lt;go_wp2;refine leaves_cons (f:=65) (args:= #[ag w.heap.size,ag (w.heap.size+1)]) Uf (by simp[go_sem]) ?_;refine(Ka (ai w.heap.size 0) (ai (w.heap.size+1) 0) _).mono ?_;rintro e u' UJ ⟨rfl,rfl,rfl⟩;have q0:=((K2.set 0 (aa 0)).other (c:=w.heap.size+1) 0 (aa 0) Ue).cell 0;have q1:=((K3.other (c:=w.heap.size) 0 (aa 0) Ue).set 0 (aa 0)).cell 0;have C3:aj w ((w2.setCell (ai w.heap.size 0) (aa 0)).setCell (ai (w.heap.size+1) 0) (aa 0)):=(C2.setCell (p:=(ai w.heap.size 0)) (ay _) (aa 0)).setCell (p:=(ai (w.heap.size+1) 0)) (bT _) (aa 0)
  have UA:Dr ((w2.setCell (ai w.heap.size 0) (aa 0)).setCell (ai (w.heap.size+1) 0) (aa 0)) sb kp mk bs w.heap.size:=by
   obtain⟨v,y,h1,⟨h3,h4,h5,h6,h7,h8⟩,hM,hK⟩:=Ut;have UB:w.heap.size+2<=sb:=by simpa using h3
   have UC:w.heap.size+2<=kp:=by simpa using h4
   have UD:w.heap.size+2<=mk:=by simpa using h5
   have Ur:∀x,w.heap.size+2<=x->((w2.setCell (ai w.heap.size 0) (aa 0)).setCell (ai (w.heap.size+1) 0) (aa 0)).heap[x]?=w2.heap[x]?:=λx hx=>by rw[dK,dD Ue,dK,dD Ue]
   have UE:=hM.keep (w':=((w2.setCell (ai w.heap.size 0) (aa 0)).setCell (ai (w.heap.size+1) 0) (aa 0))) (λx hx _=>Ur x (by simpa using hx.1))
   have UF:=UE.mono (Q:=λb=>w.heap.size<=b/\b≠sb/\b≠kp/\b≠mk) (λx hx _=>by
    have h9:w.heap.size+2<=x:=by simpa using hx.1
    exact⟨Ue,hx.2⟩)
   exact⟨v,y,(Ur sb UB).trans h1,⟨Ue,Ue,Ue,h6,h7,h8⟩,UF,(Ur kp UC).trans hK.1,hK.2.keep (Ur mk UD)⟩
  simp at q0 q1;simp[Leaves,settle,results,results33,go_sem,q0,q1];exact⟨⟨sb,kp,mk,rfl,UA⟩,C3⟩
end
section
open Go.Maps
open Uq
def Gn (w:an)(R:Fx PM)(e:Ending)(w':an):Prop:=
 match R with
 | .error x=>e= .returned (.tuple #[.agg #[ah,T9],aa x.1,aa x.2])/\aj w w'
 | .ok m=>∃v Z',e= .returned (.tuple #[.agg #[v,ae m.unk],aa 0,aa 0])/\pI 9 w' v m Z'/\(∀b,Z' b->w.heap.size<=b/\b<w'.heap.size)/\aj w w'
def Nv (a b:Addr)(w:an):
  CallsD prog 82 #[.pointer (some a),.pointer (some b)] .returning w λe u' w'=>e= .returned (.tuple #[])/\u'= .returning/\w'=w:=by
 refine callsD_of_wpS func82 rfl λc₀ cs hu=> ?_
 apply wpS_seq;apply wpS_region;simp[wpOpsS,go_sem,recoverD,hu,ntmps82,Exit.thenS];refine wpS_of_wp ?_;rw[zZ];go_wp2
 cases c₀
 simp_all [bodyPostS,results,results82]
def Hy (ab bb:Nat)(k p:Int)(older:List PanicEntry)(w:an)(x y:Value)(ha:w.cell? (ai ab 0)=some x)(hb:w.cell? (ai bb 0)=some y)(fa:w.frozen? (ai ab 0)=false)(fb:w.frozen? (ai bb 0)=false)(hab:¬ab=bb):
  CallsD prog 82 #[ag ab,ag bb] (.panicking ({v:= .iface 142 (.agg #[aa k,aa p]),recovered:=false}::older)) w λe u' w'=>
   e= .returned (.tuple #[])/\u'= .panicking ({v:= .iface 142 (.agg #[aa k,aa p]),recovered:=true}::older)/\
    w'=(((w.setCell (ai ab 0) (aa k)).setCell (ai bb 0) (aa p)).alloc (ak #[aa k,aa p] 142)).drew:=by
 have hta:=PI k p;have la:=aQ _ _ ha;have lb:=aQ _ _ hb;simp only at la lb;have⟨p1,p2,p3,p4⟩:=gA (w:=w) (b:=ab) la;have⟨s1,s2,s3,s4⟩:=gA (w:=w) (b:=bb) lb;have hba:¬bb=ab:=λe=>hab e.symm
 refine callsD_of_wpS func82 rfl λc₀ cs hu=> ?_
 apply wpS_seq;apply wpS_region;simp[wpOpsS,go_sem,recoverD,hu,ntmps82,Exit.thenS];refine wpS_of_wp ?_;rw[zZ];go_wp2;go_region
 exact⟨rfl,_,rfl,.tuple #[],by simp[results,results82],rfl,rfl,rfl⟩
def z8 {fn:Func}{p q r:Tmp}{ty ty' ty'':TypeId}{b b1 b2:Nat}{cs:Array Value}{fs:Array Field}{v1 v2:Value}(h:fn.results= #[.cell p ty,.cell q ty',.cell r ty''])(tmps:Array Value)(W:an)
  (hp:tmps.getD p undef=ag b) (hq:tmps.getD q undef=ag b1) (hr:tmps.getD r undef=ag b2) (K:dM W b cs ty)
  (hu:prog.underlying ty=some (.struct fs)) (hi:(prog.info? ty).map (·.size)=some cs.size) (h1:(loadVar ty' (ai b1 0)).run prog W= .ok v1 W) (h2:(loadVar ty'' (ai b2 0)).run prog W= .ok v2 W):
  (results fn tmps).run prog W= .ok (.tuple #[.agg cs,v1,v2]) W:=by
 have hl:=run_loadVar_row (P:=prog) W b ty ty cs (0,0) _ K hu rfl hi;have Uq:tmps[p]?.getD undef=ag b:=by simpa using hp
 have Ur:tmps[q]?.getD undef=ag b1:=by simpa using hq
 have Us:tmps[r]?.getD undef=ag b2:=by simpa using hr
 simp only[results,h];simp[Uq,Ur,Us,asAddr,hl,h1,h2]
def Rm (w:an)(y:List YM)(nm:am)(e:Ending)(w':an):Prop:=
 w'=w/\((∃(i:Nat) (m:YM),y[i]?=some m/\(m.1.1.toList==nm.toList)=true/\e= .returned (.tuple #[ag m.1.2,aa 0]))\/
  ((∀m∈y,(m.1.1.toList==nm.toList)=false)/\e= .returned (.tuple #[.pointer none,aa 5])))
def Dt (w:an)(sb:Nat)(v kv:Value)(bs:List dQ)(y:List YM)(P:ap)(nm:am)(way:Int)(h1:dM w sb #[v,kv] 92)(hM:fI w P v bs y)(hl:y.length<=2001)(hw:way=1\/way=2):
  Calls prog 44 #[ag sb,aa way,ae nm] w (Rm w y nm):=by
 obtain⟨va,vc,rfl⟩:=iD hM.row.1;have⟨k1,k2⟩:=h1.rules
 ·go_in
  rcases hw with rfl|rfl
  all_goals
   go_wp2;go_loopw [9,23] (λ_ i wr=>∃(q:Nat),q<=y.length/\i=aa q/\(∀m∈y.take q,(m.1.1.toList==nm.toList)=false)/\wr=w) (λ_ i _=>y.length-(intOf i).toNat)
   case atStart=>exact⟨0,aL _,rfl,Uf,rfl⟩
   case round=>
    obtain⟨q,hq,rfl,Us,rfl⟩:=hrel
    by_cases hlt:q<y.length
    ·have⟨m,hm⟩:=gx hlt;have Ur:Hid (y.take (q+1)=y.take q++ [m]):=by show _=_;rw[bJ,hm];rfl
     obtain⟨g,rfl,_,hgl,Uq⟩:=el hM.row.1 Ue;have t0:=Uq wr rfl q (gI (some m.1.2)) (by simp[eU,hm]);unfold gI at t0;have⟨fv,fbs,Ut,_,_,_⟩:=hM.msg m (aI hm);have⟨k3,k4⟩:=Ut.rules;clear Uq
     cases hc:m.1.1.toList==nm.toList with
     |true=>
      have HM:Hid (y[q]?=some m):=hm;clear hm;go_wp2;go_ret2;exact⟨rfl,.inl ⟨q,m,HM.out,hc,rfl⟩⟩
     |false=>
      clear hm;go_wp2;go_roundw
      case rel=>
       refine⟨q+1,Ue,by go_num,?_,trivial⟩;rw[Ur.out];intro x hx
       rcases aR.1 hx with hx|hx
       ·exact Us x hx
       ·rw[bn.1 hx];exact hc
      case measure=>simp[intOf];omega
    ·have hli:decide ((q:Int)<(y.length:Int))=false:=Ug;obtain rfl:q=y.length:=Ue;rw[bo]at Us;go_wp2;go_ret2;exact⟨rfl,.inr ⟨Us,rfl⟩⟩
end
end Go.Proofs.YtfebdimolnobaaaGreatDoor
