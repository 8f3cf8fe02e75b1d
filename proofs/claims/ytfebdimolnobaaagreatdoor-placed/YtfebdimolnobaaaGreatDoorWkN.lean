import Derived.Test.YtfebdimolnobaaaGreatDoorWkL
import Derived.Shelf.SlIter.Collect
set_option maxRecDepth 100000
set_option maxHeartbeats 8000000
set_option linter.all false
namespace Go.Proofs.YtfebdimolnobaaaGreatDoor
open Go.RowKit
theorem qJ {k:Nat}(hk:k<=15):gF k=true<->dL k≠2:=by
 constructor
 ·intro h q
  rcases Ce hk q with rfl|rfl<;>simp[gF]at h
 ·intro h;unfold gF
  by_cases h1:k=13
  ·subst h1;exact absurd rfl h
  ·by_cases h2:k=14
   ·subst h2;exact absurd rfl h
   ·simp;omega
theorem xC (S:dG)(t:am):S.base t<=16:=by
 unfold dG.base
 split
 ·rename_i k hk
  have:=xg _ _ _ _ hk;have e:kW.length=15:=by decide+kernel
  omega
 ·split<;>omega
theorem lU {S:dG}{mp:am->Option Nat}{d:MT}{f:ek}{g:GF}{k:Nat}(fg:FG S mp d f g):jd mp g k=true<->(k=eZ S f\/(k=2/\f.isRep=true)):=by
 have Ob:=xC S f.ty
 have hb:dL (dC mp g)=eZ S f:=by
  unfold dC eZ dG.wire;rw[fg.map,fg.eq,fg.base]
  by_cases h:g.form=4
  ·simp[h];rfl
  ·simp[h]
 unfold jd fG;rw[hb,fg.rep];simp only[Bool.or_eq_true,aT,beq_iff_eq,decide_eq_true_eq]
 constructor
 ·rintro(h|⟨h1,h2,h3⟩)
  ·exact .inl (by omega)
  ·exact .inr ⟨by omega,h2⟩
 ·rintro(h|⟨h1,h2⟩)
  ·exact .inl (by omega)
  ·by_cases q:eZ S f=2
   ·exact .inl (by omega)
   ·refine .inr ⟨by omega,h2,?_⟩;have N8:dC mp g=S.base f.ty:=by unfold dC;rw[if_neg (by omega),fg.eq,fg.base]
    rw[hb.symm,N8]at q;rw[N8];have:S.base f.ty≠16:=fun e=>q (by rw[e];rfl)
    exact(qJ (by omega)).2 q
theorem xD (w:an)(B:Nat)(S:dG)(mp:am->Option Nat)(k:Nat)(d:MT)(f:ek)(g:GF)(fb:Nat)(Z:ap)(rb db:Nat)(b:am)(e a z deep F kn:Nat)(num:Int)(m:PM)
  (I:lR w B S mp k d Z rb db b e a z deep m) (hfa:dP w (fun b=>b<B) mp g fb) (fg:FG S mp d f g) (hff:dv d.fs f.num=some f) (hS:za S) (hkd:k+deep=8) (hgd:jB S d) (hRd:Fo S mp B b F) (hF:e-z<=F) (hfit:jd mp g kn=true):
  Calls Tryz.prog 133 #[ag fb,aa kn,ag rb,ag db] w (fK S k d w Z rb db (b.extract 0 e) deep (ip S b F d f m deep (eh (b.extract 0 e) a num kn z))):=by
 have hq:=(lU fg).1 hfit;have Ob:=xC S f.ty
 by_cases h4:g.form=4
 ·have hm:f.isMap=true:=by rw[fg.map,h4];rfl
  obtain rfl:kn=2:=by
   rcases hq with h|⟨h,_⟩
   ·rw[h];unfold eZ;rw[if_pos hm]
   ·exact h
  exact Fu w B S mp k d f g fb Z rb db b e a z deep F num m I hfa fg hff hS h4 hkd hgd hRd hF
 ·have hm:f.isMap=false:=by rw[fg.map];simp[h4]
  have N3:eZ S f=dL (S.base f.ty):=by unfold eZ dG.wire;rw[hm];rfl
  by_cases hb:S.base f.ty=16
  ·obtain rfl:kn=2:=by
    rcases hq with h|⟨h,_⟩
    ·rw[h,N3,hb];rfl
    ·exact h
   have:=fg.nest.1 hb;obtain⟨sub,N7⟩:=Option.isSome_iff_exists.1 this;have hM:xz S d f sub:=⟨by unfold ed;rw[hm];exact N7,hm⟩
   by_cases h2:g.form=2
   ·exact Dn w B S mp k d f g fb Z rb db b e a z deep F num m sub I hfa fg hff hS hM h2 hkd hRd hF
   ·exact Fr w B S mp k d f g fb Z rb db b e a z deep F num m sub I hfa fg hff hS hM h2 hkd hRd hF
  ·have N2:S.base f.ty<=15:=by omega
   by_cases h2:g.form=2
   ·refine Fp w B S mp k d f g fb Z rb db b e a z deep F num kn m I hfa fg h2 N2 hff ?_
    rcases hq with h|⟨h,_⟩
    ·exact .inl (by rw[h,N3])
    ·by_cases q:dL (S.base f.ty)=2
     ·exact .inl (by omega)
     ·exact .inr ⟨by omega,q⟩
   ·have Oc:f.isRep=false:=by rw[fg.rep];simp[h2]
    obtain rfl:kn=dL (S.base f.ty):=by
     rcases hq with h|⟨_,h⟩
     ·rw[h,N3]
     ·rw[Oc]at h;cases h
    exact Fq w B S mp k d f g fb Z rb db b e a z deep F num m I hfa fg h4 h2 N2 hff
theorem AV {s:am}{a:Nat}{x:(Int×Int)×Nat}(h:iH s a= .ok x):∃kn:Nat,x.1.2=kn/\(kn=0\/kn=1\/kn=2\/kn=5)/\a<x.2/\x.2<=s.size:=by
 unfold iH at h
 cases hv:fA s a s.size with
 |error y=>rw[hv]at h;cases h
 |ok y=>
  rw[hv]at h;obtain⟨v0,v1,v2,v3⟩:=fW (m:=y.1) (z:=y.2) hv;simp only at h
  split at h
  ·cases h
  ·split at h
   ·rename_i q
    cases h
    rcases q with q|q|q|q
    ·exact⟨0,q,.inl rfl,v2,v3⟩
    ·exact⟨1,q,.inr (.inl rfl),v2,v3⟩
    ·exact⟨2,q,.inr (.inr (.inl rfl)),v2,v3⟩
    ·exact⟨5,q,.inr (.inr (.inr rfl)),v2,v3⟩
   ·cases h
theorem qK {s:am}{a z:Nat}{num kind:Int}{r:rK}(h:eh s a num kind z= .ok r):r.num=num/\r.a=a:=by
 unfold eh at h
 split at h
 ·cases hv:fA s z s.size<;>rw[hv]at h<;>cases h;exact⟨rfl,rfl⟩
 ·split at h
  ·cases hv:fh s z 8<;>rw[hv]at h<;>cases h;exact⟨rfl,rfl⟩
  ·split at h
   ·cases hv:fh s z 4<;>rw[hv]at h<;>cases h;exact⟨rfl,rfl⟩
   ·cases hv:dS s z<;>rw[hv]at h<;>cases h;exact⟨rfl,rfl⟩
section
variable {S:dG} {b:am} {F a e deep z kn:Nat} {d:MT} {m:PM} {num:Int} {f:ek}
theorem pw (he:e<=b.size)(ht:iH (b.extract 0 e) a= .ok ((num,(kn:Int)),z)):fF b a e=eh (b.extract 0 e) a num kn z:=by
 rw[<-Ca he,vF,ht]
theorem zl (he:e<=b.size)(h:a<e)(ht:iH (b.extract 0 e) a= .ok ((num,(kn:Int)),z))(hk:kn=0\/kn=1\/kn=2\/kn=5)(hf:dv d.fs num=some f)(hfit:kn=eZ S f\/(kn=2/\f.isRep=true)):
  dQ S b (F+1) d m a e deep=match ip S b F d f m deep (eh (b.extract 0 e) a num kn z)with| .error x=> .error x| .ok y=>dQ S b F d y.1 y.2 e deep:=by
 have hr:=pw he ht
 cases hq:eh (b.extract 0 e) a num kn z with
 |error x=>
  rw[hq]at hr;rw[io h hr];rfl
 |ok r=>
  rw[hq]at hr;have h1:=kE hk hq;have h2:=qK hq;rw[Di h hr (by rw[h2.1];exact hf) (by rw[h1];exact hfit)];simp only[ip]
  cases uS S b F d f m r deep<;>rfl
theorem Cr (hS:za S)(hb:b.size<=4000000)(hd:jB S d)(he:e<=b.size)(hw:WM S a d m)(ht:iH (b.extract 0 e) a= .ok ((num,(kn:Int)),z))(hk:kn=0\/kn=1\/kn=2\/kn=5)(hf:dv d.fs num=some f)(hfit:kn=eZ S f\/(kn=2/\f.isRep=true)){y:PM×Nat}
  (h:ip S b F d f m deep (eh (b.extract 0 e) a num kn z)= .ok y):WM S y.2 d y.1/\z<y.2/\y.2<=e:=by
 have hr:=pw he ht
 cases hq:eh (b.extract 0 e) a num kn z with
 |error x=>rw[hq]at h;cases h
 |ok r=>
  rw[hq]at hr h;have h1:=kE hk hq;have h2:=qK hq;obtain⟨h3,_,h4,_⟩:=nC hq;rw[eG he]at h4;simp only[ip]at h
  cases hm:uS S b F d f m r deep with
  |error x=>rw[hm]at h;cases h
  |ok m2=>
   rw[hm]at h
   cases h
   refine⟨?_,h3,h4⟩;have Oa:dv d.fs r.num=some f:=by rw[h2.1];exact hf
   unfold uS at hm
   split at hm
   ·rename_i q
    exact Hw hS.good hb hd hw hr he Oa q hm
   ·rename_i q
    have Od:=hfit.resolve_left (fun e=>q (by rw[h1];exact e))
    cases hp:mH S b f (m.get f.num) r.fr r.e with
    |error x=>rw[hp]at hm;cases hm
    |ok l=>
     rw[hp]at hm
     cases hm
     exact(Hx hS.good hw hr Oa q (by rw[h1];exact Od.1) hp).1
theorem qL (he:e<=b.size)(h:a<e)(ht:iH (b.extract 0 e) a= .ok ((num,(kn:Int)),z))(hk:kn=0\/kn=1\/kn=2\/kn=5)(hf:∀f,dv d.fs num=some f->¬(kn=eZ S f\/(kn=2/\f.isRep=true))):
  dQ S b (F+1) d m a e deep=match jz (b.extract 0 e) z kn with| .error x=> .error x| .ok y=>dQ S b F d (m.keep (b.extract a y.2)) y.2 e deep:=by
 have hr:=pw he ht;rw[vG (b.extract 0 e) a num kn z]
 cases hq:eh (b.extract 0 e) a num kn z with
 |error x=>
  rw[hq]at hr;rw[io h hr]
 |ok r=>
  rw[hq]at hr;have h1:=kE hk hq;have h2:=qK hq;rw[po h hr (fun f q=>by rw[h2.1]at q;have:=hf f q;rw[h1];exact⟨fun e=>this (.inl e),fun e=>this (.inr e)⟩),h2.2]
theorem zp (he:e<=b.size)(h:a<e){x:Int×Int}(ht:iH (b.extract 0 e) a= .error x):dQ S b (F+1) d m a e deep= .error x:=by
 refine io h ?_;rw[<-Ca he,vF,ht]
end
theorem sC {s:am}{z kn:Nat}{y:Unit×Nat}(h:jz s z kn= .ok y):z<y.2/\y.2<=s.size:=by
 rw[vG s 0 0 kn z]at h
 cases hq:eh s 0 0 kn z with
 |error x=>rw[hq]at h;cases h
 |ok r=>
  rw[hq]at h
  cases h
  obtain⟨h1,_,h3,_⟩:=nC hq;exact⟨h1,h3⟩
section
attribute [local go_sem↓] Go.wp_at_zero Go.wp_at_succ
structure uX (S:dG)(k:Nat)(d:MT)(B:Nat)(w wr:an)(Z Z':ap)(rb db:Nat)(b:am)(e deep F a:Nat)(m:PM)(P:Fx PM):Prop where
 st:dF w Z rb wr Z'
 rr:dn wr rb (b.extract 0 e) a deep
 dr:dB S (k+1) (some d) wr Z' db m
 hi:a<=e
 wm:WM S a d m
 fu:e-a<F
 eq:Hid (P=dQ S b F d m a e deep)
 zz:∀x,Z' x->B<=x/\x<wr.heap.size
def I4 (S:dG)(b:am)(F:Nat)(d:MT)(e deep:Nat):Fx (PM×Nat)->Fx PM
 | .error x=> .error x
 | .ok y=>dQ S b F d y.1 y.2 e deep
def Fv (S:dG)(b:am)(F:Nat)(d:MT)(m:PM)(a e deep:Nat):Fx (Unit×Nat)->Fx PM
 | .error x=> .error x
 | .ok y=>dQ S b F d (m.keep (b.extract a y.2)) y.2 e deep
theorem EK.part {w:an}{rb:Nat}{s:am}{deep:Int}{r:Fx (Unit×Nat)}{e:Ending}{w':an}(h:EK w rb s deep r e w'):
  (∃x,r= .error x/\e=da x.1 x.2/\dl [rb] w w')\/∃x,r= .ok x/\e= .returned (.tuple #[])/\dl [rb] w w'/\dn w' rb s x.2 deep:=by
 obtain⟨h1,h2⟩:=h
 cases r with
 |error x=>exact .inl ⟨x,rfl,h2,h1⟩
 |ok x=>exact .inr ⟨x,rfl,h2.1,h1,h2.2⟩
theorem fK.part2 {S:dG}{k:Nat}{d:MT}{w:an}{Z:ap}{rb db:Nat}{s:am}{deep:Nat}{R:Fx (PM×Nat)}{en:Ending}{w':an}(h:fK S k d w Z rb db s deep R en w'):
  (∃x,R= .error x/\en=da x.1 x.2/\∃Z',dF w Z rb w' Z')\/∃x,R= .ok x/\en= .returned (.tuple #[])/\∃Z',dF w Z rb w' Z'/\dB S (k+1) (some d) w' Z' db x.1/\dn w' rb s x.2 deep:=by
 cases R with
 |error x=>exact .inl ⟨x,rfl,h.1,h.2⟩
 |ok x=>exact .inr ⟨x,rfl,h.1,h.2⟩
theorem uY (S:dG)(mp:am->Option Nat)(B:Nat)(b:am)(hS:za S)(hbs:b.size<=4000000):∀F,Fo S mp B b F:=by
 intro F
 induction F using Nat.strongRecOn with
 |_ F ih=>
 intro w Z d m a e deep k mb gs nm rb db cx hM hG OR hr hd hZ Ot O6 O7 he hF O8 Pa;have Oj:(b.extract 0 e).size=e:=eG he;have Oz:=cx.le;have OW:rb<w.heap.size:=de.lt hr;obtain⟨P,hP⟩:∃P,dQ S b F d m a e deep=P:=⟨_,rfl⟩;rw[hP];have O0:uX S k d B w w Z Z rb db b e deep F a m P:=⟨dF.refl _ _ _,hr,hd,O7,Pa,hF,hP.symm,hZ⟩;clear hP;go_enter Tryz.func83,Tryz.ntmps83
 go_wp2;go_loopw [9] (fun _ wr=>∃Z' a' m' F',F'<=F/\uX S k d B w wr Z Z' rb db b e deep F' a' m' P) (fun _ wr=>jM wr rb e)
 case atStart=>exact⟨Z,a,m,F,ay _,O0⟩
 case round=>
  obtain⟨Z',a',m',F',hFF,O⟩:=hrel;have OA:=ph wr rb _ a' deep O.rr;rw[Oj]at OA;have hhi:=O.hi;have hfu:=O.fu;go_wp2_with fail
  refine OA.mono ?_;rintro en w4 ⟨rfl,q,rfl⟩
  by_cases hlt:a'<e
  ·have OX:decide (a'<e)=true:=decide_eq_true hlt;obtain⟨F1,rfl⟩:∃F1,F'=F1+1:=⟨F'-1,by omega⟩;have OB:dn (wr.drewN q) rb (b.extract 0 e) a' deep:=O.rr;have OY:dB S (k+1) (some d) (wr.drewN q) Z' db m':=O.dr.keep (fun _ _ _=>rfl);have OC:dF w Z rb (wr.drewN q) Z':=O.st.trans (.of_below (gC (Below.refl _ _) q));have OZ:=LE (wr.drewN q) rb _ a' deep OB;have OD:=EH (wr.drewN q) rb _ a' deep OB (by omega);have OE:∀x,Z' x->B<=x/\x<(wr.drewN q).heap.size:=O.zz;have Ob:¬Z' rb:=O.st.not OW O6;have HM:Hid (jM wr rb e=e-a'):=fO O.rr;have Ok:∀x,Z x->B<=x:=fun x q=>(hZ x q).1
   obtain⟨T,hT⟩:∃T,iH (b.extract 0 e) a'=T:=⟨_,rfl⟩;rw[hT]at OD;have HT:Hid (iH (b.extract 0 e) a'=T):=hT;clear hT;generalize wr.drewN q=w4 at*;go_wp2_with fail
   refine OZ.mono ?_;rintro en w5 ⟨rfl,rfl⟩;go_wp2_with fail
   refine OD.mono ?_;intro en w6 Pb
   rcases Pb.part with⟨x,rfl,rfl,N7⟩|⟨x,rfl,rfl,N7,Ou⟩
   ·have HB:Hid (P= .error x):=by
     show P=_;rw[O.eq.out,zp he hlt HT.out]
    unfold da;go_wp2;rw[HB.out];exact⟨rfl,rfl,Z',OC.trans (.of_kept N7)⟩
   obtain⟨⟨num,kind⟩,z⟩:=x;obtain⟨kn,OS,Ov,OT,Ow⟩:=AV HT.out;simp only at OS OT Ow Ou;subst OS;rw[Oj]at Ow;obtain⟨B7,KT⟩:=di w6 #[aa num,aa kn] 237;have OF:dn (w6.alloc (ak #[aa num,aa kn] 237)) rb (b.extract 0 e) z deep:=de.alloc Ou _;have OG:=(OC.trans (.of_kept N7)).trans (.of_below B7);have O1:=(dF.dr OY N7 Ob).keep (fun x _ q=>B7.block x q);have O2:Below B w (w6.alloc (ak #[aa num,aa kn] 237)):=OG.below Oz Ok Ot;have O3:=vA (w6.alloc (ak #[aa num,aa kn] 237)) (fun b=>b<B) mp mb nm gs num kn (hM.keep (fun x q _=>O2.block x q)) hG.srt hG.len;have OH:∀x,Z' x->B<=x/\x<(w6.alloc (ak #[aa num,aa kn] 237)).heap.size:=fun x q=>⟨(OE x q).1,aC (aC (OE x q).2 N7.size) B7.size⟩
   obtain⟨k1,k2⟩:=KT.rules;have hrw:rb<w6.heap.size:=de.lt Ou;go_wp2_with fail
   generalize w6.alloc (ak #[aa num,aa kn] 237)=w7 at*;generalize w6.heap.size=tb at*;refine O3.mono ?_;rintro en w8 ⟨Oc,B8⟩;have OI:dn w8 rb (b.extract 0 e) z deep:=de.below OF B8 (de.lt OF);have N2:=OG.trans (.of_below B8);have OJ:=O1.keep (fun x _ q=>B8.block x q);have OL:Below B w w8:=N2.below Oz Ok Ot;have OM:=KT.below B8 KT.lt;have ON:∀x,Z' x->B<=x/\x<w8.heap.size:=fun x q=>⟨(OH x q).1,aC (OH x q).2 B8.size⟩
   have hul:=O.wm.len;clear k1 k2
   cases hfit:pU mp gs num kn with
   |some g=>
    rw[hfit]at Oc;obtain⟨fb,rfl,Pc⟩:=Oc
    obtain⟨f,Od,fg,OU⟩:∃f,dv d.fs num=some f/\FG S mp d f g/\jd mp g kn=true:=by
     unfold pU at hfit
     cases hfg:fV gs num with
     |none=>rw[hfg]at hfit;cases hfit
     |some g'=>
      rw[hfg]at hfit;simp only at hfit
      split at hfit
      ·cases hfit
       cases hf:dv d.fs num with
       |none=>rw[hG.no num hf]at hfg;cases hfg
       |some f=>
        obtain⟨g2,q1,q2⟩:=hG.yes num f hf;rw[hfg]at q1
        cases q1
        exact⟨f,rfl,q2,by assumption⟩
      ·cases hfit
    have Ol:f.num=num:=(eY Od).1;have I:lR w8 B S mp k d Z' rb db b e a' z deep m':=⟨cx.on OL,OI,OJ,ON,Ot,Ob,OT,Ow,he,hbs,O.wm⟩;have OO:=xD w8 B S mp k d f g fb Z' rb db b e a' z deep F1 kn num m' I Pc fg (by rw[Ol];exact Od) hS O8 OR (ih F1 (by omega)) (by omega) OU;have hit:=(lU fg).1 OU;obtain⟨R,hR⟩:∃R,ip S b F1 d f m' deep (eh (b.extract 0 e) a' num kn z)=R:=⟨_,rfl⟩
    have HL:Hid (P=I4 S b F1 d e deep R):=by
     have h:=zl (S:=S) (F:=F1) (deep:=deep) (d:=d) (m:=m') he hlt HT.out Ov Od hit;rw[hR]at h;show P=_;rw[O.eq.out,h]
     cases R<;>rfl
    have HW:Hid (∀y,R= .ok y->WM S y.2 d y.1/\z<y.2/\y.2<=e):=fun y hy=>Cr hS hbs OR he O.wm HT.out Ov Od hit (hR.trans hy)
    rw[hR]at OO;clear hR hfit;obtain⟨k1,k2⟩:=OM.rules;go_wp2_with fail
    refine OO.mono ?_;intro en w9 Ox
    rcases Ox.part2 with⟨x,rfl,rfl,Z9,Oe⟩|⟨y,rfl,rfl,Z9,Oe,Om,N8⟩
    ·unfold da;go_wp2;rw[HL.out];exact⟨rfl,rfl,Z9,N2.trans Oe⟩
    obtain⟨Pd,Pe,Of⟩:=HW.out y rfl
    have O9:uX S k d B w w9 Z (fun i=>Z9 i/\i<w9.heap.size) rb db b e deep F1 y.2 y.1 P:=
     ⟨(N2.trans Oe).clip,N8,Om.clip,Of,Pd,by omega,HL,fun x q=>⟨(Oe.grow x q.1).elim (fun e=>(ON x e).1) (fun e=>by have:=OL.size;omega),q.2⟩⟩
    clear k1 k2;go_wp2;go_roundw
    case rel=>exact⟨_,_,_,_,by omega,O9⟩
    case measure=>rw[HM.out,fO N8];omega
   |none=>
    rw[hfit]at Oc;obtain rfl:en= .returned (.pointer none):=Oc
    have O4:∀f,dv d.fs num=some f->¬(kn=eZ S f\/(kn=2/\f.isRep=true)):=fun f hf hq=>by
     obtain⟨g,q1,q2⟩:=hG.yes num f hf;unfold pU at hfit;rw[q1]at hfit;simp only at hfit;rw[(lU q2).2 hq,if_pos rfl]at hfit
     cases hfit
    have OP:=xf w8 rb _ z deep kn OI (by omega) (by omega) (by omega);obtain⟨R,hR⟩:∃R,jz (b.extract 0 e) z kn=R:=⟨_,rfl⟩
    have HL:Hid (P=Fv S b F1 d m' a' e deep R):=by
     have h:=qL (S:=S) (F:=F1) (deep:=deep) (d:=d) (m:=m') he hlt HT.out Ov O4;rw[hR]at h;show P=_;rw[O.eq.out,h]
     cases R<;>rfl
    have HW:Hid (∀y,R= .ok y->z<y.2/\y.2<=e):=fun y hy=>by
     have:=sC (hR.trans hy);rw[Oj]at this;exact this
    rw[hR]at OP;clear hR hfit;obtain⟨k1,k2⟩:=OM.rules;go_wp2_with fail
    refine OP.mono ?_;intro en w9 Ox
    rcases Ox.part with⟨x,rfl,rfl,Og⟩|⟨y,rfl,rfl,Og,N8⟩
    ·unfold da;go_wp2;rw[HL.out];exact⟨rfl,rfl,Z',N2.trans (.of_kept Og)⟩
    obtain⟨Pe,Of⟩:=HW.out y rfl;have OQ:=sj w9 rb _ y.2 deep a' N8 (by omega) (by omega);have Om:=dF.dr OJ Og Ob;have hex:(b.extract 0 e).extract a' y.2=b.extract a' y.2:=iE he Of;rw[hex]at OQ;clear k1 k2;go_wp2_with fail
    refine OQ.mono ?_;rintro en w10 ⟨rfl,Oh,rfl⟩;have Oo:dB S (k+1) (some d) (w9.drewN Oh) Z' db m':=Om.keep (fun _ _ _=>rfl);have O5:=xr S k (some d) (w9.drewN Oh) Z' db m' (b.extract a' y.2) Oo (by rw[aR];omega);go_wp2_with fail
    refine O5.mono ?_;rintro en Oi ⟨rfl,OV,Oa,Oy⟩;have Oq:dn (w9.drewN Oh) rb (b.extract 0 e) y.2 deep:=N8;have N3:dn Oi rb (b.extract 0 e) y.2 deep:=de.step Oq Oa Ob;have stA:dF w Z rb Oi OV:=((N2.trans (.of_kept Og)).trans (.of_below (gC (Below.refl _ _) Oh))).trans (.of_step Oa)
    have O9:uX S k d B w Oi Z (fun i=>OV i/\i<Oi.heap.size) rb db b e deep F1 y.2 (m'.keep (b.extract a' y.2)) P:=
     ⟨stA.clip,N3,Oy.clip,Of,O.wm.keep _ (by rw[aR];omega),by omega,HL,fun x q=>⟨(stA.grow x q.1).elim (Ok x) (fun e=>by omega),q.2⟩⟩
    go_wp2;go_roundw
    case rel=>exact⟨_,_,_,_,by omega,O9⟩
    case measure=>rw[HM.out,fO N3];omega
  ·have OX:decide (a'<e)=false:=decide_eq_false hlt;obtain rfl:a'=e:=by omega
   have HE:Hid (P= .ok m'):=by
    show P=_;rw[O.eq.out,j7 hlt]
   go_wp2;go_end0;rw[HE.out];exact⟨rfl,Z',O.st.trans (.of_below (gC (Below.refl _ _) q)),O.dr.keep (fun _ _ _=>rfl),O.rr⟩
end
def oD:aq->List PV->aq
 |mv::ms,v::vs=> .int .u64 v.1::ae v.2.1::mv::ae v.2.2.unk::oD ms vs
 |_,_=> []
def oE:aq->List PF->aq
 |vv::r,f::fs=>aa f.1::vv::oE r fs
 |_,_=> []
theorem rz:∀{a:aq} {l:List PV} {b:aq} {r:List PV},a.length=l.length->oD (a++b) (l++r)=oD a l++oD b r
 | [],[],_,_,_=>by simp[oD]
 | [],_::_,_,_,h=>by simp at h
 |_::_,[],_,_,h=>by simp at h
 |mv::a,v::l,b,r,h=>by simp[oD,rz (a:=a) (l:=l) (b:=b) (r:=r) (by simpa using h)]
theorem rA:∀{a:aq} {l:List PF} {b:aq} {r:List PF},a.length=l.length->oE (a++b) (l++r)=oE a l++oE b r
 | [],[],_,_,_=>by simp[oE]
 | [],_::_,_,_,h=>by simp at h
 |_::_,[],_,_,h=>by simp at h
 |mv::a,v::l,b,r,h=>by simp[oE,rA (a:=a) (l:=l) (b:=b) (r:=r) (by simpa using h)]
abbrev AW:=Value->PM->(ap)->Prop
def iy (P:AW)(w:an)(A:ap)(vv:Value)(l:List PV):Prop:=
 ∃ms Y,dJ w A 55 4 vv l.length (oD ms l)/\(∀b,vv.ownBlock=some b->¬Y b)/\(∀b,Y b->A b)/\ij (fun mv v C=>P mv v.2.2 C) Y ms l
def nE:Nat->an->AW
 |0,_,_,_,_=>False
 |k+1,w,v,m,Z=>∃N8 Y,dJ w Z 58 2 v m.fs.length (oE N8 m.fs)/\(∀b,v.ownBlock=some b->¬Y b)/\(∀b,Y b->Z b)/\ij (fun vv f A=>iy (nE k w) w A vv f.2) Y N8 m.fs
theorem iy.keep {P Q:AW}{w w':an}{A:ap}{vv:Value}{l:List PV}(h:iy P w A vv l)(hk:∀b,A b->b<w.heap.size->w'.heap[b]?=w.heap[b]?)
  (hPQ:∀mv m C,(∀b,C b->A b)->P mv m C->Q mv m C):iy Q w' A vv l:=by
 obtain⟨ms,Y,h1,h2,h3,h4⟩:=h;exact⟨ms,Y,h1.keep hk,h2,h3,h4.imp fun mv v C _ _ hC h=>hPQ mv _ C (fun b hb=>h3 b (hC b hb)) h⟩
theorem nE.keep:∀{k:Nat} {w w':an} {v:Value} {m:PM} {Z:ap},nE k w v m Z->(∀b,Z b->b<w.heap.size->w'.heap[b]?=w.heap[b]?)->nE k w' v m Z
 |0,_,_,_,_,_,h,_=>h
 |_+1,_,_,_,_,_,⟨N8,Y,h1,h2,h3,h4⟩,hk=>⟨N8,Y,h1.keep hk,h2,h3,h4.imp fun _ _ _ _ _ hA h=>
   h.keep (fun b hb hl=>hk b (h3 b (hA b hb)) hl) (fun _ _ _ hC hm=>hm.keep fun b hb hl=>hk b (h3 b (hA b (hC b hb))) hl)⟩
theorem nE.none (k:Nat)(w:an)(Z:ap):nE (k+1) w (.slice .none 0 0) PM.none Z:=⟨[],fun _=>False,dJ.nil _ _ _ _,(by intro b h;cases h),(by intro b h;cases h),trivial⟩
theorem nE.form {k:Nat}{w:an}{v:Value}{m:PM}{Z:ap}(h:nE k w v m Z):∃a c,v= .slice a m.fs.length c:=by
 cases k with
 |zero=>exact h.elim
 |succ k=>
  obtain⟨N8,Y,h1,_⟩:=h;obtain⟨a,n,c,rfl⟩:=df h1.1;rw[dR h1.1];exact⟨a,c,rfl⟩
theorem iy.form {P:AW}{w:an}{A:ap}{vv:Value}{l:List PV}(h:iy P w A vv l):∃a c,vv= .slice a l.length c:=by
 obtain⟨ms,Y,h1,_⟩:=h;obtain⟨a,n,c,rfl⟩:=df h1.1;rw[dR h1.1];exact⟨a,c,rfl⟩
theorem Ib {k:Nat}{w:an}{A:ap}{vv:Value}{lv:List LV}(h:dJ w A 55 4 vv lv.length (lv.flatMap jX)):iy (nE (k+1) w) w A vv (lv.map nx):=by
 have e:∀lv:List LV,lv.flatMap jX=oD (lv.map fun _=>ah) (lv.map nx):=fun lv=>by
  induction lv with
  |nil=>rfl
  |cons x lv ih=>rw[bm,ih];rfl
 refine⟨lv.map fun _=>ah,fun _=>False,?_,fun b _ h=>h,fun b h=>h.elim,?_⟩
 ·rw[<-e];simpa using h
 ·have:∀lv:List LV,ij (fun mv (v:PV) C=>nE (k+1) w mv v.2.2 C) (fun _=>False) (lv.map fun _=>ah) (lv.map nx):=fun lv=>by
   induction lv with
   |nil=>trivial
   |cons x lv ih=>exact⟨fun _=>False,fun _=>False,nE.none k w _,ih,fun b h=>h,fun b h=>h,fun b h=>h.elim⟩
  exact this lv
def LJ (k:Nat)(w:an)(Z:ap)(m:PM)(e:Ending)(w':an):Prop:=
 ∃v Z',e= .returned (.agg #[v,ae m.unk])/\nE (k+1) w' v m Z'/\(∀b,Z' b->b<w'.heap.size/\(Z b\/w.heap.size<=b))/\aj w w'
def px (k:Nat)(w:an)(A:ap)(l:List PV)(e:Ending)(w':an):Prop:=
 ∃v Z',e= .returned v/\iy (nE (k+1) w') w' Z' v l/\(∀b,Z' b->b<w'.heap.size/\(A b\/w.heap.size<=b))/\aj w w'
def rT (S:dG)(k:Nat)(T:Option MT)(w0:an)(B:ap)(wr:an)(u:Value)(done:List PV)(ps:au)(rest:List PV):Prop:=
 ∃ms Y,∃B1 B2:ap,ij (fun p v C=>v=mV v.2.2/\dB S k T w0 C p v.2.2) B2 ps rest/\(∀b,B1 b->B b)/\(∀b,B2 b->B b)/\(∀b,B1 b->¬B2 b)/\
  wr.ownsRow w0.heap.size 55 4 u done.length (oD ms done)/\(∀b,u.ownBlock=some b->¬Y b)/\ij (fun mv v C=>nE (k+1) wr mv v.2.2 C) Y ms done/\(∀b,Y b->b<wr.heap.size/\(B1 b\/w0.heap.size<=b))
theorem rT.start {S:dG}{k:Nat}{T:Option MT}{w0:an}{B:ap}{wr:an}{ps:au}{l:List PV}(h:ij (fun p v C=>v=mV v.2.2/\dB S k T w0 C p v.2.2) B ps l):rT S k T w0 B wr (ah) [] ps l:=
 ⟨[],fun _=>False,fun _=>False,B,h,fun _ q=>q.elim,fun _ q=>q,fun _ q=>q.elim,aX _ _ _ _,(fun _ q=>by cases q),trivial,fun _ q=>q.elim⟩
theorem rT.done {S:dG}{k:Nat}{T:Option MT}{w0:an}{B:ap}{wr:an}{u:Value}{l:List PV}(h:rT S k T w0 B wr u l [] []):
  ∃Z',iy (nE (k+1) wr) wr Z' u l/\∀b,Z' b->b<wr.heap.size/\(B b\/w0.heap.size<=b):=by
 obtain⟨ms,Y,B1,B2,_,Oa,_,_,N2,N7,N3,hY⟩:=h;refine⟨fun b=>Y b\/u.ownBlock=some b,⟨ms,Y,⟨ownsRow_base_a N2 (aM _),fun b hb=> .inr hb⟩,N7,fun b hb=> .inl hb,N3⟩,?_⟩;rintro b (hb|hb)
 ·exact⟨(hY b hb).1,(hY b hb).2.imp (Oa b) id⟩
 ·exact⟨(N2.lt b hb).2,.inr (N2.lt b hb).1⟩
theorem rT.step {S:dG}{k:Nat}{T:Option MT}{w0:an}{B:ap}{wr w1 w2:an}{u u' mv:Value}{done rest:List PV}{ps:au}{v:PV}{A B2 B2' B1 Y Z':ap}{ms:aq}
  (hlB:∀b,B b->b<w0.heap.size) (h0:w0.heap.size<=wr.heap.size)
  (hs:ij (fun p v C=>v=mV v.2.2/\dB S k T w0 C p v.2.2) B2' ps rest) (hA:∀b,A b->B2 b) (hB':∀b,B2' b->B2 b) (hAB:∀b,A b->¬B2' b)
  (Oa:∀b,B1 b->B b) (hB2:∀b,B2 b->B b) (h12:∀b,B1 b->¬B2 b) (N2:wr.ownsRow w0.heap.size 55 4 u done.length (oD ms done)) (N7:∀b,u.ownBlock=some b->¬Y b)
  (N3:ij (fun mv v C=>nE (k+1) wr mv v.2.2 C) Y ms done) (hY:∀b,Y b->b<wr.heap.size/\(B1 b\/w0.heap.size<=b))
  (hb1:aj wr w1) (hm:nE (k+1) w1 mv v.2.2 Z') (hZ:∀b,Z' b->b<w1.heap.size/\(A b\/wr.heap.size<=b))
  (hg:w1.grownBy w2 u.ownBlock) (hrow':w2.ownsRow w0.heap.size 55 4 u' (done.length+1) (oD ms done++oD [mv] [v])) (hu':u'.ownBlock=u.ownBlock\/∃g,u'.ownBlock=some g/\w1.heap.size<=g):
  rT S k T w0 B w2 u' (done++ [v]) ps rest:=by
 have hlen:ms.length=done.length:=N3.len
 have Oc:∀b,Y b->¬Z' b:=fun b hb hz=>by
  have q1:=hY b hb;have q2:=hZ b hz
  rcases q2.2 with q|q
  ·rcases q1.2 with q'|q'
   ·exact h12 b q' (hA b q)
   ·have:=hlB b (hB2 b (hA b q));omega
  ·omega
 have Ob:∀b,u.ownBlock=some b->¬(Y b\/Z' b):=fun b hb h=>by
  rcases h with h|h
  ·exact N7 b hb h
  ·have q:=N2.lt b hb
   rcases(hZ b h).2 with q'|q'
   ·have:=hlB b (hB2 b (hA b q'));omega
   ·omega
 have hk:∀b,(Y b\/Z' b)->b<w1.heap.size->w2.heap[b]?=w1.heap[b]?:=fun b hb hl=>hg.block b hl (fun e=>Ob b e.symm hb)
 refine⟨ms++ [mv],fun b=>Y b\/Z' b,fun b=>B1 b\/A b,B2',hs,?_,fun b hb=>hB2 b (hB' b hb),?_,?_,?_,?_,?_⟩
 ·rintro b (hb|hb)
  ·exact Oa b hb
  ·exact hB2 b (hA b hb)
 ·rintro b (hb|hb)
  ·exact fun h=>h12 b hb (hB' b h)
  ·exact hAB b hb
 ·rw[rz hlen];simpa using hrow'
 ·intro b hb h
  rcases hu' with e|⟨g,e,hge⟩
  ·exact Ob b (e▸hb) h
  ·rw[e]at hb
   cases hb
   rcases h with h|h
   ·have:=(hY _ h).1;have:=hb1.size;omega
   ·have:=(hZ _ h).1;omega
 ·refine ij.append (A:=Y) (B:=Z') ?_ ?_ (fun b h=> .inl h) (fun b h=> .inr h) Oc
  ·refine N3.imp fun mv v C _ _ hC h=>h.keep fun b hb hl=> ?_
   exact(hk b (.inl (hC b hb)) (aC hl hb1.size)).trans (hb1.block b hl)
  ·exact⟨Z',fun _=>False,hm.keep fun b hb hl=>hk b (.inr hb) hl,trivial,fun b h=>h,fun b h=>h.elim,fun b _ h=>h⟩
 ·have hsz:=hg.size;rintro b (hb|hb)
  ·have q:=hY b hb;have:=hb1.size;exact⟨by omega,q.2.imp .inl id⟩
  ·have q:=hZ b hb;exact⟨by omega,q.2.imp .inr (fun h=>by omega)⟩
section
open Go.Maps Go.Sort
theorem Fw:WideMaps.KeyLaw Tryz.prog 386:=deep_law (m:=2) (by omega) (by kernel_rfl) (by kernel_rfl) (by kernel_rfl)
theorem Fy {a b:LV}(h:kV a=kV b):a=b:=by
 unfold kV at h;simp only[Value.agg.injEq,Array.mk.injEq,List.cons.injEq,Value.int.injEq,true_and,Value.string.injEq,and_true]at h;exact Prod.ext h.1 h.2
theorem zq {v:Value}{kl:Lit}(h:Go.keyOf Tryz.prog 386 v=some kl):∃k:LV,v=kV k/\uV k:=by
 obtain⟨xs,L,rfl,h1,_⟩:=keyOf_top (by kernel_rfl) h;have hb:Nat.ble 1 Tryz.prog.types.size=true:=by kernel_rfl
 have hb2:=Nat.le_of_ble_eq_true hb;obtain⟨N,hN⟩:∃N,Tryz.prog.types.size+1=N+1+1:=⟨Tryz.prog.types.size-1,by omega⟩;rw[hN]at h1;obtain⟨l⟩:=xs
 have hl:l.length=2:=by
  simp only[Program.keyLits,Tryz.underlying386,AP]at h1
  split at h1
  ·rename_i q;exact q.1
  ·cases h1
 obtain⟨c0,c1,rfl⟩:∃c0 c1,l= [c0,c1]:=by
  match l,hl with
  | [c0,c1],_=>exact⟨c0,c1,rfl⟩
 ·simp[Program.keyLits,Tryz.underlying386,AP,AQ,yX,Tryz.underlying53,Tryz.underlying9]at h1
  cases c0 with
  |int q n=>
   simp only at h1
   by_cases hq:q= .u64/\(Lit.int .u64 n).wf=true
   ·rw[if_pos hq]at h1
    cases c1 with
    |string t=>
     simp only[Option.bind_some,Function.comp]at h1
     by_cases hs:t.size<=maxLen
     ·obtain⟨rfl,h2⟩:=hq;have Ok:(decide (0<=n)&&decide (n<=18446744073709551615))=true:=h2;simp only[aT,decide_eq_true_eq]at Ok;exact⟨(n,t),rfl,⟨Ok.1,by show n<_;omega,hs⟩⟩
     ·rw[if_neg hs]at h1;simp at h1
    |_=>simp at h1
   ·rw[if_neg hq]at h1;simp at h1
  |_=>simp at h1
def nF (D0:DataW Unit)(left:Lit->Bool)(ss:List LV):Prop:=ss.Nodup/\(∀k∈ss,uV k)/\∀(k:LV) kl,Go.keyOf Tryz.prog 386 (kV k)=some kl->(k∈ss<->(has D0 kl=true/\left kl=false))
theorem nF.start (D0:DataW Unit):nF D0 (has D0) []:=⟨List.nodup_nil,by simp,fun k kl _=>by cases has D0 kl<;>simp⟩
theorem nF.step {D0:DataW Unit}{left:Lit->Bool}{ss:List LV}(h:nF D0 left ss){x:LV}{kl:Lit}{y:DataW Unit}(hx:uV x)(hk:Go.keyOf Tryz.prog 386 (kV x)=some kl)(Oh:left kl=true)(Oi:∀zd,D0.atKey kl zd=y):nF D0 (fun z=>left z&& !z.sameKey kl) (ss++ [x]):=by
 have Oc:has D0 kl=true:=has_true_of_atKey Oi;have Od:x∉ss:=fun q=>by have:=((h.2.2 x kl hk).1 q).2;rw[Oh]at this;cases this
 refine⟨List.nodup_append.2 ⟨h.1,by simp,fun a ha b hb=>by simp at hb;subst hb;exact fun e=>Od (e▸ha)⟩,fun k hk=>by
  rcases ba.1 hk with hk|hk
  ·exact h.2.1 k hk
  ·simp at hk;subst hk;exact hx,fun k kl' N8=> ?_⟩
 obtain⟨s,rfl⟩:=Fw.str hk;obtain⟨s',rfl⟩:=Fw.str N8
 by_cases e:k=x
 ·subst e;rw[hk]at N8
  cases N8
  simp[Oc,Lit.sameKey]
 ·have Om:s'≠s:=fun q=>by
   subst q;exact e (Fy (Fw.inj N8 hk))
  simp[h.2.2 k _ N8,e,Lit.sameKey,Om]
theorem xE {v:Value}{y:DataW Unit×List MemPlace}(h:eU v=some y):∃o:Option Nat,v=ft o:=by
 unfold eU at h
 split at h
 ·exact⟨none,rfl⟩
 ·rename_i b;exact⟨some b,rfl⟩
 ·cases h
theorem Fz (F:Fence)(n:Nat)(hF:∀f,F.fn f)(N2:F.round=none)(hn:1<=n)(l Bm b nn:Nat)(D0:DataW Unit)(J:List LV->an->Prop)
  (hY:∀pre x W,J pre W->pre.length<Go.Maps.size D0->YieldAt F (n-1) Tryz.prog l #[kV x] W fun e W'=>e= .returned (.bool true)/\J (pre++ [x]) W'/\KeepsWalks W W')
  (W:an) (hJ:AbidesFrom W.heap.size J) (hm:W.cell? (ai Bm 0)=some (.map (some b))) (hown:W.ownsMap Tryz.prog 386 eU b nn D0) (h0:J [] W):
  CallsIn F n Tryz.prog 356 #[.func (.yield l) #[] #[],ag Bm] W fun e W'=>(∃v,e= .returned v)/\∃ss:List LV,(nF D0 (fun _=>false) ss/\ss.length<=Go.Maps.size D0)/\J ss W':=by
 refine callsIn_of_wp Tryz.func356 rfl (hF _) ?_ N2;simp only[Tryz.ntmps356,cW,bn,cy,Nat.reduceAdd,Nat.reduceSub,cM,cN,cX,cS,aP,bj]
 gi_wp2_with (first
  |(gi_at_range;refine wpListIn_range_own _ rfl _ 247 rfl 386 180 AO Tryz.underlying247 _ b nn _ rfl hown ?_;intro w0 Of Ot hs0)
  |gi_in)
 go_frame
 gi_loopw [3] (fun _ wr=>∃(left:Lit->Bool) (cnt:Nat) (ss:List LV),wr.ranges Tryz.prog 386 eU b W.heap.size nn D0 left cnt/\ss.length+cnt<=Go.Maps.size D0/\nF D0 left ss/\J ss wr) (fun _ wr=>wr.rangeLeft b W.heap.size)
 case atStart=>exact⟨_,_,[],Of,by simp,nF.start D0,hJ [] W w0 none h0 Ot (fun r e=>by cases e)⟩
 case round=>
  obtain⟨left,cnt,ss,Ob,hcs,hC,Ol⟩:=hrel
  gi_wp2_with (first
   |(gi_at_next;refine wpListIn_next_ranges _ rfl _ rfl 386 AO eU kV ft (fun key kl hk=>by obtain⟨k,rfl,_⟩:=zq hk;exact⟨k,rfl⟩) (fun v y hv=>by obtain⟨o,rfl⟩:=xE hv;exact⟨o,rfl⟩) b W.heap.size nn _ _ _ rfl Ob ?_ ?_)
   |gi_in)
  ·intro hc0 Ou
   gi_wp2
   go_end0;have hz:left=fun _=>false:=funext Ou
   subst hz;exact⟨⟨_,rfl⟩,ss,⟨hC,by omega⟩,Ol⟩
  ·intro x1 x2 c kl yd yp w2 Og Oa Oh hv Oi Oj Ov Ow Ox Oy;obtain⟨x',ex,Oz⟩:=zq Oa;obtain rfl:=Fy ex;have Oo:J ss w2:=hJ ss wr w2 (some W.heap.size) Ol Ow (fun r e=>by cases e;exact⟨ay _,Ob.iter_walk⟩);have Oe:J ss (w2.alloc (ak #[.int .u64 x1,ae x2] 386)):=hJ ss w2 _ none Oo (World.grownBy_alloc w2 _ none) (fun r e=>by cases e);obtain⟨fn,tmps,assign,body,hy,hR⟩:=hY ss ((x1,x2):LV) _ Oe (by omega);unfold kV at Oy hy;clear Ox
   gi_wp2
   refine hR.mono ?_;rintro e W3 ⟨rfl,Oe,OA⟩
   gi_wp2
   have N3:=Oj.of_walks ((KeepsWalks.alloc _ _).trans OA);go_roundw
   case rel=>exact⟨_,Og,ss++ [(x1,x2)],N3,by simp;omega,hC.step Oz Oa Oh Oi,Oe⟩
   case measure=>rw[N3.left_eq,Ob.left_eq];exact Ov
theorem FA (F:Fence)(n:Nat)(hF:∀f,F.fn f)(N2:F.round=none)(l Bm:Nat)(J:List LV->an->Prop)(W:an)(hJ:AbidesFrom W.heap.size J)
  (hm:W.cell? (ai Bm 0)=some (.map none)) (h0:J [] W):
  CallsIn F n Tryz.prog 356 #[.func (.yield l) #[] #[],ag Bm] W fun e W'=>(∃v,e= .returned v)/\∃ss:List LV,ss= []/\J ss W':=by
 refine callsIn_of_wp Tryz.func356 rfl (hF _) ?_ N2;simp only[Tryz.ntmps356,cW,bn,cy,Nat.reduceAdd,Nat.reduceSub,cM,cN,cX,cS,aP,bj];have Ob:=run_range_nilMap (P:=Tryz.prog) W 247 386 180 Tryz.underlying247;have hnx:∀ty,(Instr.next (ag W.heap.size) false ty).run Tryz.prog (W.alloc (.mapIter none 0 #[] 0))=_:=fun ty=>run_next_nilMap _ ty 0 0 #[]
 gi_wp2
 refine wpIn_loop_rounds 1 ?_;rw[roundsIn_succ]
 gi_wp2
 go_end0;exact⟨⟨_,rfl⟩,[],rfl,hJ [] W _ none h0 (World.grownBy_alloc W _ none) (fun r e=>by cases e)⟩
def AX (w:an)(Bm:Nat)(S:List LV->Prop)(N:Nat):Prop:=∀(F:Fence) (n:Nat),(∀f,F.fn f)->F.round=none->1<=n->SeqGives F n Tryz.prog 356 #[ag Bm] kV S N w
theorem AY {w:an}{Bm b nn:Nat}{D0:DataW Unit}(hBm:Bm<w.heap.size)(hm:w.cell? (ai Bm 0)=some (.map (some b)))(hown:w.ownsMap Tryz.prog 386 eU b nn D0):
  AX w Bm (fun ss=>nF D0 (fun _=>false) ss/\ss.length<=Go.Maps.size D0) (Go.Maps.size D0):=fun F n hF N2 hn l J W hW hJ hY h0=>by
 have N7:W.ownsMap Tryz.prog 386 eU b nn D0:=by
  have Oq:=hown.lt;obtain⟨es,clock,hb,Ft,hs,hD⟩:=hown;exact⟨es,clock,(hW.block b Oq).trans hb,Ft,hs,hD⟩
 exact Fz F n hF N2 hn l Bm b nn D0 J hY W hJ ((hW.cell (p:=(ai Bm 0)) hBm).trans hm) N7 h0
theorem zv {w:an}{Bm:Nat}(hBm:Bm<w.heap.size)(hm:w.cell? (ai Bm 0)=some (.map none)):AX w Bm (fun ss=>ss= []) 0:=
 fun F n hF N2 _ l J W hW hJ _ h0=>FA F n hF N2 l Bm J W hJ ((hW.cell (p:=(ai Bm 0)) hBm).trans hm) h0
end
end Go.Proofs.YtfebdimolnobaaaGreatDoor
