import Derived.Test.YtfebdimolnobaaaGreatDoorRrC
set_option maxRecDepth 100000
set_option maxHeartbeats 8000000
set_option linter.all false
namespace Go.Proofs.YtfebdimolnobaaaGreatDoor
open Go.RowKit
section
attribute [local go_sem↓] Go.wp_at_zero Go.wp_at_succ
theorem AH (a:Nat)(x n:Int)(w:an)(ha:w.cell? (ai a 0)=some (aa x)):
  Calls Tryz.prog 236 #[ag a,aa n] w fun e w'=>e= .returned (aa (iS x n))/\w'=w:=by
 have hC:=nY x n;generalize iS x n=c at hC⊢;go_enter Tryz.func236,Tryz.ntmps236
 go_wp2_with fail
 refine(hC _).mono ?_;rintro e w' ⟨rfl,rfl⟩;go_wp2;go_ret;exact⟨rfl,rfl⟩
def sq (N:List Int)(t:Int)(e:Ending):Prop:=
 ∃i:Nat,e= .returned (.tuple #[aa i,.bool (decide (N[i]?=some t))])/\i<=N.length/\(∀k x,N[k]?=some x->k<i->x<t)/\(∀k x,N[k]?=some x->i<=k->t<=x)
theorem EM (w:an)(v:Value)(l:List (Int×Nat))(t:Int)(lo:Nat)(hrow:w.ownsRow lo 212 1 v l.length (dV (l.map (·.2))))(hc:∀x∈l,w.cell? (ai x.2 0)=some (aa x.1))(hs:l.Pairwise (fun a b=>a.1<=b.1))(hl:l.length<=2001):
  Calls Tryz.prog 235 #[v,aa t,.func (.func 236) #[] #[]] w fun e w'=>sq (l.map (·.1)) t e/\w'=w:=by
 obtain⟨a,c,rfl⟩:=gS hrow
 have HS:Hid (∀(i j:Nat) (x y:Int×Nat),l[i]?=some x->l[j]?=some y->i<=j->x.1<=y.1):=fun i j x y hx hy Of=>by
  by_cases e:i=j
  ·subst e;rw[hx]at hy;obtain rfl:=Option.some.inj hy;exact cH _
  ·rw[bC]at hs;have hi:=gl hx;have hj:=gl hy;have:=hs i j hi hj (by omega);rw[aJ hi]at hx;rw[aJ hj]at hy;rw[<-Option.some.inj hx,<-Option.some.inj hy];exact this
 have HG:Hid (∀i x,l[i]?=some x->∃g,a=some (ai g 0)/\w.cell? (ai g i)=some (ag x.2)/\w.cell? (ai x.2 0)=some (aa x.1)):=fun i x hx=>by
  have hi:=gl hx;obtain⟨g,rfl,_,_,N3⟩:=dE hrow (by omega);exact⟨g,rfl,N3 w rfl i _ (by simp[dV,hx,ft]),hc x (aI hx)⟩
 clear hs hc hrow;go_enter Tryz.func235,Tryz.ntmps235
 go_wp2;go_loopw [9,10] (fun iv jv wr=>∃(i j:Nat),i<=j/\j<=l.length/\iv=aa i/\jv=aa j/\Hid (∀k x,l[k]?=some x->k<i->x.1<t)/\Hid (∀k x,l[k]?=some x->j<=k->t<=x.1)/\w=wr) (fun iv jv _=>((intOf jv)-(intOf iv)).toNat)
 case atStart=>exact⟨0,l.length,aM _,ay _,rfl,rfl,(fun k x _ h=>by omega),(fun k x hx h=>by rw[aQ (by omega)]at hx;cases hx),rfl⟩
 case round=>
  obtain⟨i,j,Of,Og,rfl,rfl,H1,H2,rfl⟩:=hrel
  by_cases Oe:i<j
  ·obtain⟨h,hh⟩:∃h,(i+j)/2=h:=⟨_,rfl⟩;have Oi:h<l.length:=by omega
   have Oj:i<=h:=by omega
   have hhj:h<j:=by omega
   obtain⟨x,hx⟩:=gx Oi;obtain⟨g,rfl,Ok,Od⟩:=HG.out h x hx;have hw1:IntKind.u64.wrap ((i:Int)+(j:Int))=(i:Int)+(j:Int):=eR (by omega) (by omega);have hdiv:((i:Int)+(j:Int))/2=(h:Int):=by omega
   have hw2:IntKind.i64.wrap (h:Int)=(h:Int):=by simp[IntKind.wrap,IntKind.bits,IntKind.signed];omega
   by_cases Ob:x.1<t
   ·have hd:decide (iS x.1 t<0)=true:=by simp[kZ,Ob]
    have HX:Hid (l[h]?=some x):=hx;clear hh hx HG;go_wp2_with fail
    refine(AH x.2 x.1 t _ Od).mono ?_;rintro e w2 ⟨rfl,rfl⟩;go_wp2;go_roundw
    case rel=>exact⟨h+1,j,by omega,Og,rfl,rfl,(fun k y hy hk=>Int.lt_of_le_of_lt (HS.out k h y x hy HX.out (by omega)) Ob),H2,trivial⟩
    case measure=>simp[intOf];omega
   ·have hd:decide (iS x.1 t<0)=false:=decide_eq_false (fun q=>Ob ((kZ _ _).1 q));have HX:Hid (l[h]?=some x):=hx;clear hh hx HG;go_wp2_with fail
    refine(AH x.2 x.1 t _ Od).mono ?_;rintro e w2 ⟨rfl,rfl⟩;go_wp2;go_roundw
    case rel=>exact⟨i,h,Oj,by omega,rfl,rfl,H1,(fun k y hy hk=>Int.le_trans (by omega) (HS.out h k x y HX.out hy hk)),trivial⟩
    case measure=>simp[intOf];omega
  ·obtain rfl:i=j:=by omega
   have hli:decide ((i:Int)<(i:Int))=false:=by simp
   by_cases N7:i<l.length
   ·obtain⟨x,hx⟩:=gx N7;obtain⟨g,rfl,Ok,Od⟩:=HG.out i x hx;have HX:Hid (l[i]?=some x):=hx;have hti:=H2.out i x hx (ay _)
    have hd:(iS x.1 t==0)=decide (x.1=t):=by
     rw[b8];unfold iS
     by_cases q1:x.1<t
     ·simp[q1];omega
     ·by_cases q2:t<x.1
      ·simp[q1,q2];omega
      ·simp[q1,q2];omega
    have hN:decide ((l.map (·.1))[i]?=some t)=decide (x.1=t):=by rw[aO,hx];simp
    have HE:Hid (decide ((l.map (·.1))[i]?=some t)=decide (x.1=t)):=hN;clear hx HG hN Oe Of;go_wp2_with fail
    refine(AH x.2 x.1 t _ Od).mono ?_;rintro e w2 ⟨rfl,rfl⟩;go_wp2;go_ret2;refine⟨⟨i,by rw[HE.out];rfl,by simpa using Og,?_,?_⟩,rfl⟩
    ·intro k y hy hk;rw[aO]at hy;obtain⟨z,hz,rfl⟩:=Option.map_eq_some_iff.1 hy;exact H1.out k z hz hk
    ·intro k y hy hk;rw[aO]at hy;obtain⟨z,hz,rfl⟩:=Option.map_eq_some_iff.1 hy;exact H2.out k z hz hk
   ·have hli2:decide ((i:Int)<(l.length:Int))=false:=by simp;omega
    have HE:Hid (decide ((l.map (·.1))[i]?=some t)=false):=by
     show decide ((l.map (·.1))[i]?=some t)=false;rw[aQ (by rw[aV];omega)];simp
    clear HG Oe Of;go_wp2;go_ret2;refine⟨⟨i,by rw[HE.out];rfl,by simpa using Og,?_,?_⟩,rfl⟩
    ·intro k y hy hk;rw[aO]at hy;obtain⟨z,hz,rfl⟩:=Option.map_eq_some_iff.1 hy;exact H1.out k z hz hk
    ·intro k y hy hk;rw[aO]at hy;obtain⟨z,hz,rfl⟩:=Option.map_eq_some_iff.1 hy;exact H2.out k z hz hk
def fV:List GF->Int->Option GF
 | [],_=>none
 |g::l,t=>if g.f.num=t then some g else fV l t
theorem sW:∀{gs:List GF} {t:Int} {i:Nat} {g:GF},gs[i]?=some g->g.f.num=t->(∀k x,gs[k]?=some x->k<i->x.f.num≠t)->fV gs t=some g
 | [],_,_,_,h,_,_=>by simp at h
 |y::l,t,0,g,h,e,_=>by
  simp at h;subst h;rw[fV,if_pos e]
 |y::l,t,i+1,g,h,e,hn=>by
  rw[fV,if_neg (hn 0 y rfl (by omega))];exact sW (i:=i) (by simpa using h) e (fun k x hx hk=>hn (k+1) x (by simpa using hx) (by omega))
theorem my:∀{gs:List GF} {t:Int},(∀x∈gs,x.f.num≠t)->fV gs t=none
 | [],_,_=>rfl
 |y::l,t,h=>by
  rw[fV,if_neg (h y bg)];exact my (fun x hx=>h x (bF _ hx))
def EN (w:an)(P:ap)(mp:am->Option Nat)(r:Option GF)(e:Ending):Prop:=
 match r with
 |none=>e= .returned (.pointer none)
 |some g=>∃fb,e= .returned (ag fb)/\dP w P mp g fb
theorem od (w:an)(P:ap)(mp:am->Option Nat)(mb:Nat)(name:am)(gs:List GF)(t:Int)(h:gD w P mp mb name gs)(hs:gs.Pairwise (fun x y=>x.f.num<=y.f.num))(hl:gs.length<=2001):
  Calls Tryz.prog 153 #[ag mb,aa t] w fun e w'=>EN w P mp (fV gs t) e/\w'=w:=by
 obtain⟨fv,fbs,h1,h2,h3,h4⟩:=h;obtain⟨z,rfl,rfl,hz⟩:=h4.zip;obtain⟨fa,fn,fc,rfl⟩:=df h3.1;obtain rfl:fn=z.length:=by have:=dR h3.1;simpa using this
 rw[aV]at hl h3
 have HS:=EM w (.slice fa z.length fc) (z.map fun x=>(x.1.f.num,x.2)) t 0 (by rw[aV,bz,show((fun x:Int×Nat=>x.2)∘fun x:GF×Nat=>(x.1.f.num,x.2))=(fun x=>x.2)from rfl];exact h3.1)
  (fun x hx=>by obtain⟨y,hy,rfl⟩:=List.mem_map.1 hx;exact(hz y hy).cell0.1) (by rw[bJ]at hs⊢;exact hs) (by simpa using hl)
 obtain⟨k1,k2⟩:=h1.rules;go_enter Tryz.func153,Tryz.ntmps153
 go_wp2_with fail
 refine HS.mono ?_;rintro e w2 ⟨⟨i,rfl,hi,N8,Oa⟩,rfl⟩;have eN:(List.map (·.1) (z.map fun x:GF×Nat=>(x.1.f.num,x.2)))=z.map (fun x=>x.1.f.num):=by rw[bz];rfl
 rw[eN]at hi N8 Oa⊢;rw[aV]at hi
 by_cases hf:(z.map (fun x=>x.1.f.num))[i]?=some t
 ·rw[decide_eq_true hf];rw[aO]at hf;obtain⟨x,hx,Ob⟩:=Option.map_eq_some_iff.1 hf
  have N2:fV (z.map (·.1)) t=some x.1:=sW (i:=i) (by rw[aO,hx];rfl) Ob (fun k y hy hk e=>by
   rw[aO]at hy;obtain⟨u,hu,rfl⟩:=Option.map_eq_some_iff.1 hy;have:=N8 k u.1.f.num (by rw[aO,hu];rfl) hk
   omega)
  have N7:=gl hx;obtain⟨g,rfl,_,_,N3⟩:=dE h3.1 (by omega);have hg:=N3 w2 rfl i (ag x.2) (by simp[dV,hx,ft]);have Oe:(i:Int)<(z.length:Int):=by omega
  have HF:Hid (fV (z.map (·.1)) t=some x.1):=N2;have HX:Hid (dP w2 P mp x.1 x.2):=hz x (aI hx);clear N2 N3 N8 Oa hz HS;go_wp2;go_ret;refine⟨?_,rfl⟩;rw[HF.out];exact⟨x.2,rfl,HX.out⟩
 ·rw[decide_eq_false hf]
  have N2:fV (z.map (·.1)) t=none:=my (fun y hy e=>by
   obtain⟨u,hu,rfl⟩:=List.mem_map.1 hy;obtain⟨k,hk⟩:=cI hu;have Oc:(z.map (fun x=>x.1.f.num))[k]?=some u.1.f.num:=by rw[aO,hk];rfl
   rcases Nat.lt_or_ge k i with q|q
   ·have:=N8 k _ Oc q;omega
   ·by_cases q2:k=i
    ·subst q2;rw[e]at Oc;exact hf Oc
    ·have h5:=Oa k _ Oc q;have N7:i<z.length:=by have:=gl hk;omega
     obtain⟨x,hx⟩:=gx N7;have h6:=Oa i x.1.f.num (by rw[aO,hx];rfl) (ay _)
     have h7:x.1.f.num<=u.1.f.num:=by
      have Oh:=gl hk;rw[bJ,bC]at hs;have h8:=hs i k N7 Oh (by omega);rw[aJ N7]at hx;rw[aJ Oh]at hk;rw[Option.some.inj hx,Option.some.inj hk]at h8;exact h8
     exact hf (by rw[aO,hx];simp;omega))
  have HF:Hid (fV (z.map (·.1)) t=none):=N2;clear N2 N8 Oa hz HS;go_wp2;go_ret;refine⟨?_,rfl⟩;rw[HF.out];rfl
def dC (mp:am->Option Nat)(g:GF):Nat:=if g.form=4 then 16 else gQ mp g.f.ty
theorem xg:∀(l:List (List UInt8)) (s:List UInt8) (k n:Nat),yA l s k=some n->n<k+l.length
 | [],s,k,n,h=>by simp[yA]at h
 |x::l,s,k,n,h=>by
  unfold yA at h
  split at h
  ·simp at h;subst h;simp
  ·have:=xg l s (k+1) n h;simp;omega
theorem qC (mp:am->Option Nat)(t:am):gQ mp t<=16:=by
 unfold gQ o8
 split
 ·cases h:yA kW t.toList 0 with
  |none=>simp
  |some n=>
   have:=xg kW t.toList 0 n h;have e:kW.length=15:=rfl;simp;omega
 ·split<;>omega
theorem jA (mp:am->Option Nat)(g:GF):dC mp g<=16:=by
 unfold dC
 split
 ·omega
 ·exact qC mp _
theorem dP.blk {w:an}{P:ap}{mp:am->Option Nat}{g:GF}{fb:Nat}(h:dP w P mp g fb):
  ∃pv rv,de w fb #[aa g.f.num,aa g.form,aa (dC mp g),pv,rv] 220/\P fb/\dJ w P 3 1 rv g.riv.length (eL g.riv)/\
   (if g.form=4 then∃eb,pv=ft (some eb)/\jQ w P mp g.f.key g.f.ty eb else pv=ft (uK mp g.f.ty)):=by
 unfold dP at h;unfold dC
 split at h
 ·rename_i h0
  obtain⟨rv,eb,h1,h2,h3,h4⟩:=h;rw[if_pos h0];refine⟨ft (some eb),rv,by rw[h0];exact h1,h2,h3,?_⟩;rw[if_pos h0];exact⟨eb,rfl,h4⟩
 ·rename_i h0
  obtain⟨rv,h1,h2,h3⟩:=h;rw[if_neg h0];exact⟨_,rv,h1,h2,h3,by rw[if_neg h0]⟩
theorem jQ.msg {w:an}{P:ap}{mp:am->Option Nat}{k v:am}{eb:Nat}(h:jQ w P mp k v eb):gD w P mp eb eS [jj lH k 1,jj oz v 2]:=by
 obtain⟨fv,b1,b2,h1,h2,h3,h4,h5⟩:=h;refine⟨fv,[b1,b2],h1,h2,h3,b1,[b2],rfl,?_,b2,[],rfl,?_,rfl⟩
 ·unfold dP;rw[if_neg (by simp[jj])];exact h4
 ·unfold dP;rw[if_neg (by simp[jj])];exact h5
def fG (mp:am->Option Nat)(g:GF):Bool:=(g.form==2)&&gF (dC mp g)
theorem jW (w:an)(P:ap)(mp:am->Option Nat)(g:GF)(fb:Nat)(h:dP w P mp g fb):
  Calls Tryz.prog 209 #[ag fb] w fun e w'=>e= .returned (.bool (fG mp g))/\aj w w':=by
 obtain⟨pv,rv,h1,_,_,_⟩:=h.blk;have hk:=AG;have N7:=jA mp g;unfold fG;obtain⟨k1,k2⟩:=h1.rules
 cases hf:(g.form==2)
 ·go_enter Tryz.func209,Tryz.ntmps209
  go_wp2;go_ret;exact⟨rfl,Below.refl _ _⟩
 ·go_enter Tryz.func209,Tryz.ntmps209
  go_wp2_with fail
  refine(hk w (dC mp g) pv N7).mono ?_;rintro e w2 ⟨rfl,b2⟩;go_wp2;go_ret;exact⟨rfl,b2⟩
def jd (mp:am->Option Nat)(g:GF)(kind:Int):Bool:=(kind==(dL (dC mp g):Int))||((kind==2)&&fG mp g)
theorem Jz (w:an)(P:ap)(mp:am->Option Nat)(g:GF)(fb:Nat)(kind:Int)(h:dP w P mp g fb):
  Calls Tryz.prog 183 #[ag fb,aa kind] w fun e w'=>e= .returned (.bool (jd mp g kind))/\aj w w':=by
 obtain⟨pv,rv,h1,_,_,_⟩:=h.blk;have N7:=jA mp g;have HW:=nj w (dC mp g) pv N7;have HP:Hid (∀w2:an,aj w w2->Calls Tryz.prog 209 #[ag fb] w2 fun e w'=>e= .returned (.bool (fG mp g))/\aj w2 w'):=fun w2 b2=>jW w2 P mp g fb (h.keep (fun b _ hl=>b2.block b hl))
 unfold jd;obtain⟨k1,k2⟩:=h1.rules;generalize dC mp g=gb at*;generalize(dL gb:Int)=wb at*;generalize fG mp g=pg at*
 cases hf:(kind==wb)
 ·cases N8:(kind==2)
  ·go_enter Tryz.func183,Tryz.ntmps183
   go_wp2_with fail
   refine HW.mono ?_;rintro e w2 ⟨rfl,b2⟩;go_wp2;go_ret;exact⟨rfl,b2⟩
  ·go_enter Tryz.func183,Tryz.ntmps183
   go_wp2_with fail
   refine HW.mono ?_;rintro e w2 ⟨rfl,b2⟩;go_wp2_with fail
   refine(HP.out w2 b2).mono ?_;rintro e w3 ⟨rfl,b3⟩;go_wp2;go_ret;exact⟨rfl,dH b2 b3⟩
 ·go_enter Tryz.func183,Tryz.ntmps183
  go_wp2_with fail
  refine HW.mono ?_;rintro e w2 ⟨rfl,b2⟩;go_wp2;go_ret;exact⟨rfl,b2⟩
def iA (mp:am->Option Nat)(g:GF):Int:=if g.form=4/\gQ mp g.f.ty=16 then 2 else if dC mp g=16 then 1 else 0
theorem qD (k v:am): [jj lH k 1,jj oz v 2].Pairwise (fun x y=>x.f.num<=y.f.num):=by simp[jj]
theorem yN (k v:am):fV [jj lH k 1,jj oz v 2] 1=some (jj lH k 1):=by simp[fV,jj]
theorem yO (k v:am):fV [jj lH k 1,jj oz v 2] 2=some (jj oz v 2):=by simp[fV,jj]
theorem nl (w:an)(P:ap)(mp:am->Option Nat)(g:GF)(fb:Nat)(h:dP w P mp g fb):
  Calls Tryz.prog 186 #[ag fb] w fun e w'=>e= .returned (aa (iA mp g))/\w'=w:=by
 obtain⟨pv,rv,h1,_,_,h4⟩:=h.blk;obtain⟨k1,k2⟩:=h1.rules;unfold iA
 by_cases hf:g.form=4
 ·rw[if_pos hf]at h4;obtain⟨eb,rfl,hE⟩:=h4;have HF:=od w P mp eb eS _ 2 hE.msg (qD _ _) (by simp);rw[yO]at HF;have N8:(g.form==4)=true:=by simp[hf]
  unfold ft at k1;have N2:dC mp g=16:=by unfold dC;rw[if_pos hf]
  rw[N2]at k1
  by_cases ht:gQ mp g.f.ty=16
  ·rw[if_pos ⟨hf,ht⟩];clear hf h h1;go_enter Tryz.func186,Tryz.ntmps186
   go_wp2_with fail
   refine HF.mono ?_;rintro e w2 ⟨⟨vb,rfl,hV⟩,rfl⟩;obtain⟨Oa,Ob,h5,_,_,_⟩:=hV.blk;have N3:dC mp (jj oz g.f.ty 2)=16:=by unfold dC;rw[if_neg (by simp[jj])];exact ht
   rw[N3]at h5;obtain⟨k3,k4⟩:=h5.rules;go_wp2;go_ret;exact⟨rfl,rfl⟩
  ·rw[if_neg (fun q=>ht q.2),if_pos N2];clear hf h h1;go_enter Tryz.func186,Tryz.ntmps186
   go_wp2_with fail
   refine HF.mono ?_;rintro e w2 ⟨⟨vb,rfl,hV⟩,rfl⟩;obtain⟨Oa,Ob,h5,_,_,_⟩:=hV.blk;have N3:dC mp (jj oz g.f.ty 2)=gQ mp g.f.ty:=by unfold dC;rw[if_neg (by simp[jj])];rfl
   rw[N3]at h5;obtain⟨k3,k4⟩:=h5.rules;have ht2:((gQ mp g.f.ty:Int)==16)=false:=by simp;omega
   go_wp2;go_ret;exact⟨rfl,rfl⟩
 ·have N8:(g.form==4)=false:=by simp[hf]
  rw[if_neg (fun q=>hf q.1)];clear h4
  by_cases N2:dC mp g=16
  ·rw[if_pos N2];rw[N2]at k1;clear hf;go_enter Tryz.func186,Tryz.ntmps186
   go_wp2;go_ret;exact⟨rfl,rfl⟩
  ·rw[if_neg N2];have hg2:((dC mp g:Int)==16)=false:=by simp;omega
   clear hf N2;go_enter Tryz.func186,Tryz.ntmps186
   go_wp2;go_ret;exact⟨rfl,rfl⟩
def eX (s:am)(a k:Nat):Fx (Int×Nat):=
 match(if dL k=0 then fA s a s.size else if dL k=5 then fh s a 4 else fh s a 8)with
 | .error x=> .error x
 | .ok x=> .ok (eW k x.1,x.2)
theorem xh (w:an)(rb:Nat)(s:am)(a:Nat)(deep:Int)(k:Nat)(h:dn w rb s a deep)(ha:a<=s.size)(hs:s.size<=140737488355328)(hn:gF k=true):
  Calls Tryz.prog 271 #[aa k,ag rb] w (ni w rb s deep (eX s a k) (Value.int .u64)):=by
 have hk:k=0\/k=1\/k=2\/k=3\/k=4\/k=5\/k=6\/k=7\/k=8\/k=9\/k=10\/k=11\/k=12\/k=15:=by
  unfold gF at hn;simp at hn;omega
 rcases hk with rfl|rfl|rfl|rfl|rfl|rfl|rfl|rfl|rfl|rfl|rfl|rfl|rfl|rfl
 ·have e0:eX s a 0=(match fA s a s.size with| .error x=> .error x| .ok x=> .ok (eW 0 x.1,x.2)):=rfl;rw[e0];obtain⟨r,HR⟩:∃r,Hid ((match fA s a s.size with| .error x=> .error x| .ok x=> .ok (eW 0 x.1,x.2):Fx (Int×Nat))=r):=⟨_,rfl⟩;rw[HR.out];go_enter Tryz.func271,Tryz.ntmps271
  go_wp2_with fail
  refine(gj w rb s a deep h hs).mono ?_
  cases hv:fA s a s.size with
  |error x=>
   rintro e w2 ⟨hk,he⟩;obtain rfl:e=da x.1 x.2:=he;obtain rfl:r= .error x:=by rw[<-HR.out,hv]
   unfold da;go_wp2;exact⟨rfl,hk,rfl⟩
  |ok x=>
   obtain⟨n,z⟩:=x;obtain⟨v0,v1,v2,v3⟩:=fW hv;rintro e w2 ⟨hk,he,hr⟩;obtain rfl:e= .returned (.int .u64 n):=he;obtain rfl:r= .ok (eW 0 n,z):=by rw[<-HR.out,hv]
   go_wp2_with fail
   refine(jm _ n).mono ?_;rintro e w3 ⟨rfl,rfl⟩;go_wp2;go_ret;exact⟨hk,rfl,hr⟩
 ·have e0:eX s a 1=(match fA s a s.size with| .error x=> .error x| .ok x=> .ok (eW 1 x.1,x.2)):=rfl;rw[e0];obtain⟨r,HR⟩:∃r,Hid ((match fA s a s.size with| .error x=> .error x| .ok x=> .ok (eW 1 x.1,x.2):Fx (Int×Nat))=r):=⟨_,rfl⟩;rw[HR.out];go_enter Tryz.func271,Tryz.ntmps271
  go_wp2_with fail
  refine(gj w rb s a deep h hs).mono ?_
  cases hv:fA s a s.size with
  |error x=>
   rintro e w2 ⟨hk,he⟩;obtain rfl:e=da x.1 x.2:=he;obtain rfl:r= .error x:=by rw[<-HR.out,hv]
   unfold da;go_wp2;exact⟨rfl,hk,rfl⟩
  |ok x=>
   obtain⟨n,z⟩:=x;obtain⟨v0,v1,v2,v3⟩:=fW hv;rintro e w2 ⟨hk,he,hr⟩;obtain rfl:e= .returned (.int .u64 n):=he;obtain rfl:r= .ok (eW 1 n,z):=by rw[<-HR.out,hv]
   go_wp2;go_ret;exact⟨hk,rfl,hr⟩
 ·have e0:eX s a 2=(match fA s a s.size with| .error x=> .error x| .ok x=> .ok (eW 2 x.1,x.2)):=rfl;rw[e0];obtain⟨r,HR⟩:∃r,Hid ((match fA s a s.size with| .error x=> .error x| .ok x=> .ok (eW 2 x.1,x.2):Fx (Int×Nat))=r):=⟨_,rfl⟩;rw[HR.out];go_enter Tryz.func271,Tryz.ntmps271
  go_wp2_with fail
  refine(gj w rb s a deep h hs).mono ?_
  cases hv:fA s a s.size with
  |error x=>
   rintro e w2 ⟨hk,he⟩;obtain rfl:e=da x.1 x.2:=he;obtain rfl:r= .error x:=by rw[<-HR.out,hv]
   unfold da;go_wp2;exact⟨rfl,hk,rfl⟩
  |ok x=>
   obtain⟨n,z⟩:=x;obtain⟨v0,v1,v2,v3⟩:=fW hv;rintro e w2 ⟨hk,he,hr⟩;obtain rfl:e= .returned (.int .u64 n):=he;obtain rfl:r= .ok (eW 2 n,z):=by rw[<-HR.out,hv]
   go_wp2_with fail
   refine(pS _ n).mono ?_;rintro e w3 ⟨rfl,rfl⟩;go_wp2;go_ret;exact⟨hk,rfl,hr⟩
 ·have e0:eX s a 3=(match fA s a s.size with| .error x=> .error x| .ok x=> .ok (eW 3 x.1,x.2)):=rfl;rw[e0];obtain⟨r,HR⟩:∃r,Hid ((match fA s a s.size with| .error x=> .error x| .ok x=> .ok (eW 3 x.1,x.2):Fx (Int×Nat))=r):=⟨_,rfl⟩;rw[HR.out];go_enter Tryz.func271,Tryz.ntmps271
  go_wp2_with fail
  refine(gj w rb s a deep h hs).mono ?_
  cases hv:fA s a s.size with
  |error x=>
   rintro e w2 ⟨hk,he⟩;obtain rfl:e=da x.1 x.2:=he;obtain rfl:r= .error x:=by rw[<-HR.out,hv]
   unfold da;go_wp2;exact⟨rfl,hk,rfl⟩
  |ok x=>
   obtain⟨n,z⟩:=x;obtain⟨v0,v1,v2,v3⟩:=fW hv;rintro e w2 ⟨hk,he,hr⟩;obtain rfl:e= .returned (.int .u64 n):=he;obtain rfl:r= .ok (eW 3 n,z):=by rw[<-HR.out,hv]
   go_wp2;go_ret;exact⟨hk,rfl,hr⟩
 ·have e0:eX s a 4=(match fA s a s.size with| .error x=> .error x| .ok x=> .ok (eW 4 x.1,x.2)):=rfl;rw[e0];obtain⟨r,HR⟩:∃r,Hid ((match fA s a s.size with| .error x=> .error x| .ok x=> .ok (eW 4 x.1,x.2):Fx (Int×Nat))=r):=⟨_,rfl⟩;rw[HR.out];go_enter Tryz.func271,Tryz.ntmps271
  go_wp2_with fail
  refine(gj w rb s a deep h hs).mono ?_
  cases hv:fA s a s.size with
  |error x=>
   rintro e w2 ⟨hk,he⟩;obtain rfl:e=da x.1 x.2:=he;obtain rfl:r= .error x:=by rw[<-HR.out,hv]
   unfold da;go_wp2;exact⟨rfl,hk,rfl⟩
  |ok x=>
   obtain⟨n,z⟩:=x;obtain⟨v0,v1,v2,v3⟩:=fW hv;rintro e w2 ⟨hk,he,hr⟩;obtain rfl:e= .returned (.int .u64 n):=he;obtain rfl:r= .ok (eW 4 n,z):=by rw[<-HR.out,hv]
   go_wp2_with fail
   refine(EI _ n).mono ?_;rintro e w3 ⟨rfl,rfl⟩;go_wp2;go_ret;exact⟨hk,rfl,hr⟩
 ·have e0:eX s a 5=(match fA s a s.size with| .error x=> .error x| .ok x=> .ok (eW 5 x.1,x.2)):=rfl;rw[e0];obtain⟨r,HR⟩:∃r,Hid ((match fA s a s.size with| .error x=> .error x| .ok x=> .ok (eW 5 x.1,x.2):Fx (Int×Nat))=r):=⟨_,rfl⟩;rw[HR.out];go_enter Tryz.func271,Tryz.ntmps271
  go_wp2_with fail
  refine(gj w rb s a deep h hs).mono ?_
  cases hv:fA s a s.size with
  |error x=>
   rintro e w2 ⟨hk,he⟩;obtain rfl:e=da x.1 x.2:=he;obtain rfl:r= .error x:=by rw[<-HR.out,hv]
   unfold da;go_wp2;exact⟨rfl,hk,rfl⟩
  |ok x=>
   obtain⟨n,z⟩:=x;obtain⟨v0,v1,v2,v3⟩:=fW hv;rintro e w2 ⟨hk,he,hr⟩;obtain rfl:e= .returned (.int .u64 n):=he;obtain rfl:r= .ok (eW 5 n,z):=by rw[<-HR.out,hv]
   go_wp2_with fail
   refine(AF _ n v0 v1).mono ?_;rintro e w3 ⟨rfl,rfl⟩;go_wp2;go_ret;exact⟨hk,rfl,hr⟩
 ·have e0:eX s a 6=(match fA s a s.size with| .error x=> .error x| .ok x=> .ok (eW 6 x.1,x.2)):=rfl;rw[e0];obtain⟨r,HR⟩:∃r,Hid ((match fA s a s.size with| .error x=> .error x| .ok x=> .ok (eW 6 x.1,x.2):Fx (Int×Nat))=r):=⟨_,rfl⟩;rw[HR.out];go_enter Tryz.func271,Tryz.ntmps271
  go_wp2_with fail
  refine(gj w rb s a deep h hs).mono ?_
  cases hv:fA s a s.size with
  |error x=>
   rintro e w2 ⟨hk,he⟩;obtain rfl:e=da x.1 x.2:=he;obtain rfl:r= .error x:=by rw[<-HR.out,hv]
   unfold da;go_wp2;exact⟨rfl,hk,rfl⟩
  |ok x=>
   obtain⟨n,z⟩:=x;obtain⟨v0,v1,v2,v3⟩:=fW hv;rintro e w2 ⟨hk,he,hr⟩;obtain rfl:e= .returned (.int .u64 n):=he;obtain rfl:r= .ok (eW 6 n,z):=by rw[<-HR.out,hv]
   have HT:Hid (Calls Tryz.prog 351 #[.int .u64 n] w2 fun e w'=>e= .returned (.int .u64 (eW 6 n))/\w'=w2):=sk w2 n v0;generalize eW 6 n=b at*;go_wp2_with fail
   refine HT.out.mono ?_;rintro e w3 ⟨rfl,rfl⟩;go_wp2;go_ret;exact⟨hk,rfl,hr⟩
 ·have e0:eX s a 7=(match fh s a 4 with| .error x=> .error x| .ok x=> .ok (eW 7 x.1,x.2)):=rfl;rw[e0];obtain⟨r,HR⟩:∃r,Hid ((match fh s a 4 with| .error x=> .error x| .ok x=> .ok (eW 7 x.1,x.2):Fx (Int×Nat))=r):=⟨_,rfl⟩;rw[HR.out];go_enter Tryz.func271,Tryz.ntmps271
  go_wp2_with fail
  refine(qB w rb s a deep h ha hs).mono ?_
  cases hv:fh s a 4 with
  |error x=>
   rintro e w2 ⟨hk,he⟩;obtain rfl:e=da x.1 x.2:=he;obtain rfl:r= .error x:=by rw[<-HR.out,hv]
   unfold da;go_wp2;exact⟨rfl,hk,rfl⟩
  |ok x=>
   obtain⟨n,z⟩:=x;rintro e w2 ⟨hk,he,hr⟩;obtain rfl:e= .returned (.int .u64 n):=he;obtain rfl:r= .ok (eW 7 n,z):=by rw[<-HR.out,hv]
   go_wp2;go_ret;exact⟨hk,rfl,hr⟩
 ·have e0:eX s a 8=(match fh s a 8 with| .error x=> .error x| .ok x=> .ok (eW 8 x.1,x.2)):=rfl;rw[e0];obtain⟨r,HR⟩:∃r,Hid ((match fh s a 8 with| .error x=> .error x| .ok x=> .ok (eW 8 x.1,x.2):Fx (Int×Nat))=r):=⟨_,rfl⟩;rw[HR.out];go_enter Tryz.func271,Tryz.ntmps271
  go_wp2_with fail
  refine(oc w rb s a deep h ha hs).mono ?_
  cases hv:fh s a 8 with
  |error x=>
   rintro e w2 ⟨hk,he⟩;obtain rfl:e=da x.1 x.2:=he;obtain rfl:r= .error x:=by rw[<-HR.out,hv]
   unfold da;go_wp2;exact⟨rfl,hk,rfl⟩
  |ok x=>
   obtain⟨n,z⟩:=x;rintro e w2 ⟨hk,he,hr⟩;obtain rfl:e= .returned (.int .u64 n):=he;obtain rfl:r= .ok (eW 8 n,z):=by rw[<-HR.out,hv]
   go_wp2;go_ret;exact⟨hk,rfl,hr⟩
 ·have e0:eX s a 9=(match fh s a 4 with| .error x=> .error x| .ok x=> .ok (eW 9 x.1,x.2)):=rfl;rw[e0];obtain⟨r,HR⟩:∃r,Hid ((match fh s a 4 with| .error x=> .error x| .ok x=> .ok (eW 9 x.1,x.2):Fx (Int×Nat))=r):=⟨_,rfl⟩;rw[HR.out];go_enter Tryz.func271,Tryz.ntmps271
  go_wp2_with fail
  refine(qB w rb s a deep h ha hs).mono ?_
  cases hv:fh s a 4 with
  |error x=>
   rintro e w2 ⟨hk,he⟩;obtain rfl:e=da x.1 x.2:=he;obtain rfl:r= .error x:=by rw[<-HR.out,hv]
   unfold da;go_wp2;exact⟨rfl,hk,rfl⟩
  |ok x=>
   obtain⟨n,z⟩:=x;rintro e w2 ⟨hk,he,hr⟩;obtain rfl:e= .returned (.int .u64 n):=he;obtain rfl:r= .ok (eW 9 n,z):=by rw[<-HR.out,hv]
   go_wp2_with fail
   refine(jm _ n).mono ?_;rintro e w3 ⟨rfl,rfl⟩;go_wp2;go_ret;exact⟨hk,rfl,hr⟩
 ·have e0:eX s a 10=(match fh s a 8 with| .error x=> .error x| .ok x=> .ok (eW 10 x.1,x.2)):=rfl;rw[e0];obtain⟨r,HR⟩:∃r,Hid ((match fh s a 8 with| .error x=> .error x| .ok x=> .ok (eW 10 x.1,x.2):Fx (Int×Nat))=r):=⟨_,rfl⟩;rw[HR.out];go_enter Tryz.func271,Tryz.ntmps271
  go_wp2_with fail
  refine(oc w rb s a deep h ha hs).mono ?_
  cases hv:fh s a 8 with
  |error x=>
   rintro e w2 ⟨hk,he⟩;obtain rfl:e=da x.1 x.2:=he;obtain rfl:r= .error x:=by rw[<-HR.out,hv]
   unfold da;go_wp2;exact⟨rfl,hk,rfl⟩
  |ok x=>
   obtain⟨n,z⟩:=x;rintro e w2 ⟨hk,he,hr⟩;obtain rfl:e= .returned (.int .u64 n):=he;obtain rfl:r= .ok (eW 10 n,z):=by rw[<-HR.out,hv]
   go_wp2;go_ret;exact⟨hk,rfl,hr⟩
 ·have e0:eX s a 11=(match fh s a 4 with| .error x=> .error x| .ok x=> .ok (eW 11 x.1,x.2)):=rfl;rw[e0];obtain⟨r,HR⟩:∃r,Hid ((match fh s a 4 with| .error x=> .error x| .ok x=> .ok (eW 11 x.1,x.2):Fx (Int×Nat))=r):=⟨_,rfl⟩;rw[HR.out];go_enter Tryz.func271,Tryz.ntmps271
  go_wp2_with fail
  refine(qB w rb s a deep h ha hs).mono ?_
  cases hv:fh s a 4 with
  |error x=>
   rintro e w2 ⟨hk,he⟩;obtain rfl:e=da x.1 x.2:=he;obtain rfl:r= .error x:=by rw[<-HR.out,hv]
   unfold da;go_wp2;exact⟨rfl,hk,rfl⟩
  |ok x=>
   obtain⟨n,z⟩:=x;rintro e w2 ⟨hk,he,hr⟩;obtain rfl:e= .returned (.int .u64 n):=he;obtain rfl:r= .ok (eW 11 n,z):=by rw[<-HR.out,hv]
   go_wp2;go_ret;exact⟨hk,rfl,hr⟩
 ·have e0:eX s a 12=(match fh s a 8 with| .error x=> .error x| .ok x=> .ok (eW 12 x.1,x.2)):=rfl;rw[e0];obtain⟨r,HR⟩:∃r,Hid ((match fh s a 8 with| .error x=> .error x| .ok x=> .ok (eW 12 x.1,x.2):Fx (Int×Nat))=r):=⟨_,rfl⟩;rw[HR.out];go_enter Tryz.func271,Tryz.ntmps271
  go_wp2_with fail
  refine(oc w rb s a deep h ha hs).mono ?_
  cases hv:fh s a 8 with
  |error x=>
   rintro e w2 ⟨hk,he⟩;obtain rfl:e=da x.1 x.2:=he;obtain rfl:r= .error x:=by rw[<-HR.out,hv]
   unfold da;go_wp2;exact⟨rfl,hk,rfl⟩
  |ok x=>
   obtain⟨n,z⟩:=x;rintro e w2 ⟨hk,he,hr⟩;obtain rfl:e= .returned (.int .u64 n):=he;obtain rfl:r= .ok (eW 12 n,z):=by rw[<-HR.out,hv]
   go_wp2;go_ret;exact⟨hk,rfl,hr⟩
 ·have e0:eX s a 15=(match fA s a s.size with| .error x=> .error x| .ok x=> .ok (eW 15 x.1,x.2)):=rfl;rw[e0];obtain⟨r,HR⟩:∃r,Hid ((match fA s a s.size with| .error x=> .error x| .ok x=> .ok (eW 15 x.1,x.2):Fx (Int×Nat))=r):=⟨_,rfl⟩;rw[HR.out];go_enter Tryz.func271,Tryz.ntmps271
  go_wp2_with fail
  refine(gj w rb s a deep h hs).mono ?_
  cases hv:fA s a s.size with
  |error x=>
   rintro e w2 ⟨hk,he⟩;obtain rfl:e=da x.1 x.2:=he;obtain rfl:r= .error x:=by rw[<-HR.out,hv]
   unfold da;go_wp2;exact⟨rfl,hk,rfl⟩
  |ok x=>
   obtain⟨n,z⟩:=x;obtain⟨v0,v1,v2,v3⟩:=fW hv;rintro e w2 ⟨hk,he,hr⟩;obtain rfl:e= .returned (.int .u64 n):=he;obtain rfl:r= .ok (eW 15 n,z):=by rw[<-HR.out,hv]
   go_wp2_with fail
   refine(jm _ n).mono ?_;rintro e w3 ⟨rfl,rfl⟩;go_wp2;go_ret;exact⟨hk,rfl,hr⟩
def pU (mp:am->Option Nat)(gs:List GF)(num kind:Int):Option GF:=
 match fV gs num with
 |none=>none
 |some g=>if jd mp g kind then some g else none
theorem vA (w:an)(P:ap)(mp:am->Option Nat)(mb:Nat)(name:am)(gs:List GF)(num kind:Int)(h:gD w P mp mb name gs)(hs:gs.Pairwise (fun x y=>x.f.num<=y.f.num))(hl:gs.length<=2001):
  Calls Tryz.prog 132 #[ag mb,.agg #[aa num,aa kind]] w fun e w'=>EN w' P mp (pU mp gs num kind) e/\aj w w':=by
 obtain⟨B0,K0⟩:=di w #[aa num,aa kind] 237;have h0:=h.keep (w':=w.alloc (ak #[aa num,aa kind] 237)) (fun b _ hl=>Below.heap_alloc _ _ _ hl);obtain⟨r,HR⟩:∃r,Hid (pU mp gs num kind=r):=⟨_,rfl⟩;rw[HR.out];go_enter Tryz.func132,Tryz.ntmps132
 go_wp2_with fail
 generalize w.alloc (ak #[aa num,aa kind] 237)=w1 at*;refine(od w1 P mp mb name gs num h0 hs hl).mono ?_
 cases hf:fV gs num with
 |none=>
  rintro e w2 ⟨he,rfl⟩;obtain rfl:e= .returned (.pointer none):=he;obtain rfl:r=none:=by rw[<-HR.out,pU,hf]
  go_wp2;go_ret;exact⟨rfl,B0⟩
 |some g=>
  rintro e w2 ⟨⟨fb,rfl,hF⟩,rfl⟩;obtain⟨k1,k2⟩:=K0.rules;have HT:Hid (Calls Tryz.prog 183 #[ag fb,aa kind] w2 fun e w'=>e= .returned (.bool (jd mp g kind))/\aj w2 w'):=Jz w2 P mp g fb kind hF;have HF:Hid (∀w3:an,aj w2 w3->dP w3 P mp g fb):=fun w3 b3=>hF.keep (fun b _ hl=>b3.block b hl)
  go_wp2_with fail
  refine HT.out.mono ?_
  cases hq:jd mp g kind
  ·obtain rfl:r=none:=by rw[<-HR.out,pU,hf];simp[hq]
   rintro e w3 ⟨rfl,b3⟩;go_wp2;go_ret;exact⟨rfl,dH B0 b3⟩
  ·obtain rfl:r=some g:=by rw[<-HR.out,pU,hf];simp[hq]
   rintro e w3 ⟨rfl,b3⟩;go_wp2;go_ret;exact⟨⟨fb,rfl,HF.out w3 b3⟩,dH B0 b3⟩
end
abbrev LV:=Int×am
def rN (v:LV):Value:= .agg #[.int .u64 v.1,ae v.2,ah,ae ⟨#[]⟩]
section
attribute [local go_sem↓] Go.wp_at_zero Go.wp_at_succ
def eO (s:am)(a k:Nat):Fx (LV×Nat):=
 if k=13 then(match oO s a with| .error x=> .error x| .ok x=> .ok ((0,x.1),x.2))
 else if k=14 then(match lr s a with| .error x=> .error x| .ok x=> .ok ((0,x.1),x.2))
 else(match eX s a k with| .error x=> .error x| .ok x=> .ok ((x.1,⟨#[]⟩),x.2))
theorem nr (w:an)(rb:Nat)(s:am)(a:Nat)(deep:Int)(k:Nat)(pv:Value)(h:dn w rb s a deep)(ha:a<=s.size)(hs:s.size<=140737488355328)(hk:k<=15)(hu:UOK w)(hu1:rb≠2)(hu2:rb≠3):
  Calls Tryz.prog 194 #[.agg #[aa k,pv],ag rb] w (ni w rb s deep (eO s a k) rN):=by
 have K1:dl [rb] w ((w.alloc (ak #[aa k,pv] 216)).alloc (ak #[.int .u64 0,ae ⟨#[]⟩,ah,ae ⟨#[]⟩] 55)):=((dl.refl _ _).alloc _).alloc _;have h1:dn ((w.alloc (ak #[aa k,pv] 216)).alloc (ak #[.int .u64 0,ae ⟨#[]⟩,ah,ae ⟨#[]⟩] 55)) rb s a deep:=(de.alloc h _).alloc _;have T1:=(de.new w #[aa k,pv] 216).alloc (ak #[.int .u64 0,ae ⟨#[]⟩,ah,ae ⟨#[]⟩] 55);have V1:de ((w.alloc (ak #[aa k,pv] 216)).alloc (ak #[.int .u64 0,ae ⟨#[]⟩,ah,ae ⟨#[]⟩] 55)) (w.heap.size+1) #[.int .u64 0,ae ⟨#[]⟩,ah,ae ⟨#[]⟩] 55:=de.newAt (by simp) _ _;have N8:UOK ((w.alloc (ak #[aa k,pv] 216)).alloc (ak #[.int .u64 0,ae ⟨#[]⟩,ah,ae ⟨#[]⟩] 55)):=hu.keep (K1.block _ hu.lt1 (by simp;exact fun e=>hu1 e.symm)) (K1.block _ hu.lt2 (by simp;exact fun e=>hu2 e.symm));have hlt:rb<w.heap.size:=de.lt h
 have N3:Hid (∀(w1 w2:an) (x:LV) (z:Nat),dl [rb] w w1->de w1 (w.heap.size+1) #[.int .u64 0,ae ⟨#[]⟩,ah,ae ⟨#[]⟩] 55->dl [rb] w1 w2->dn w2 rb s z deep->
   de (((((w2.setCell (ai (w.heap.size+1) 0) (.int .u64 x.1)).setCell (ai (w.heap.size+1) 1) (ae x.2)).setCell (ai (w.heap.size+1) 2) (ah)).setCell (ai (w.heap.size+1) 3) (ae ⟨#[]⟩))) (w.heap.size+1) #[.int .u64 x.1,ae x.2,ah,ae ⟨#[]⟩] 55/\
   dl [rb] w (((((w2.setCell (ai (w.heap.size+1) 0) (.int .u64 x.1)).setCell (ai (w.heap.size+1) 1) (ae x.2)).setCell (ai (w.heap.size+1) 2) (ah)).setCell (ai (w.heap.size+1) 3) (ae ⟨#[]⟩)))/\
   dn (((((w2.setCell (ai (w.heap.size+1) 0) (.int .u64 x.1)).setCell (ai (w.heap.size+1) 1) (ae x.2)).setCell (ai (w.heap.size+1) 2) (ah)).setCell (ai (w.heap.size+1) 3) (ae ⟨#[]⟩))) rb s z deep):=fun w1 w2 x z k1 v1 k2 r2=>by
  have v2:de w2 (w.heap.size+1) #[.int .u64 0,ae ⟨#[]⟩,ah,ae ⟨#[]⟩] 55:=(k2.block _ v1.lt (by simp;omega)).trans v1;refine⟨(((v2.set 0 _).set 1 _).set 2 _).set 3 _,?_,(((de.other r2 0 _ (by omega)).other 1 _ (by omega)).other 2 _ (by omega)).other 3 _ (by omega)⟩;have k3:=k1.trans k2
  exact⟨k3.os,k3.tape,k3.output,by simpa using k3.size,fun i hi hn=>by
   rw[dd,if_neg (by omega),dd,if_neg (by omega),dd,if_neg (by omega),dd,if_neg (by omega)]
   exact k3.block i hi hn⟩
 obtain⟨r,HR⟩:∃r,Hid (eO s a k=r):=⟨_,rfl⟩;rw[HR.out]
 by_cases h13:k=13
 ·subst h13;have HV:Hid (eO s a 13=(match oO s a with| .error x=> .error x| .ok x=> .ok ((0,x.1),x.2))):=rfl;go_enter Tryz.func194,Tryz.ntmps194
  go_wp2_with fail
  generalize((w.alloc (ak #[aa ((13:Nat):Int),pv] 216)).alloc (ak #[.int .u64 0,ae ⟨#[]⟩,ah,ae ⟨#[]⟩] 55))=w1 at*;refine(EJ w1 rb s a deep h1 hs N8 hu1 hu2).mono ?_
  cases hv:oO s a with
  |error x=>
   rintro e w2 ⟨N2,he⟩;obtain rfl:e=da x.1 x.2:=he;obtain rfl:r= .error x:=by rw[<-HR.out,HV.out,hv]
   unfold da;go_wp2;exact⟨rfl,K1.trans N2,rfl⟩
  |ok x=>
   rintro e w2 ⟨N2,rfl,hr⟩;obtain rfl:r= .ok (((0,x.1):LV),x.2):=by rw[<-HR.out,HV.out,hv]
   obtain⟨q1,q2,q3⟩:=N3.out w1 w2 ((0,x.1):LV) x.2 K1 V1 N2 hr;have V2:de w2 (w.heap.size+1) #[.int .u64 0,ae ⟨#[]⟩,ah,ae ⟨#[]⟩] 55:=(N2.block _ V1.lt (by simp;omega)).trans V1;obtain⟨y7,y8⟩:=V2.rules;clear N3;go_wp2;exact bodyPost_ret (dw Tryz.results194 _ _ rfl q1 Tryz.underlying55 (by kernel_rfl)) rfl ⟨q2,rfl,q3⟩
 ·by_cases h14:k=14
  ·subst h14;have HV:Hid (eO s a 14=(match lr s a with| .error x=> .error x| .ok x=> .ok ((0,x.1),x.2))):=rfl;go_enter Tryz.func194,Tryz.ntmps194
   go_wp2_with fail
   generalize((w.alloc (ak #[aa ((14:Nat):Int),pv] 216)).alloc (ak #[.int .u64 0,ae ⟨#[]⟩,ah,ae ⟨#[]⟩] 55))=w1 at*;refine(BY w1 rb s a deep h1 hs).mono ?_
   cases hv:lr s a with
   |error x=>
    rintro e w2 ⟨N2,he⟩;obtain rfl:e=da x.1 x.2:=he;obtain rfl:r= .error x:=by rw[<-HR.out,HV.out,hv]
    unfold da;go_wp2;exact⟨rfl,K1.trans N2,rfl⟩
   |ok x=>
    rintro e w2 ⟨N2,rfl,hr⟩;obtain rfl:r= .ok (((0,x.1):LV),x.2):=by rw[<-HR.out,HV.out,hv]
    obtain⟨q1,q2,q3⟩:=N3.out w1 w2 ((0,x.1):LV) x.2 K1 V1 N2 hr;have V2:de w2 (w.heap.size+1) #[.int .u64 0,ae ⟨#[]⟩,ah,ae ⟨#[]⟩] 55:=(N2.block _ V1.lt (by simp;omega)).trans V1;obtain⟨y7,y8⟩:=V2.rules;clear N3;go_wp2;exact bodyPost_ret (dw Tryz.results194 _ _ rfl q1 Tryz.underlying55 (by kernel_rfl)) rfl ⟨q2,rfl,q3⟩
  ·have HV:Hid (eO s a k=(match eX s a k with| .error x=> .error x| .ok x=> .ok ((x.1,⟨#[]⟩),x.2))):=by
    show eO s a k=_;unfold eO;rw[if_neg h13,if_neg h14]
   have b13:((k:Int)==13)=false:=by simp;omega
   have b14:((k:Int)==14)=false:=by simp;omega
   have N7:gF k=true:=by unfold gF;simp;omega
   obtain⟨t1,t2⟩:=T1.rules;go_enter Tryz.func194,Tryz.ntmps194
   go_wp2_with fail
   generalize((w.alloc (ak #[aa k,pv] 216)).alloc (ak #[.int .u64 0,ae ⟨#[]⟩,ah,ae ⟨#[]⟩] 55))=w1 at*;refine(xh w1 rb s a deep k h1 ha hs N7).mono ?_
   cases hv:eX s a k with
   |error x=>
    rintro e w2 ⟨N2,he⟩;obtain rfl:e=da x.1 x.2:=he;obtain rfl:r= .error x:=by rw[<-HR.out,HV.out,hv]
    unfold da;go_wp2;exact⟨rfl,K1.trans N2,rfl⟩
   |ok x=>
    rintro e w2 ⟨N2,rfl,hr⟩;obtain rfl:r= .ok (((x.1,⟨#[]⟩):LV),x.2):=by rw[<-HR.out,HV.out,hv]
    obtain⟨q1,q2,q3⟩:=N3.out w1 w2 ((x.1,⟨#[]⟩):LV) x.2 K1 V1 N2 hr;have V2:de w2 (w.heap.size+1) #[.int .u64 0,ae ⟨#[]⟩,ah,ae ⟨#[]⟩] 55:=(N2.block _ V1.lt (by simp;omega)).trans V1;obtain⟨y7,y8⟩:=V2.rules;clear N3;go_wp2;exact bodyPost_ret (dw Tryz.results194 _ _ rfl q1 Tryz.underlying55 (by kernel_rfl)) rfl ⟨q2,rfl,q3⟩
end
end Go.Proofs.YtfebdimolnobaaaGreatDoor
