import Derived.Test.YtfebdimolnobaaaGreatDoorRrD
import Derived.Shelf.Spec.SlicesInsert
import Derived.Lib.AppendZerosOnto
import Derived.Lib.AppendStr
import Derived.Laws.AppendOwnNone
set_option maxRecDepth 100000
set_option maxHeartbeats 8000000
set_option linter.all false
namespace Go.Proofs.YtfebdimolnobaaaGreatDoor
open Go.RowKit Go.Proofs.Tryz
section
variable (s:am) {k:Nat} {S:d8} {b:am} {f:eP} {r:om}
def fh (s:am)(a:Nat)(num kind:Int)(z:Nat):Fx om:=
 if kind=0 then(match gy s z s.size with| .error y=> .error y| .ok y=> .ok ⟨num,0,a,z,y.2,y.1⟩)
 else if kind=1 then(match gD s z 8 with| .error y=> .error y| .ok y=> .ok ⟨num,1,a,z,y.2,y.1⟩)
 else if kind=5 then(match gD s z 4 with| .error y=> .error y| .ok y=> .ok ⟨num,5,a,z,y.2,y.1⟩)
 else(match eJ s z with| .error y=> .error y| .ok y=> .ok ⟨num,2,a,y.1,y.2,0⟩)
theorem pK (a:Nat):JT s a=match jo s a with| .error x=> .error x| .ok x=>fh s a x.1.1 x.1.2 x.2:=by
 unfold JT fh
 cases jo s a<;>rfl
theorem pL (a:Nat)(num kind:Int)(z:Nat):kS s z kind=match fh s a num kind z with| .error x=> .error x| .ok r=> .ok ((),r.e):=by
 unfold kS fh
 grind
def xf (s:am)(k:Nat)(r:om):Fx LV:=
 if k=13 then(if Lib.validD (s.extract r.fr r.e).data.toList then .ok (0,s.extract r.fr r.e)else .error (10,r.fr))
 else if k=14 then .ok (0,s.extract r.fr r.e)else .ok (fN k r.n,⟨#[]⟩)
def Bl (s:am)(k:Nat):Fx om->Fx (LV×Nat)
 | .error x=> .error x
 | .ok r=>match xf s k r with| .error x=> .error x| .ok v=> .ok (v,r.e)
theorem CX (a:Nat)(num:Int)(z:Nat):fh s a num ((0:Nat):Int) z=match gy s z s.size with| .error y=> .error y| .ok y=> .ok ⟨num,0,a,z,y.2,y.1⟩:=rfl
theorem CY (a:Nat)(num:Int)(z:Nat):fh s a num ((1:Nat):Int) z=match gD s z 8 with| .error y=> .error y| .ok y=> .ok ⟨num,1,a,z,y.2,y.1⟩:=rfl
theorem CZ (a:Nat)(num:Int)(z:Nat):fh s a num ((5:Nat):Int) z=match gD s z 4 with| .error y=> .error y| .ok y=> .ok ⟨num,5,a,z,y.2,y.1⟩:=rfl
theorem sw (a:Nat)(num:Int)(z:Nat):fh s a num ((2:Nat):Int) z=match eJ s z with| .error y=> .error y| .ok y=> .ok ⟨num,2,a,y.1,y.2,0⟩:=rfl
theorem Fh (hk:k<=15)(QP:k≠13)(QQ:k≠14):ei k=0\/ei k=1\/ei k=5:=by
 unfold ei
 grind
theorem vu (a:Nat)(num:Int)(z k:Nat)(hk:k<=15):fY s z k=Bl s k (fh s a num (ei k) z):=by
 unfold fY
 by_cases QP:k=13
 ·subst QP;rw[dB rfl,show ei 13=2 from rfl,sw];unfold qq
  cases eJ s z with
  |error x=>rfl
  |ok x=>
   simp only[Bl,xf,if_true]
   grind
 ·rw[dA QP]
  by_cases QQ:k=14
  ·subst QQ;rw[dB rfl,show ei 14=2 from rfl,sw];unfold mU
   cases eJ s z with
   |error x=>rfl
   |ok x=>rfl
  ·rw[dA QQ];unfold gp;have hv:∀r:om,xf s k r= .ok (fN k r.n,⟨#[]⟩):=λr=>by unfold xf;rw[dA QP,dA QQ]
   rcases Fh hk QP QQ with e|e|e
   ·rw[dB e,e,CX]
    cases gy s z s.size with
    |error x=>rfl
    |ok x=>simp only[Bl,hv]
   ·rw[dA QD,dA QD,e,CY]
    cases gD s z 8 with
    |error x=>rfl
    |ok x=>simp only[Bl,hv]
   ·rw[dA QD,dB e,e,CZ]
    cases gD s z 4 with
    |error x=>rfl
    |ok x=>simp only[Bl,hv]
theorem C7:∀(l:List (List UInt8)) (s:List UInt8) (k n:Nat),AU l s k=some n->∃i,n=k+i/\l[i]?=some s
 | [],_,_,_,h=>by simp[AU]at h
 |x::l,s,k,n,h=>by
  rw[AU]at h
  split at h
  ·simp_all
  ·obtain⟨i,h1,h2⟩:=C7 l s (k+1) n h;exact⟨i+1,QD,by simpa using h2⟩
theorem kW {t:am}:S.base t=13<->gE t j9=true:=by
 constructor
 ·intro h;unfold d8.base at h
  split at h
  ·rename_i k hk
   subst h;obtain⟨i,h1,h2⟩:=C7 _ _ _ _ hk;obtain rfl:i=13:=QD
   have:t.toList=j9.toList:=by
    have e:mz[13]?=some j9.toList:=QH
    grind
   unfold gE
   (simp;omega)
  grind
 ·intro h;have e:t.toList=j9.toList:=by simpa [gE]using h
  unfold d8.base;rw[e];have:AU mz j9.toList 0=some 13:=QH;rw[this]
theorem zD (hk:k<=15)(h:ei k=2):k=13\/k=14:=by
 unfold ei at h
 grind
theorem Bn {e:Nat}(hb:S.base f.ty=k)(hk:k<=15)(hr:r.kind=ei k)(he:r.e<=e)(hs:e<=b.size):
  mR S b f r=match xf (b.extract 0 e) k r with| .error x=> .error x| .ok v=> .ok (v.1,v.2,PM.none):=by
 unfold mR xf;rw[jw hs he,hb]
 by_cases h2:r.kind=2
 ·rw[dB h2]
  rcases zD hk (hr▸h2)with rfl|rfl
  ·have hq:=kW.1 hb;rw[hq,sl]
   grind
  ·have hq:gE f.ty j9=false:=by
    rw[cg];intro q;rw[kW.2 q]at hb;omega
   simp_all
 ·rw[dA h2];have QP:k≠13:=λq=>h2 (by rw[hr,q];rfl)
  have QQ:k≠14:=λq=>h2 (by rw[hr,q];rfl)
  rw[dA QP,dA QQ];rfl
theorem xS {e F a:Nat}{l:List PV}(he:e<=b.size)(ha:a<e):fy b k e (F+1) l a=match gp (b.extract 0 e) a k with| .error x=> .error x| .ok x=>fy b k e F (l++ [(x.1,eS,PM.none)]) x.2:=by
 rw[fy,dB ha];unfold gp
 by_cases h0:ei k=0
 ·rw[dB h0,dB h0,uj he]
  grind
 ·rw[dA h0,dA h0]
  by_cases h5:ei k=5
  ·simp only[h5,if_true];rw[rk he]
   split<;>rfl
  ·simp only[h5,if_false];rw[rk he]
   split<;>rfl
def xg (S:d8)(b:am)(F:Nat)(d:MT)(f:eP)(m:PM)(r:om)(deep:Nat):Fx PM:=
 if r.kind=fA S f then oS S b F d f m r deep else match lA S b f (m.get f.num) r.fr r.e with| .error x=> .error x| .ok l=> .ok (m.put f.num l)
theorem Fi {F a e deep:Nat}{d:MT}{m:PM}(h:a<e)(hr:fw b a e= .ok r)(hf:dP d.fs r.num=some f)(hk:r.kind=fA S f\/(r.kind=2/\f.isRep=true)):
  ew S b (F+1) d m a e deep=GV S b F d r.e e deep (xg S b F d f m r deep):=by
 unfold xg
 by_cases q:r.kind=fA S f
 ·rw[dB q,xO h hr hf q]
 ·rw[dA q];obtain⟨h2,hp⟩:=hk.resolve_left q;exact vt h hr hf q h2 hp
end
section
attribute [local go_sem↓] Go.wp_at_zero Go.wp_at_succ
abbrev fZ:=Int×Value×Value×Value
def dY (x:fZ):aq:= [aa x.1,x.2.1,x.2.2.1,x.2.2.2]
def fS (x:fZ):(dY x).length=4:=rfl
def C8 (x:fZ)(n:Int)(w:an):
  Calls prog 403 #[.agg #[aa x.1,x.2.1,x.2.2.1,x.2.2.2],aa n] w λe w'=>e= .returned (aa (jV x.1 n))/\aj w w':=by
 have hC:=pF x.1 n;have B0:∀o,aj w (w.alloc o):=λo=>(Below.refl w.heap.size w).alloc (ay _) o
 generalize jV x.1 n=c at hC⊢;go_enter func403,ntmps403;go_wp2_with fail;refine(hC _).mono ?_;rintro e w' ⟨rfl,rfl⟩;go_wp2;go_ret;exact⟨rfl,B0 _⟩
def GX (w:an)(v:Value)(l:List fZ)(t:Int)(lo:Nat)(hrow:w.ownsRow lo 249 4 v l.length (l.flatMap dY))(h1:∀x∈l,x.2.1.oneCell'=true/\x.2.2.1.oneCell'=true/\x.2.2.2.oneCell'=true)(hs:l.Pairwise (λa b=>a.1<=b.1))(hl:l.length<=1073741824):
  Calls prog 402 #[v,aa t,.func (.func 403) #[] #[]] w λe w'=>um (l.map (·.1)) t e/\aj w w':=by
 obtain⟨a,c,rfl⟩:=iW hrow
 have HS:Hid (∀(i j:Nat) (x y:fZ),l[i]?=some x->l[j]?=some y->i<=j->x.1<=y.1):=λi j x y hx hy QV=>by
  by_cases e:i=j
  ·subst e;rw[hx]at hy;obtain rfl:=Option.some.inj hy;exact dj _
  ·rw[bH]at hs;have hi:=gl hx;have hj:=gl hy;have:=hs i j hi hj QD;rw[aK hi]at hx;rw[aK hj]at hy;rw[<-Option.some.inj hx,<-Option.some.inj hy];exact this
 have HG:Hid (∀(i:Nat) (x:fZ),l[i]?=some x->∃g,a=some (ai g 0)/\g<w.heap.size/\∀w':an,w'.heap[g]?=w.heap[g]?->w'.cell? (ai g (i*4))=some (aa x.1)/\w'.cell? (ai g (i*4+1))=some x.2.1/\w'.cell? (ai g (i*4+2))=some x.2.2.1/\w'.cell? (ai g (i*4+3))=some x.2.2.2):=λi x hx=>by
  have hi:=gl hx;obtain⟨g,rfl,_,QQ,QP⟩:=eh hrow QD;have hf:=λj hj=>fL dY 4 fS l i x hx j hj
  refine⟨g,rfl,QQ,λw' hw=>⟨?_,?_,?_,?_⟩⟩
  ·exact QP w' hw _ _ ((hf 0 QD).trans rfl)
  ·exact QP w' hw _ _ ((hf 1 QD).trans rfl)
  ·exact QP w' hw _ _ ((hf 2 QD).trans rfl)
  ·exact QP w' hw _ _ ((hf 3 QD).trans rfl)
 go_enter func402,ntmps402;go_wp2;go_loopw [9,10] (λiv jv wr=>∃(i j:Nat),i<=j/\j<=l.length/\iv=aa i/\jv=aa j/\Hid (∀(k:Nat) (x:fZ),l[k]?=some x->k<i->x.1<t)/\Hid (∀(k:Nat) (x:fZ),l[k]?=some x->j<=k->t<=x.1)/\aj w wr) (λiv jv _=>((intOf jv)-(intOf iv)).toNat)
 case atStart=>exact⟨0,l.length,aM _,ay _,rfl,rfl,(λk x _ h=>QD),(λk x hx h=>by rw[aU QD]at hx;cases hx),Below.refl _ _⟩
 case round=>
  obtain⟨i,j,QV,QR,rfl,rfl,H1,H2,CW⟩:=hrel
  by_cases hlt:i<j
  ·obtain⟨h,hh⟩:∃h,(i+j)/2=h:=⟨_,rfl⟩;have QT:h<l.length:=QD;have QU:i<=h:=QD;have hhj:h<j:=QD;obtain⟨x,hx⟩:=gx QT;obtain⟨g,rfl,QQ,QS⟩:=HG.out h x hx;obtain⟨c0,c1,c2,c3⟩:=QS wr (CW.block g QQ);obtain⟨o1,o2,o3⟩:=h1 x (aI hx);have hw1:IntKind.u64.wrap ((i:Int)+(j:Int))=(i:Int)+(j:Int):=gh QD QD;have hdiv:((i:Int)+(j:Int))/2=(h:Int):=QD;have hw2:IntKind.i64.wrap (h:Int)=(h:Int):=by simp[IntKind.wrap,IntKind.bits,IntKind.signed];omega
   by_cases hxt:x.1<t
   ·have hd:decide (jV x.1 t<0)=true:=by simp[mI,hxt]
    have HX:Hid (l[h]?=some x):=hx;go_wp2_with fail;refine(C8 x t _).mono ?_;rintro e w2 ⟨rfl,b2⟩;go_wp2;go_roundw
    case rel=>exact⟨h+1,j,QD,QR,rfl,rfl,(λk y hy hk=>Int.lt_of_le_of_lt (HS.out k h y x hy HX.out QD) hxt),H2,er CW b2⟩
    case measure=>simp[intOf];omega
   ·have hd:=decide_eq_false (λq=>hxt ((mI _ _).1 q));have HX:Hid (l[h]?=some x):=hx;go_wp2_with fail;refine(C8 x t _).mono ?_;rintro e w2 ⟨rfl,b2⟩;go_wp2;go_roundw
    case rel=>exact⟨i,h,QU,QD,rfl,rfl,H1,(λk y hy hk=>Int.le_trans QD (HS.out h k x y HX.out hy hk)),er CW b2⟩
    case measure=>simp[intOf];omega
  ·obtain rfl:i=j:=QD;have hli:decide ((i:Int)<(i:Int))=false:=QE
   by_cases hil:i<l.length
   ·obtain⟨x,hx⟩:=gx hil;obtain⟨g,rfl,QQ,QS⟩:=HG.out i x hx;obtain⟨c0,c1,c2,c3⟩:=QS wr (CW.block g QQ);obtain⟨o1,o2,o3⟩:=h1 x (aI hx);have HX:=hx;have hti:=H2.out i x hx (ay _)
    have hd:(jV x.1 t==0)=decide (x.1=t):=by
     rw[cn];unfold jV
     by_cases q1:x.1<t
     ·simp[q1];omega
     ·by_cases q2:t<x.1
      ·simp[q1,q2];omega
      ·simp[q1,q2];omega
    have hN:decide ((l.map (·.1))[i]?=some t)=decide (x.1=t):=by rw[aO,hx];simp
    have HE:Hid (decide ((l.map (·.1))[i]?=some t)=decide (x.1=t)):=hN;go_wp2_with fail;refine(C8 x t _).mono ?_;rintro e w2 ⟨rfl,b2⟩;go_wp2;go_ret2;refine⟨⟨i,by rw[HE.out];rfl,by simpa using QR,?_,?_⟩,er CW b2⟩
    ·intro k y hy hk;rw[aO]at hy;obtain⟨z,hz,rfl⟩:=aX.1 hy;exact H1.out k z hz hk
    ·intro k y hy hk;rw[aO]at hy;obtain⟨z,hz,rfl⟩:=aX.1 hy;exact H2.out k z hz hk
   ·have hli2:decide ((i:Int)<(l.length:Int))=false:=QF
    have HE:Hid (decide ((l.map (·.1))[i]?=some t)=false):=by
     show decide ((l.map (·.1))[i]?=some t)=false;rw[aU (by rw[bm];omega)];simp
    go_wp2;go_ret2;refine⟨⟨i,by rw[HE.out];rfl,by simpa using QR,?_,?_⟩,CW⟩
    ·intro k y hy hk;rw[aO]at hy;obtain⟨z,hz,rfl⟩:=aX.1 hy;exact H1.out k z hz hk
    ·intro k y hy hk;rw[aO]at hy;obtain⟨z,hz,rfl⟩:=aX.1 hy;exact H2.out k z hz hk
end
def sx:(prog.info? 249).map (λi=>(i.zero,i.size,i.bytes))=some (some (.agg #[aa 0,ah,ah,.map none]),4,64):=QI
def kJ {P:Program}(w:an)(dT sT ty elem:TypeId)(k g o dLen dCap:Nat)(a:Addr)(sLen sCap:Nat)(QQ:Array Value)(t:TypeId)(cs:aq)
  (hu:P.underlying dT=some (.slice elem)) (hs:(P.info? elem).map (·.size)=some k)
  (hg:w.heap[g]?=some (.cells QQ t (0,0))) (hn:cs.length=Nat.min sLen dLen*k)
  (QY:∀j v,cs[j]?=some v->w.cell? (a.add j)=some v) (hfit:o+cs.length<=QQ.size) (h1:∀v∈cs,v.oneCell'=true):
  (Builtin.copy_ #[dT,sT] ty #[.slice (some (ai g o)) dLen dCap,.slice (some a) sLen sCap]).run P w=
   .ok (goInt (Nat.min sLen dLen)) (w.setRow g (QQ.toList.take o++cs++QQ.toList.drop (o+cs.length)).toArray):=by
 have hl:=run_loadCells_list (P:=P) w a cs QY;have Rm:=run_storeCells_at P g o t cs 0 QQ w hg (by simpa using hfit) h1
 cases hq:P.info? elem with
 |none=>simp[hq]at hs
 |some i=>
  have hi:i.size=k:=by simpa [hq]using hs
  simp[Builtin.copy_,run_underlying hu,Builtin.lenOf,Builtin.firstCells,sizeOf,typeInfo,hq,hi,<-hn,hl,Rm]
def zE (w:an)(v:Value)(n:Nat)(cs:aq)(e:Ending)(w':an):Prop:=
 ∃g cap,e= .returned (.slice (some (ai g 0)) n cap)/\w'.ownsRow 0 249 4 (.slice (some (ai g 0)) n cap) n cs/\w.grownBy w' v.ownBlock/\(v.ownBlock=some g\/w.heap.size<=g)
def zF (w:an)(v:Value)(cs xs:aq)(n vb:Nat)(hrow:w.ownsRow 0 249 4 v n cs)(hn:n<=1073741824)(hv:dK w vb xs.toArray 249)(hxl:xs.length=4)(h1v:∀u∈xs,u.oneCell'=true):
  Calls prog 346 #[v,aa n,.slice (some (ai vb 0)) 1 1] w (zE w v (n+1) (cs++xs)):=by
 obtain⟨i0,Q0,Q7,Q3,Ri⟩:=info_parts sx;have HN:∀j u,xs[j]?=some u->w.cell? (((ai vb 0):Addr).add j)=some u:=λj u hu=>br hv j u (by simpa using hu)
 obtain⟨a,c,rfl⟩:=iW hrow;go_enter func346,ntmps346;go_wp2_with (at_builtin;refine wpList_append_lies _ rfl _ _ 181 rfl 0 249 i0 _ 4 64 underlying181 Q0 Q7 Q3 Ri rfl QD (.slice a n c) n cs rfl hrow (ai vb 0) 1 1 xs rfl hxl HN h1v QD QK QD QD _ rfl ?_;intro g cap w1 Rb Q5 RL Q6)
 all_goals
  go_ret;exact⟨g,cap,rfl,Rb,by cases a<;>exact Q5,by cases a<;>exact RL.imp id (λe=>QD)⟩
def jp {w w':an}{row:Option Nat}{g:Nat}{cs:Array Value}(h:w.grownBy w' row)(hg:row=some g\/w.heap.size<=g):w.grownBy (w'.setRow g cs) row:=
 ⟨h.os,h.tape,h.output,by simpa using h.size,λk hk Rj=>by
  rw[setRow_other _ _ _ _ (λe=>by subst e;rcases hg with q|q;exact Rj q.symm;omega)]
  exact h.block k hk Rj⟩
def GY (QQ cs xs D:aq)(n i:Nat)(hcs:QQ.take (n*4)=cs)(hcl:cs.length=n*4)(hxl:xs.length=4)(hi:i<n):
  ((QQ.take ((i+1)*4)++cs.drop (i*4)++D).take (i*4)++xs++(QQ.take ((i+1)*4)++cs.drop (i*4)++D).drop (i*4+xs.length)).take ((n+1)*4)=cs.take (i*4)++xs++cs.drop (i*4):=by
 have hcur:n*4<=QQ.length:=by rw[<-hcs,bn]at hcl;omega
 have hA:(QQ.take ((i+1)*4)).length=i*4+4:=by rw[bn];omega
 have e1:(QQ.take ((i+1)*4)++cs.drop (i*4)++D).take (i*4)=cs.take (i*4):=by
  rw[aW,cX QD,List.take_take,Nat.min_eq_left QD,<-hcs,List.take_take,Nat.min_eq_left QD]
 have e2:(QQ.take ((i+1)*4)++cs.drop (i*4)++D).drop (i*4+xs.length)=cs.drop (i*4)++D:=by
  rw[aW,hxl];exact List.drop_left' hA
 rw[e1,e2,<-aW];exact List.take_left' (by simp[hxl,hcl];omega)
def xh (w:an)(cs xs:aq)(g n c i vb:Nat)(QQ:Array Value)(hb:w.heap[g]?=some (.cells QQ 249 (0,0)))(hsz:QQ.size=c*4)(hcs:QQ.toList.take (n*4)=cs)(hcl:cs.length=n*4)(h1c:∀u∈cs,u.oneCell'=true)(hi:i<n)(hn:n<=1073741824)(hroom:n+1<=c)(hc:c<=maxLen)(hv:dK w vb xs.toArray 249)(hxl:xs.length=4)(h1v:∀u∈xs,u.oneCell'=true)(hvb:vb≠g):
  Calls prog 346 #[.slice (some (ai g 0)) n c,aa i,.slice (some (ai vb 0)) 1 1] w (zE w (.slice (some (ai g 0)) n c) (n+1) (cs.take (i*4)++xs++cs.drop (i*4))):=by
 have hu:prog.underlying 181=some (.slice 249):=underlying181
 have Q1:(prog.info? 249).map (·.size)=some 4:=by
  obtain⟨i0,Q0,Q7,Q3,Ri⟩:=info_parts sx;rw[Q0];simp[Q3]
 have HN:∀(W:an),W.heap[vb]?=w.heap[vb]?->∀j u,xs[j]?=some u->W.cell? (((ai vb 0):Addr).add j)=some u:=λW hW j u hu=>br (hW.trans hv) j u (by simpa using hu)
 have Rn:∀lb cb,(callFunc 404 #[.slice (some (ai vb 0)) 1 1,.slice (some (ai g ((i+1)*4))) lb cb]).run prog w= .ok (.value (.bool false)) w:=λlb cb=>by
  rw[run_callFunc_extern func404 QI QI QI (e:=Extern.SlicesOverlaps.overlaps #[181,181] #[4]) QI,
   Lib.run_overlaps_apart w 181 4 249 hu 4 sizeOf249 (ai vb 0) (ai g ((i+1)*4)) 1 1 lb cb hvb 249 249 4 QQ.size (by unfold World.shape?;rw[hv];simp[hxl]) (by unfold World.shape?;rw[hb]) QD (hv.rules.2 _) (hv.rules.2 _)]
  rfl
 obtain⟨QP,QU⟩:∃r:Array Value,Hid (r=(QQ.toList.take ((i+1)*4)++cs.drop (i*4)++QQ.toList.drop ((i+1)*4+(cs.drop (i*4)).length)).toArray):=⟨_,rfl⟩;have QW:(cs.drop (i*4)).length=(n-i)*4:=by rw[List.length_drop,hcl];omega
 have QX:QP.size=QQ.size:=by rw[QU.out];simp[QW];omega
 have QY:∀(W:an),W.heap[g]?=w.heap[g]?->∀j v,(cs.drop (i*4))[j]?=some v->W.cell? (((ai g (i*4)):Addr).add j)=some v:=λW hW j v hj=>by
  rw[Addr.add_lit,bj (w:=w) (by exact hW),cell_of_row w g _ QQ _ _ hb,<-bt];rw[List.getElem?_drop]at hj
  have Q6:i*4+j<n*4:=by
   rw[<-hcl]
   by_cases q:i*4+j<cs.length
   ·exact q
   ·rw[aU QD]at hj;cases hj
  rw[<-hcs,ci Q6]at hj;exact hj
 have Q2:∀(W:an) ty dc sc,W.heap[g]?=w.heap[g]?->(Builtin.copy_ #[181,181] ty #[.slice (some (ai g ((i+1)*4))) (n+1-(i+1)) dc,.slice (some (ai g (i*4))) (n+1-i) sc]).run prog W= .ok (goInt (Nat.min (n+1-i) (n+1-(i+1)))) (W.setRow g QP):=λW ty dc sc hW=>by
  rw[QU.out];exact kJ W _ _ ty 249 4 g ((i+1)*4) (n+1-(i+1)) dc (ai g (i*4)) (n+1-i) sc QQ 249 (cs.drop (i*4)) hu Q1 (hW.trans hb) (by rw[QW];simp only[Nat.min_def];split<;>omega) (QY W hW) (by rw[QW];omega) (λv hv=>h1c v (List.mem_of_mem_drop hv))
 obtain⟨QS,QV⟩:∃r:Array Value,Hid (r=(QP.toList.take (i*4)++xs++QP.toList.drop (i*4+xs.length)).toArray):=⟨_,rfl⟩
 have Q8:∀(W:an) ty dc,W.heap[g]?=some (.cells QP 249 (0,0))->W.heap[vb]?=w.heap[vb]?->(Builtin.copy_ #[181,181] ty #[.slice (some (ai g (i*4))) (n+1-i) dc,.slice (some (ai vb 0)) 1 1]).run prog W= .ok (goInt (Nat.min 1 (n+1-i))) (W.setRow g QS):=λW ty dc hW hV=>by
  rw[QV.out];exact kJ W _ _ ty 249 4 g (i*4) (n+1-i) dc (ai vb 0) 1 1 QP 249 xs hu Q1 hW (by rw[hxl];simp only[Nat.min_def];split<;>omega) (HN W hV) QD h1v
 have Q3:¬((i:Int)=(n:Int)):=QD;have Ro:IntKind.i64.wrap ((i:Int)+1)=(i:Int)+1:=by rw[IntKind.wrap_i64];omega
 have Rp:IntKind.i64.wrap ((n:Int)+1)=(n:Int)+1:=by rw[IntKind.wrap_i64];omega
 go_enter func346,ntmps346;go_wp2_with (simp only[Rn])
 have mixed:prog.follows Departure.mixedOrders=true:=QI;have Rq:(0:Int)<=(i:Int)+1:=QD;have Rr:i<=n:=QD;have Rs:((i:Int)+1).toNat=i+1:=QD;have hb2:¬(c=i+1):=QD;have Rt:(i:Int)<=(n:Int)+1:=QD;have hb4:¬(c=i):=QD;have Rf:(w.drew).heap[g]?=w.heap[g]?:=rfl;have Ru:n+1-(i+1)=n-i:=QD;rw[Ru]at Q2;have Rg:(w.drew.setRow g QP).heap[g]?=some (.cells QP 249 (0,0)):=setRow_heap _ _ _ _ _ _ (Rf.trans hb);have Rw:(w.drew.setRow g QP).heap[vb]?=w.heap[vb]?:=setRow_other _ _ _ _ hvb;go_region_law_o (refine step_copy_runI rfl _ _ 181 181 rfl (.slice (some (ai g ((i+1)*4))) (n-i) (c-(i+1))) (.slice (some (ai g (i*4))) (n+1-i) (c-i)) (by simp[Act.eval,Act.put]) (by simp[Act.eval,Act.put]) (Q2 _ _ _ _ Rf) ?_)
 go_wp2_with (at_builtin;refine wpList_copy_runI _ rfl _ _ 181 181 rfl _ _ rfl rfl (Q8 _ _ _ Rg Rw) ?_)
 go_ret;have G1:w.grownBy ((w.drew.setRow g QP).setRow g QS) (some g):=jp (jp ⟨rfl,rfl,rfl,ay _,λ_ _ _=>rfl⟩ (.inl rfl)) (.inl rfl);have hh:=setRow_heap _ g _ QS _ _ Rg;refine⟨g,c,rfl,⟨?_,.inr ⟨g,c,QS,rfl,aM _,hh,QD,hc,?_,?_⟩⟩,G1,.inl rfl⟩
 ·simp[hxl,hcl];omega
 ·rw[QV.out];simp;omega
 ·rw[QV.out,QU.out];exact GY QQ.toList cs xs _ n i hcs hcl hxl hi
def GZ (cs xs Z Y:aq)(n i:Nat)(hcl:cs.length=n*4)(hxl:xs.length=4)(hi:i<n):
  (((cs.take (i*4)++Z++Y).take (i*4)++xs++(cs.take (i*4)++Z++Y).drop (i*4+xs.length)).take ((i+1)*4)++cs.drop (i*4)++
   ((cs.take (i*4)++Z++Y).take (i*4)++xs++(cs.take (i*4)++Z++Y).drop (i*4+xs.length)).drop ((i+1)*4+(cs.drop (i*4)).length)).take ((n+1)*4)=cs.take (i*4)++xs++cs.drop (i*4):=by
 have hA:(cs.take (i*4)).length=i*4:=by rw[bn];omega
 have e1:(cs.take (i*4)++Z++Y).take (i*4)=cs.take (i*4):=by
  rw[aW];exact List.take_left' hA
 rw[e1];rw[List.take_left' (l₁:=cs.take (i*4)++xs) (i:=(i+1)*4) (by simp[hxl,hA];omega)];exact List.take_left' (by simp[hxl,hcl];omega)
def xi (w:an)(cs xs:aq)(g n c i vb:Nat)(QQ:Array Value)(hb:w.heap[g]?=some (.cells QQ 249 (0,0)))(hcs:QQ.toList.take (n*4)=cs)(hcl:cs.length=n*4)(h1c:∀u∈cs,u.oneCell'=true)(hi:i<n)(hn:n<=1073741824)(hroom:c<n+1)(hc:n<=c)(hv:dK w vb xs.toArray 249)(hxl:xs.length=4)(h1v:∀u∈xs,u.oneCell'=true):
  Calls prog 346 #[.slice (some (ai g 0)) n c,aa i,.slice (some (ai vb 0)) 1 1] w (zE w (.slice (some (ai g 0)) n c) (n+1) (cs.take (i*4)++xs++cs.drop (i*4))):=by
 obtain rfl:c=n:=QD;have hu:prog.underlying 181=some (.slice 249):=underlying181;obtain⟨i0,Q0,Q7,Rk,Rl⟩:=info_parts sx;have Q1:(prog.info? 249).map (·.size)=some 4:=by rw[Q0];simp[Rk]
 have Rx:g<w.heap.size:=dK.lt hb;have Ry:vb<w.heap.size:=hv.lt;have QW:(cs.drop (i*4)).length=(c-i)*4:=by rw[List.length_drop,hcl];omega
 have QT:∀(W:an),W.heap[g]?=w.heap[g]?->∀j v,cs[j]?=some v->W.cell? (ai g j)=some v:=λW hW j v hj=>by
  rw[bj (w:=w) (by exact hW),cell_of_row w g _ QQ _ _ hb,<-bt]
  have Q6:j<c*4:=by
   rw[<-hcl]
   by_cases q:j<cs.length
   ·exact q
   ·rw[aU QD]at hj;cases hj
  rw[<-hcs,ci Q6]at hj;exact hj
 have hold:(Builtin.firstCells i0.size i (.slice (some (ai g 0)) i c)).run prog w.drew= .ok (cs.take (i*4)).toArray w.drew:=by
  rw[Rk]
  exact run_firstCells_some w.drew 4 i (ai g 0) i c (cs.take (i*4)) (by rw[bn];omega) (λj v hj=>by
   rw[Addr.add_lit,Nat.zero_add];rw[List.getElem?_take]at hj
   split at hj
   ·exact QT _ rfl j v hj
   ·cases hj)
 obtain⟨G,HG⟩:∃G,Hid (G=grownCap w (c+1) c 249):=⟨_,rfl⟩;obtain⟨Z,HZ⟩:∃Z:Array Value,Hid (Z=Builtin.zeroCells (Value.agg #[aa 0,ah,ah,.map none]).cells (c+1-i)):=⟨_,rfl⟩;obtain⟨Y,HY⟩:∃Y:Array Value,Hid (Y=Builtin.zeroCells (Value.agg #[aa 0,ah,ah,.map none]).cells (G-(c+1))):=⟨_,rfl⟩;obtain⟨QR,QZ⟩:∃R:Array Value,Hid (R=(cs.take (i*4)).toArray++Z++Y):=⟨_,rfl⟩;have Rz:Z.size=(c+1-i)*4:=by rw[HZ.out];simp[Builtin.zeroCells,Value.cells]
 have RA:c+1<=G:=by rw[HG.out];exact grownCap_ge w _ _ _
 have RB:G<=maxLen:=by rw[HG.out];exact grownCap_le_maxLen w _ _ _ QK
 have RC:Y.size=(G-(c+1))*4:=by rw[HY.out];simp[Builtin.zeroCells,Value.cells]
 have Q9:QR.size=G*4:=by rw[QZ.out];simp[Rz,RC,hcl];omega
 have Rh:∀ty,(Builtin.append_ #[181,3] ty #[.slice (some (ai g 0)) i c,aa ((c:Int)+1-(i:Int))]).run prog w=
   .ok (.slice (some (ai w.heap.size 0)) (c+1) G) (w.drew.alloc (.cells QR 249)):=λty=>by
  have h:=Lib.run_append_grow_zeros w 181 3 ty 249 i0 _ .i64 .i64 hu underlying3 Q0 Q7 (some (ai g 0)) i c (cs.take (i*4)) hold (c+1-i) QD QD QD QD (by rw[Rl];omega) (by rw[Rl,show i+(c+1-i)=c+1 by omega];exact growslice_fits hroom QD);rw[show i+(c+1-i)=c+1 by omega,<-HG.out,<-HY.out,<-HZ.out,<-QZ.out]at h;rw[show(c:Int)+1-(i:Int)=((c+1-i:Nat):Int)by omega];exact h
 obtain⟨QP,Rc⟩:∃r:Array Value,Hid (r=(QR.toList.take (i*4)++xs++QR.toList.drop (i*4+xs.length)).toArray):=⟨_,rfl⟩;have QX:QP.size=QR.size:=by rw[Rc.out];simp[hxl,Q9];omega
 have Q4:∀(W:an) ty dc,W.heap[w.heap.size]?=some (.cells QR 249 (0,0))->W.heap[vb]?=w.heap[vb]?->(Builtin.copy_ #[181,181] ty #[.slice (some (ai w.heap.size (i*4))) (c+1-i) dc,.slice (some (ai vb 0)) 1 1]).run prog W= .ok (goInt (Nat.min 1 (c+1-i))) (W.setRow w.heap.size QP):=λW ty dc hW hV=>by
  rw[Rc.out];exact kJ W _ _ ty 249 4 w.heap.size (i*4) (c+1-i) dc (ai vb 0) 1 1 QR 249 xs hu Q1 hW (by rw[hxl];simp only[Nat.min_def];split<;>omega) (λj u hu=>br (hV.trans hv) j u (by simpa using hu)) QD h1v
 obtain⟨QS,Re⟩:∃r:Array Value,Hid (r=(QP.toList.take ((i+1)*4)++cs.drop (i*4)++QP.toList.drop ((i+1)*4+(cs.drop (i*4)).length)).toArray):=⟨_,rfl⟩
 have Ra:∀(W:an) ty dc sc,W.heap[w.heap.size]?=some (.cells QP 249 (0,0))->W.heap[g]?=w.heap[g]?->(Builtin.copy_ #[181,181] ty #[.slice (some (ai w.heap.size ((i+1)*4))) (c-i) dc,.slice (some (ai g (i*4))) (c-i) sc]).run prog W= .ok (goInt (Nat.min (c-i) (c-i))) (W.setRow w.heap.size QS):=λW ty dc sc hW hV=>by
  rw[Re.out]
  exact kJ W _ _ ty 249 4 w.heap.size ((i+1)*4) (c-i) dc (ai g (i*4)) (c-i) sc QP 249 (cs.drop (i*4)) hu Q1 hW (by rw[QW];simp only[Nat.min_def];split<;>omega) (λj v hj=>by
   rw[Addr.add_lit];rw[List.getElem?_drop]at hj
   exact QT W hV _ v hj) (by rw[QW,QX,Q9];omega) (λv hv=>h1c v (List.mem_of_mem_drop hv))
 have E0:(w.alloc (.cells QR 249)).drew.heap[w.heap.size]?=some (.cells QR 249 (0,0)):=heap_alloc_new w.drew _;have RD:(w.alloc (.cells QR 249)).drew.heap[vb]?=w.heap[vb]?:=Below.heap_alloc w.drew _ vb Ry;have RE:(w.alloc (.cells QR 249)).drew.heap[g]?=w.heap[g]?:=Below.heap_alloc w.drew _ g Rx;have E1:((w.alloc (.cells QR 249)).drew.setRow w.heap.size QP).heap[w.heap.size]?=some (.cells QP 249 (0,0)):=setRow_heap _ _ _ _ _ _ E0;have RF:((w.alloc (.cells QR 249)).drew.setRow w.heap.size QP).heap[g]?=w.heap[g]?:=(setRow_other _ _ _ _ QD).trans RE;have Q3:¬((i:Int)=(c:Int)):=QD;have hz3:(c:Int)<(c:Int)+1:=QD;have Ro:IntKind.i64.wrap ((i:Int)+1)=(i:Int)+1:=by rw[IntKind.wrap_i64];omega
 have Rp:IntKind.i64.wrap ((c:Int)+1)=(c:Int)+1:=by rw[IntKind.wrap_i64];omega
 have hw3:IntKind.i64.wrap ((c:Int)+1-(i:Int))=(c:Int)+1-(i:Int):=by rw[IntKind.wrap_i64];omega
 have mixed:prog.follows Departure.mixedOrders=true:=QI;have Rq:(0:Int)<=(i:Int)+1:=QD;have Rr:i<=c:=QD;have Rs:((i:Int)+1).toNat=i+1:=QD;have hGi:¬(G=i):=QD;have hGim:¬(G=i+1):=QD;have hci:¬(c=i):=QD;have Rt:(i:Int)<=(c:Int):=QD;have hc1:c+1-(i+1)=c-i:=QD;go_enter func346,ntmps346;have RG:Hid (∀ty,(Builtin.append_ #[181,3] ty #[.slice (some (ai g 0)) i c,aa ((c:Int)+1-(i:Int))]).run prog w= .ok (.slice (some (ai w.heap.size 0)) (c+1) G) ((w.alloc (.cells QR 249)).drew)):=Rh;clear Rh QT hold;have RH:=λty dc=>Q4 (w.alloc (.cells QR 249)).drew ty dc E0 RD
 clear Q4;go_wp2_with (at_builtin;(first|(refine Lib.wpList_append_run _ rfl _ _ _ _ rfl _ _ rfl rfl _ _ (RG.out _) ?_)|(refine wpList_copy_runI _ rfl _ _ 181 181 rfl _ _ rfl rfl (RH _ _) ?_)))
 have E2:(((w.alloc (.cells QR 249)).drew.setRow w.heap.size QP).drew).heap[w.heap.size]?=some (.cells QP 249 (0,0)):=E1;have RI:(((w.alloc (.cells QR 249)).drew.setRow w.heap.size QP).drew).heap[g]?=w.heap[g]?:=RF;go_region_law_o (refine step_copy_runI rfl _ _ 181 181 rfl (.slice (some (ai w.heap.size ((i+1)*4))) (c-i) (G-(i+1))) (.slice (some (ai g (i*4))) (c-i) (c-i)) (by simp[Act.eval,Act.put]) (by simp[Act.eval,Act.put]) (Ra _ _ _ _ E2 RI) ?_)
 go_wp2;go_ret
 have G1:w.grownBy ((((w.alloc (.cells QR 249)).drew.setRow w.heap.size QP).drew).setRow w.heap.size QS) (some g):=by
  have G0:w.grownBy ((w.alloc (.cells QR 249)).drew) (some g):=⟨rfl,rfl,rfl,QE,λk hk _=>Below.heap_alloc w _ k hk⟩;have G2:w.grownBy (((w.alloc (.cells QR 249)).drew.setRow w.heap.size QP).drew) (some g):=jp (cs:=QP) G0 (.inr (ay _))|>λq=>⟨q.os,q.tape,q.output,q.size,q.block⟩
  exact jp G2 (.inr (ay _))
 have hh:=setRow_heap _ w.heap.size _ QS _ _ E2;refine⟨w.heap.size,G,rfl,⟨?_,.inr ⟨w.heap.size,G,QS,rfl,aM _,hh,RA,RB,?_,?_⟩⟩,G1,.inr (ay _)⟩
 ·simp[hxl,hcl];omega
 ·rw[Re.out];simp[QW,QX,Q9];omega
 ·have RJ:QR.toList=cs.take (i*4)++Z.toList++Y.toList:=by rw[QZ.out];simp
  rw[Re.out,Rc.out,RJ];exact GZ cs xs Z.toList Y.toList c i hcl hxl hi
def G3 (l:List fZ)(i:Nat)(x:fZ):(l.flatMap dY).take (i*4)++dY x++(l.flatMap dY).drop (i*4)=(l.take i++x::l.drop i).flatMap dY:=by
 have h:∀(l:List fZ) (i:Nat),(l.flatMap dY).take (i*4)=(l.take i).flatMap dY/\(l.flatMap dY).drop (i*4)=(l.drop i).flatMap dY:=by
  intro l
  induction l with
  |nil=>intro i;simp
  |cons y l ih=>
   intro i
   cases i with
   |zero=>simp
   |succ i=>
    obtain⟨h1,h2⟩:=ih i
    constructor
    ·rw[bw,List.take_succ_cons,bw,<-h1,show(i+1)*4=(dY y).length+i*4 by rw[fS];omega,List.take_append,bU QD]
     congr 2;omega
    ·rw[bw,List.drop_succ_cons,<-h2,show(i+1)*4=(dY y).length+i*4 by rw[fS];omega,List.drop_append,List.drop_of_length_le QD];simp
 obtain⟨h1,h2⟩:=h l i;rw[h1,h2];simp
def G4 (w:an)(v:Value)(l:List fZ)(i:Nat)(x:fZ)(vb:Nat)(hrow:w.ownsRow 0 249 4 v l.length (l.flatMap dY))(h1:∀u∈l.flatMap dY,u.oneCell'=true)(hi:i<=l.length)(hl:l.length<=1073741824)(hv:dK w vb (dY x).toArray 249)(hx:∀u∈dY x,u.oneCell'=true)(hvb:v.ownBlock≠some vb):
  Calls prog 346 #[v,aa i,.slice (some (ai vb 0)) 1 1] w (zE w v (l.length+1) ((l.take i++x::l.drop i).flatMap dY)):=by
 rw[<-G3]
 by_cases he:i=l.length
 ·subst he;have:=zF w v (l.flatMap dY) (dY x) l.length vb hrow hl hv rfl hx;have e1:(l.flatMap dY).take (l.length*4)=l.flatMap dY:=bU (by rw[hrow.1];exact ay _);have e2:(l.flatMap dY).drop (l.length*4)= []:=List.drop_of_length_le (by rw[hrow.1];exact ay _);rw[e1,e2,bK];exact this
 ·rcases hrow.2 with⟨rfl,h0⟩|⟨g,cap,QQ,rfl,hg,hb,hn,hm,hs,ht⟩
  ·omega
  ·have RK:vb≠g:=λe=>hvb (by rw[e];rfl)
   by_cases hr:l.length+1<=cap
   ·exact xh w _ (dY x) g l.length cap i vb QQ hb hs ht hrow.1 h1 QD hl hr hm hv rfl hx RK
   ·exact xi w _ (dY x) g l.length cap i vb QQ hb ht hrow.1 h1 QD hl QD hn hv rfl hx
section
variable {w:an} {c db i:Nat} {x:fZ} {l:List fZ}
attribute [local go_sem↓] Go.wp_at_zero Go.wp_at_succ
theorem kX {T:TypeId}{k n g o:Nat}{xs:aq}(h:w.ownsRow 0 T k (.slice (some (ai g 0)) n c) n xs)(v:Value)(_ho:o<n*k):
  (w.setCell (ai g o) v).ownsRow 0 T k (.slice (some (ai g 0)) n c) n (xs.set o v):=by
 rcases h.2 with⟨h1,_⟩|⟨g',cap,QY,h1,h2,h3,h4,h5,h6,h7⟩
 ·cases h1
 ·cases h1
  have hb:dK w g QY T:=h3;refine⟨by simpa using h.1,.inr ⟨g,c,QY.setIfInBounds o v,rfl,h2,hb.set o v,h4,h5,by simpa using h6,?_⟩⟩;rw[<-h7,Array.toList_setIfInBounds,List.take_set]
def oT (x:fZ):Prop:=(∃a n c,x.2.1= .slice a n c)/\(∃a n c,x.2.2.1= .slice a n c)/\∃o,x.2.2.2= .map o
theorem oT.one (h:oT x):x.2.1.oneCell'=true/\x.2.2.1.oneCell'=true/\x.2.2.2.oneCell'=true:=by
 obtain⟨⟨a,n,c,h1⟩,⟨a',n',c',h2⟩,o,h3⟩:=h;rw[h1,h2,h3];exact⟨rfl,rfl,rfl⟩
theorem oT.new (n:Int):oT (n,ah,ah,.map none):=⟨⟨_,_,_,rfl⟩,⟨_,_,_,rfl⟩,_,rfl⟩
structure Bo (w:an)(db:Nat)(sv uv:Value)(l:List fZ):Prop where
 blk:dK w db #[sv,uv] 183
 row:w.ownsRow 0 249 4 sv l.length (l.flatMap dY)
 form:∀x∈l,oT x
 srt:l.Pairwise (λa b=>a.1<b.1)
 ne:sv.ownBlock≠some db
 len:l.length<=1073741824
theorem Bo.keep {w':an}{sv uv:Value}(h:Bo w db sv uv l)(h1:w'.heap[db]?=w.heap[db]?)(h2:∀b,sv.ownBlock=some b->w'.heap[b]?=w.heap[b]?):Bo w' db sv uv l:=
 ⟨h1.trans h.blk,d7 h.row h2,h.form,h.srt,h.ne,h.len⟩
theorem Bo.below {w':an}{sv uv:Value}(h:Bo w db sv uv l)(hb:aj w w'):Bo w' db sv uv l:=
 h.keep (hb.block _ h.blk.lt) (λb e=>hb.block b (h.row.lt b e).2)
theorem Ed (w:an)(db:Nat)(sv uv:Value)(l:List fZ)(n:Int)(h:Bo w db sv uv l):
  Calls prog 345 #[ag db,aa n] w λe w'=>um (l.map (·.1)) n e/\aj w w':=by
 have hS:=GX w sv l n 0 h.row (λx hx=>(h.form x hx).one) (h.srt.imp (λh=>Int.le_of_lt h)) h.len;obtain⟨k1,k2⟩:=h.blk.rules;obtain⟨a,m,c,rfl⟩:=dL h.row;go_enter func345,ntmps345;go_wp2_with fail;refine hS.mono ?_;rintro e w' ⟨⟨i,rfl,h1,h2,h3⟩,hb⟩;go_wp2;go_ret2;exact⟨⟨i,rfl,h1,h2,h3⟩,hb⟩
def ur (w:an)(db:Nat)(sv uv:Value)(l:List fZ)(n:Int)(e:Ending)(w':an):Prop:=
 ∃g c pre x post,e= .returned (.pointer (some (ai g (pre.length*4))))/\Bo w' db (.slice (some (ai g 0)) (pre++x::post).length c) uv (pre++x::post)/\x.1=n/\
  ((l=pre++x::post/\sv= .slice (some (ai g 0)) (pre++x::post).length c)\/(l=pre++post/\x=(n,ah,ah,.map none)))/\dS (db::sv.ownBlock.toList) w w'/\(sv.ownBlock=some g\/w.heap.size<=g)
theorem tr (h:x.2.1.oneCell'=true/\x.2.2.1.oneCell'=true/\x.2.2.2.oneCell'=true):∀u∈dY x,u.oneCell'=true:=by
 intro u hu;simp[dY]at hu
 rcases hu with rfl|rfl|rfl|rfl
 ·rfl
 ·exact h.1
 ·exact h.2.1
 ·exact h.2.2
theorem C9 {n:Int}(hx:x.1=n)(hs:l.Pairwise (λa b=>a.1<b.1))(h1:∀k y,(l.map (·.1))[k]?=some y->k<i->y<n)(h2:∀k y,(l.map (·.1))[k]?=some y->i<=k->n<=y)(h3:(l.map (·.1))[i]?≠some n):
  (l.take i++x::l.drop i).Pairwise (λa b=>a.1<b.1):=by
 have hd:∀y∈l.drop i,n<y.1:=by
  intro y hy;obtain⟨j,hj⟩:=bT.1 hy;rw[List.getElem?_drop]at hj;have q:=h2 (i+j) y.1 (by rw[aO,hj];rfl) QD
  by_cases e:y.1=n
  ·exfalso;apply h3
   cases j with
   |zero=>rw[aO,show i=i+0 by omega,hj];simp[e]
   |succ j=>
    have QV:i+(j+1)<l.length:=by
     by_cases q:i+(j+1)<l.length
     ·exact q
     ·rw[aU QD]at hj;cases hj
    have q2:=h2 i (l[i]'QD).1 (by rw[aO,aK QD];rfl) (ay _);rw[bH]at hs;have q3:=hs i (i+(j+1)) QD QV QD;rw[aK QV]at hj;rw[Option.some.inj hj]at q3;omega
  ·omega
 have ht:∀y∈l.take i,y.1<n:=by
  intro y hy;obtain⟨j,hj⟩:=bT.1 hy
  have QW:j<i:=by
   by_cases q:j<i
   ·exact q
   ·rw[aU (by rw[bn];omega)]at hj;cases hj
  rw[ci QW]at hj;exact h1 j y.1 (by rw[aO,hj];rfl) QW
 rw[bS];refine⟨hs.sublist (List.take_sublist _ _),ba.2 ⟨λy hy=>by rw[hx];exact hd y hy,hs.sublist (List.drop_sublist _ _)⟩,?_⟩;intro a ha b hb
 rcases aN.1 hb with rfl|hb
 ·rw[hx];exact ht a ha
 ·have:=ht a ha;have:=hd b hb;omega
theorem sy (w:an)(db:Nat)(sv uv:Value)(l:List fZ)(n:Int)(h:Bo w db sv uv l)(hl:l.length<1073741824):
  Calls prog 266 #[ag db,aa n] w (ur w db sv uv l n):=by
 have hF:=Ed w db sv uv l n h;obtain⟨a,c,rfl⟩:=iW h.row;go_enter func266,ntmps266;go_wp2_with fail;refine hF.mono ?_;rintro e w1 ⟨⟨i,rfl,h1,h2,h3⟩,hb⟩;rw[bm]at h1;have D1:=h.below hb
 by_cases hin:(l.map (·.1))[i]?=some n
 ·have hd:decide ((l.map (·.1))[i]?=some n)=true:=decide_eq_true hin;rw[hd];rw[aO]at hin;obtain⟨x,hx,Q5⟩:=aX.1 hin;have Q0:=gl hx;obtain⟨g,rfl,_,QR,_⟩:=eh h.row QD;obtain⟨k1,k2⟩:=D1.blk.rules;have Q1:i<=l.length:=QD
  have HL:Hid (l=l.take i++x::l.drop (i+1)):=by
   show l=_;have:=ca.1 hx;obtain⟨hh,rfl⟩:=this;simp
  have HT:Hid ((l.take i).length=i):=by show(l.take i).length=i;rw[bn];omega
  have Q2:decide ((i:Int)<(l.length:Int))=true:=by simpa using Q0
  clear hx hin hd;go_wp2;go_ret;refine⟨g,c,l.take i,x,l.drop (i+1),by rw[HT.out];rfl,?_,Q5,.inl ⟨HL.out,by rw[<-HL.out]⟩,dS.of_below hb,.inl rfl⟩;rw[<-HL.out];exact D1
 ·have hd:decide ((l.map (·.1))[i]?=some n)=false:=decide_eq_false hin;rw[hd];obtain⟨k1,k2⟩:=D1.blk.rules;have hwl:w.heap.size<=w1.heap.size:=hb.size;have HB:dK (w1.alloc (ak #[aa n,ah,ah,.map none] 249)) w1.heap.size (dY (n,ah,ah,.map none)).toArray 249:=dK.new w1 _ _;have D2:=D1.below ((Below.refl w1.heap.size w1).alloc (ay _) (ak #[aa n,ah,ah,.map none] 249));have Q3:(Value.slice a l.length c).ownBlock≠some w1.heap.size:=λe=>by have:=(D1.row.lt _ e).2;omega
  have hI:=G4 _ (.slice a l.length c) l i (n,ah,ah,.map none) w1.heap.size D2.row (λu hu=>by
   obtain⟨x,hx,hu⟩:=List.mem_flatMap.1 hu
   exact tr (h.form x hx).one u hu) h1 QD HB (tr ⟨rfl,rfl,rfl⟩) Q3
  have Q4:Hid (((l.map (·.1))[i]?=some n)->False):=hin;clear hin hd;go_wp2_with fail;refine hI.mono ?_;rintro e w2 ⟨g,cap,rfl,QU,QP,QZ⟩
  have K2:dS (db::(Value.slice a l.length c).ownBlock.toList) w w2:=by
   have e1:dS (db::(Value.slice a l.length c).ownBlock.toList) w (w1.alloc (ak #[aa n,ah,ah,.map none] 249)):=(dS.of_below hb).alloc _;refine e1.trans ⟨QP.os,QP.tape,QP.output,QP.size,λk hk QS=>QP.block k hk (λe=>QS ?_)⟩;rw[<-e];simp
  have hdl:db<w1.heap.size:=D1.blk.lt;have B2:dK w2 db #[.slice a l.length c,uv] 183:=(QP.block db QF (λe=>h.ne e.symm)).trans D2.blk
  have QX:db≠g:=by
   rcases QZ with q|q
   ·exact λe=>h.ne (by rw[e];exact q)
   ·simp at q;omega
  have QR:(Value.slice a l.length c).ownBlock=some g\/w.heap.size<=g:=QZ.imp id (λq=>by simp at q;omega);obtain⟨y1,y2⟩:=B2.rules;obtain⟨z1,z2⟩:=(B2.set 0 (.slice (some (ai g 0)) (l.length+1) cap)).rules;have HT:Hid ((l.take i).length=i):=by show(l.take i).length=i;rw[bn];omega
  have QT:Hid ((l.take i++(n,Value.slice none 0 0,Value.slice none 0 0,Value.map none)::l.drop i).length=l.length+1):=by show List.length _=_;simp;omega
  have Q2:decide ((i:Int)<(l.length:Int)+1)=true:=QF;have Q1:i<=l.length:=h1;go_wp2;go_ret;refine⟨g,cap,l.take i,(n,ah,ah,.map none),l.drop i,by rw[HT.out];rfl,?_,rfl,.inr ⟨(bX i l).symm,rfl⟩,?_,QR⟩
  ·rw[QT.out];refine⟨B2.set 0 _,?_,?_,C9 rfl h.srt h2 h3 Q4.out,λe=>QX (by simpa [Value.ownBlock]using e.symm),by rw[QT.out];omega⟩
   ·rw[QT.out];refine d7 QU λb hb=> ?_
    obtain rfl:g=b:=by simpa [Value.ownBlock]using hb
    rw[dJ,dA (λe=>QX e)]
   ·intro x hx;simp only[aV,aN]at hx
    rcases hx with hx|rfl|hx
    ·exact h.form x (List.mem_of_mem_take hx)
    ·exact oT.new n
    ·exact h.form x (List.mem_of_mem_drop hx)
  ·exact⟨K2.os,K2.tape,K2.output,by simpa using K2.size,λk hk QS=>by
    rw[dJ,dA (λe=>QS (by simp[e]))]
    exact K2.block k hk QS⟩
theorem qF {a:aw}(hrow:w.ownsRow 0 249 4 (.slice a l.length c) l.length (l.flatMap dY))(hx:l[i]?=some x):
  ∃g,a=some (ai g 0)/\g<w.heap.size/\∀w':an,w'.heap[g]?=w.heap[g]?->w'.cell? (ai g (i*4))=some (aa x.1)/\w'.cell? (ai g (i*4+1))=some x.2.1/\w'.cell? (ai g (i*4+2))=some x.2.2.1/\w'.cell? (ai g (i*4+3))=some x.2.2.2:=by
 have hi:=gl hx;obtain⟨g,rfl,_,QR,QQ⟩:=eh hrow QD;have hf:=λj hj=>fL dY 4 fS l i x hx j hj
 refine⟨g,rfl,QR,λw' hw=>⟨?_,?_,?_,?_⟩⟩
 ·exact QQ w' hw _ _ ((hf 0 QD).trans rfl)
 ·exact QQ w' hw _ _ ((hf 1 QD).trans rfl)
 ·exact QQ w' hw _ _ ((hf 2 QD).trans rfl)
 ·exact QQ w' hw _ _ ((hf 3 QD).trans rfl)
end
def dK.new1 (w:an)(o:Obj)(cs:Array Value)(T:TypeId):dK ((w.alloc o).alloc (.cells cs T)) (w.heap.size+1) cs T:=by
 have h:=dK.new (w.alloc o) cs T;have e:(w.alloc o).heap.size=w.heap.size+1:=QE;rw[e]at h;exact h
def et.nil (w:an)(Z:ap)(T:TypeId)(k:Nat):et w Z T k (ah) 0 []:=⟨bf _ _ _ _,λb hb=>by cases hb⟩
def dG {a b c:an}(h:Below a.heap.size a b)(k:Below b.heap.size b c):Below a.heap.size a c:=
 h.trans ⟨k.os,k.tape,k.output,k.size,λi hi=>k.block i (aC hi h.size)⟩
def nx (P:Value->PM->Prop):aq->List PV->Prop
 |cs,[]=>cs= []
 |cs,v::vs=>∃mv rest,cs= .int .u64 v.1::ae v.2.1::mv::ae v.2.2.unk::rest/\P mv v.2.2/\nx P rest vs
def iQ (P:Value->PM->Prop)(w:an)(Z:ap)(vv:Value)(l:List PV):Prop:=
 ∃QP,et w Z 55 4 vv l.length QP/\nx P QP l
def lp (P:Value->PM->Prop)(w:an)(Z:ap):aq->List PF->Prop
 |cs,[]=>cs= []
 |cs,f::fs=>∃vv rest,cs=aa f.1::vv::rest/\iQ P w Z vv f.2/\lp P w Z rest fs
def pM:Nat->an->(ap)->Value->PM->Prop
 |0,_,_,_,_=>False
 |k+1,w,Z,v,m=>∃cs,et w Z 58 2 v m.fs.length cs/\lp (pM k w Z) w Z cs m.fs
def nx.imp {P Q:Value->PM->Prop}(h:∀v m,P v m->Q v m):∀{l:List PV} {cs:aq},nx P cs l->nx Q cs l
 | [],_,h1=>h1
 |_::_,_,⟨mv,rest,h1,h2,h3⟩=>⟨mv,rest,h1,h _ _ h2,nx.imp h h3⟩
def iQ.mono {P Q:Value->PM->Prop}{w:an}{Z Y:ap}(hP:∀v m,P v m->Q v m)(hz:∀b,Z b->b<w.heap.size->Y b){vv:Value}{l:List PV}(h:iQ P w Z vv l):iQ Q w Y vv l:=by
 obtain⟨QP,h1,h2⟩:=h;exact⟨QP,h1.mono hz,h2.imp hP⟩
def lp.mono {P Q:Value->PM->Prop}{w:an}{Z Y:ap}(hP:∀v m,P v m->Q v m)(hz:∀b,Z b->b<w.heap.size->Y b):∀{fs:List PF} {cs:aq},lp P w Z cs fs->lp Q w Y cs fs
 | [],_,h1=>h1
 |_::_,_,⟨vv,rest,h1,h2,h3⟩=>⟨vv,rest,h1,h2.mono hP hz,lp.mono hP hz h3⟩
def pM.mono {w:an}{Z Y:ap}(hz:∀b,Z b->b<w.heap.size->Y b):∀{k:Nat} {v:Value} {m:PM},pM k w Z v m->pM k w Y v m
 |0,_,_,h=>h
 |_+1,_,_,⟨cs,h1,h2⟩=>⟨cs,h1.mono hz,h2.mono (λ_ _ h=>pM.mono hz h) hz⟩
def nx.get {P:Value->PM->Prop}:∀{l:List PV} {cs:aq},nx P cs l->∀{i:Nat} {v:PV},l[i]?=some v->
  ∃mv,P mv v.2.2/\cs[i*4]?=some (.int .u64 v.1)/\cs[i*4+1]?=some (ae v.2.1)/\cs[i*4+2]?=some mv/\cs[i*4+3]?=some (ae v.2.2.unk)
 | [],_,_,i,v,h=>by simp at h
 |x::l,_,⟨mv,rest,h1,h2,h3⟩,0,v,h=>by
  simp at h;subst h;subst h1;exact⟨mv,h2,rfl,rfl,rfl,rfl⟩
 |x::l,_,⟨mv,rest,h1,h2,h3⟩,i+1,v,h=>by
  obtain⟨QQ,q1,q2,q3,q4,q5⟩:=h3.get (i:=i) (v:=v) (by simpa using h);subst h1;have e:∀j,(i+1)*4+j=(i*4+j)+4:=λj=>QD
  refine⟨QQ,q1,?_,?_,?_,?_⟩
  ·rw[show(i+1)*4=i*4+4 from by omega];exact q2
  ·rw[e];exact q3
  ·rw[e];exact q4
  ·rw[e];exact q5

section
variable {w:an} {b:Nat} {S T:ap}
structure fi (w:an)(S:ap)(w':an)(S':ap):Prop where
 os:w'.os=w.os
 tape:w'.tape=w.tape
 output:w'.output=w.output
 size:w.heap.size<=w'.heap.size
 block:∀b,b<w.heap.size->¬S b->w'.heap[b]?=w.heap[b]?
 grow:∀b,S' b->S b\/w.heap.size<=b
theorem fi.refl (w:an)(S:ap):fi w S w S:=⟨rfl,rfl,rfl,ay _,λ_ _ _=>rfl,λ_ h=> .inl h⟩
theorem fi.trans {a b c:an}{U:ap}(h:fi a S b T)(k:fi b T c U):fi a S c U:=
 ⟨k.os.trans h.os,k.tape.trans h.tape,k.output.trans h.output,aH h.size k.size,
  λi hi hs=>(k.block i (aC hi h.size) (λht=>(h.grow i ht).elim hs (λx=>QD))).trans (h.block i hi hs),
  λi hi=>(k.grow i hi).elim (λx=>h.grow i x) (λx=> .inr (aH h.size x))⟩
theorem fi.below {a b c:an}(h:fi a S b T)(k:Below b.heap.size b c):fi a S c T:=
 h.trans ⟨k.os,k.tape,k.output,k.size,λi hi _=>k.block i hi,λ_ x=> .inl x⟩
theorem fi.alloc {a b:an}(h:fi a S b T)(o:Obj):fi a S (b.alloc o) T:=h.below ((Below.refl _ _).alloc (ay _) o)
theorem fi.drew {a b:an}(h:fi a S b T):fi a S b.drew T:=h.below (Below.refl _ _).drew
theorem dK.step {w1:an}{cs:Array Value}{ty:TypeId}(h:dK w b cs ty)(hk:fi w S w1 T)(hn:¬S b):dK w1 b cs ty:=(hk.block b h.lt hn).trans h
theorem fi.not {w1:an}(hk:fi w S w1 T)(hb:b<w.heap.size)(hn:¬S b):¬T b:=λx=>(hk.grow b x).elim hn (λy=>QD)
theorem jQ {lo:Nat}{T:TypeId}{k n:Nat}{v:Value}{xs:aq}(h:w.ownsRow lo T k v n xs)(hb:v.ownBlock=some b):∃cs,dK w b cs T:=by
 rcases h.2 with⟨rfl,_⟩|⟨g,cap,QP,rfl,_,h4,_⟩
 ·cases hb
 ·simp[Value.ownBlock]at hb;subst hb;exact⟨QP,h4⟩
end
section
variable {α β:Type}
def jq {α β:Type}(P:α->β->(ap)->Prop):(ap)->List α->List β->Prop
 |_,[],[]=>True
 |Y,x::l,y::r=>∃A B:ap,P x y A/\jq P B l r/\(∀b,A b->Y b)/\(∀b,B b->Y b)/\∀b,A b->¬B b
 |_,[],_::_=>False
 |_,_::_,[]=>False
theorem jq.mono {P:α->β->(ap)->Prop}{Y Z:ap}(hY:∀b,Y b->Z b):∀{l:List α} {r:List β},jq P Y l r->jq P Z l r
 | [],[],_=>trivial
 |_::_,_::_,⟨A,B,h1,h2,h3,h4,h5⟩=>⟨A,B,h1,h2,λb h=>hY b (h3 b h),λb h=>hY b (h4 b h),h5⟩
 | [],_::_,h=>h.elim
 |_::_,[],h=>h.elim
theorem jq.imp {P Q:α->β->(ap)->Prop}:∀{l:List α} {r:List β} {Y:ap},jq P Y l r->(∀x y A,x∈l->y∈r->(∀b,A b->Y b)->P x y A->Q x y A)->jq Q Y l r
 | [],[],_,_,_=>trivial
 |_::_,_::_,_,⟨A,B,h1,h2,h3,h4,h5⟩,h=>⟨A,B,h _ _ A QE QE h3 h1,h2.imp (λx y C hx hy hC=>h x y C (by simp[hx]) (by simp[hy]) (λb hb=>h4 b (hC b hb))),h3,h4,h5⟩
 | [],_::_,_,h,_=>h.elim
 |_::_,[],_,h,_=>h.elim
theorem jq.len {P:α->β->(ap)->Prop}:∀{l:List α} {r:List β} {Y:ap},jq P Y l r->l.length=r.length
 | [],[],_,_=>rfl
 |_::_,_::_,_,⟨_,_,_,h2,_⟩=>by simp[h2.len]
 | [],_::_,_,h=>h.elim
 |_::_,[],_,h=>h.elim
theorem jq.split {P:α->β->(ap)->Prop}:∀{pre:List α} {x:α} {post:List α} {r:List β} {Y:ap},jq P Y (pre++x::post) r->
  ∃rp y rq,r=rp++y::rq/\rp.length=pre.length/\∃A B:ap,P x y A/\jq P B (pre++post) (rp++rq)/\(∀b,A b->Y b)/\(∀b,B b->Y b)/\∀b,A b->¬B b
 | [],_,_,[],_,h=>h.elim
 | [],_,_,y::rq,_,⟨A,B,h1,h2,h3,h4,h5⟩=>⟨[],y,rq,rfl,rfl,A,B,h1,h2,h3,h4,h5⟩
 |_::_,_,_,[],_,h=>h.elim
 |_::_,_,_,q::_,_,⟨A,B,h1,h2,h3,h4,h5⟩=>by
  obtain⟨rp,y,rq,rfl,hl,A1,B1,q1,q2,q3,q4,q5⟩:=h2.split;refine⟨q::rp,y,rq,rfl,by simp[hl],A1,λb=>A b\/B1 b,q1,⟨A,B1,h1,q2,λb h=> .inl h,λb h=> .inr h,λb ha hb=>h5 b ha (q4 b hb)⟩,λb h=>h4 b (q3 b h),?_,?_⟩
  ·rintro b (h|h)
   ·exact h3 b h
   ·exact h4 b (q4 b h)
  ·rintro b ha (h|h)
   ·exact h5 b h (q3 b ha)
   ·exact q5 b ha h
theorem jq.join {P:α->β->(ap)->Prop}:∀{pre:List α} {x:α} {post:List α} {rp:List β} {y:β} {rq:List β} {A B Y:ap},rp.length=pre.length->P x y A->jq P B (pre++post) (rp++rq)->
  (∀b,A b->Y b)->(∀b,B b->Y b)->(∀b,A b->¬B b)->jq P Y (pre++x::post) (rp++y::rq)
 | [],_,_,[],_,_,A,B,_,_,h1,h2,h3,h4,h5=>⟨A,B,h1,h2,h3,h4,h5⟩
 | [],_,_,_::_,_,_,_,_,_,hl,_,_,_,_,_=>by simp at hl
 |_::_,_,_,[],_,_,_,_,_,hl,_,_,_,_,_=>by simp at hl
 |_::_,_,_,_::_,_,_,A,_,_,hl,h1,⟨C,D,q1,q2,q3,q4,q5⟩,h3,h4,h5=>by
  refine⟨C,λb=>A b\/D b,q1,jq.join (by simpa using hl) h1 q2 (λb h=> .inl h) (λb h=> .inr h) (λb h hd=>h5 b h (q4 b hd)),λb h=>h4 b (q3 b h),?_,?_⟩
  ·rintro b (h|h)
   ·exact h3 b h
   ·exact h4 b (q4 b h)
  ·rintro b hc (h|h)
   ·exact h5 b h (q3 b hc)
   ·exact q5 b hc h
theorem jq.filter {P:α->β->(ap)->Prop}{p:α->Bool}{q:β->Bool}(hpq:∀x y A,P x y A->p x=q y):∀{l:List α} {r:List β} {Y:ap},jq P Y l r->jq P Y (l.filter p) (r.filter q)
 | [],[],_,_=>trivial
 |x::_,y::_,_,⟨A,B,h1,h2,h3,h4,h5⟩=>by
  rw[b9,b9,hpq x y A h1]
  cases q y with
  |true=>exact⟨A,B,h1,h2.filter hpq,h3,h4,h5⟩
  |false=>exact(h2.filter hpq).mono h4
 | [],_::_,_,h=>h.elim
 |_::_,[],_,h=>h.elim
theorem jq.append {P:α->β->(ap)->Prop}:∀{l:List α} {r:List β} {l':List α} {r':List β} {A B Y:ap},jq P A l r->jq P B l' r'->(∀b,A b->Y b)->(∀b,B b->Y b)->(∀b,A b->¬B b)->jq P Y (l++l') (r++r')
 | [],[],_,_,_,_,_,_,h2,_,h4,_=>h2.mono h4
 |_::_,_::_,_,_,A,B,_,⟨C,D,q1,q2,q3,q4,q5⟩,h2,h3,h4,h5=>by
  refine⟨C,λb=>D b\/B b,q1,q2.append h2 (λb h=> .inl h) (λb h=> .inr h) (λb h=>h5 b (q4 b h)),λb h=>h3 b (q3 b h),?_,?_⟩
  ·rintro b (h|h)
   ·exact h3 b (q4 b h)
   ·exact h4 b h
  ·rintro b hc (h|h)
   ·exact q5 b hc h
   ·exact h5 b (q3 b hc) h
 | [],_::_,_,_,_,_,_,h,_,_,_,_=>h.elim
 |_::_,[],_,_,_,_,_,h,_,_,_,_=>h.elim
inductive Kd where
 |vals
 |msgs
 |ents (t:am)
def oq (S:d8)(f:eP):Kd:=if f.isMap then .ents f.key else if(eR S f).isSome then .msgs else .vals
def ny (S:d8)(T:Option MT)(n:Int)(kd:Kd):Prop:=∀d f,T=some d->dP d.fs n=some f->kd=oq S f
def mX (S:d8)(T:Option MT)(n:Int):Option MT:=T.bind λd=>(dP d.fs n).bind (eR S)
def tt (T:Option MT)(n:Int):Prop:=∃d f,T=some d/\dP d.fs n=some f/\f.isRep=false
def lI (v:LV):aq:= [.int .u64 v.1,ae v.2,ah,ae ⟨#[]⟩]
def oU (v:LV):PV:=(v.1,v.2,PM.none)
def qb (p:Nat):Value:=ag p
def jz (t:am)(v:PV):LV:=(if eM iJ t then(v.1+9223372036854775808)%18446744073709551616 else v.1,v.2.1)
def lC (a b:LV):Prop:=a.1<b.1\/(a.1=b.1/\Op.bytesLess a.2.toList b.2.toList=true)
def jr:List LV->au->LV->Option Nat
 |k::l,p::r,q=>if k.1=q.1/\gE k.2 q.2=true then some p else jr l r q
 |_,_,_=>none
def Oc:Option Nat->DataW Unit->DataW Unit
 |some p,_=>nl (some p)
 |none,z=>z
def kV (k:LV):Value:= .agg #[.int .u64 k.1,ae k.2]
def js (w:an)(mb:Nat)(ks:List LV)(ps:au):Prop:=
 ∃D,w.ownsMap prog 386 gj mb ks.length D/\Go.Maps.size D=ks.length/\(∀(k:LV) kl,Go.keyOf prog 386 (kV k)=some kl->∀z,D.atKey kl z=Oc (jr ks ps k) z)
abbrev LN:=Option MT->an->(ap)->Nat->PM->Prop
structure PU (w:an)(x:fZ)(f:PF)(A:ap)(lv:List LV):Prop where
 ne:lv≠ []
 pm:f.2=lv.map oU
 row:et w A 55 4 x.2.1 lv.length (lv.flatMap lI)
 c2:x.2.2.1=ah
 c3:x.2.2.2= .map none
def mV (m:PM):PV:=(0,eS,m)
structure PW (R:LN)(w:an)(T:Option MT)(L:Prop)(x:fZ)(f:PF)(A:ap)(ps:au)(B:ap):Prop where
 ne:ps≠ []
 lone:L->ps.length=1
 c1:x.2.1=ah
 c3:x.2.2.2= .map none
 row:et w A 180 1 x.2.2.1 ps.length (ps.map qb)
 inA:∀b,B b->A b
 own:∀b,x.2.2.1.ownBlock=some b->¬B b
 sub:jq (λp v C=>v=mV v.2.2/\R T w C p v.2.2) B ps f.2
 len:ps.length<=1073741824
structure PX (R:LN)(w:an)(x:fZ)(f:PF)(A:ap)(t:am)(mb:Nat)(ps:au)(B:ap):Prop where
 ne:ps≠ []
 c1:x.2.1=ah
 c2:x.2.2.1=ah
 c3:x.2.2.2= .map (some mb)
 map:js w mb (f.2.map λv=>jz t (fo v)) ps
 inA:∀b,B b->A b
 inM:A mb
 own:¬B mb
 key:∀v∈f.2,CK t (fo v)
 srt:f.2.Pairwise (λa b=>lC (jz t (fo a)) (jz t (fo b)))
 sub:jq (λp v C=>v=mV v.2.2/\R none w C p v.2.2) B ps f.2
 len:ps.length<=1073741824
def gq (S:d8)(R:LN)(w:an)(T:Option MT)(x:fZ)(f:PF)(A:ap):Prop:=
 x.1=f.1/\((ny S T x.1 .vals/\∃lv,PU w x f A lv)\/(ny S T x.1 .msgs/\∃ps B,PW R w (mX S T x.1) (tt T x.1) x f A ps B)\/∃t,ny S T x.1 (.ents t)/\∃mb ps B,PX R w x f A t mb ps B)
structure DrB (w:an)(Z:ap)(db:Nat)(sv uv:Value)(u:am)(l:List fZ):Prop where
 c:Bo w db sv uv l
 un:w.ownsRow 0 5 1 uv u.size (Lib.strCells u)
 zd:Z db
 zs:∀b,sv.ownBlock=some b->Z b
 zu:∀b,uv.ownBlock=some b->Z b
 su:∀b,sv.ownBlock=some b->uv.ownBlock≠some b
 ud:uv.ownBlock≠some db
structure JX (w:an)(Z:ap)(db:Nat)(sv uv:Value)(u:am)(l:List fZ)(Y:ap):Prop extends DrB w Z db sv uv u l where
 yz:∀b,Y b->Z b
 yl:∀b,Y b->b<w.heap.size
 yd:¬Y db
 ys:∀b,sv.ownBlock=some b->¬Y b
 yu:∀b,uv.ownBlock=some b->¬Y b
def ed (S:d8):Nat->LN
 |0,_,_,_,_,_=>False
 |k+1,T,w,Z,db,m=>∃sv uv l Y,JX w Z db sv uv m.unk l Y/\jq (gq S (ed S k) w T) Y l m.fs
end
def lL (n:Int)(vs:List PV):∀l:List PF,gH n vs true l=l.filter (λx=>decide (x.1≠n))
 | []=>rfl
 |x::l=>by
  rw[gH,b9];simp only[cF,cl,aL,if_false,aR,cz];rw[lL n vs l]
  by_cases h:x.1=n<;>simp[h]
def lM (n:Int):∀l:List PF,(∀x∈l,x.1≠n)->l.filter (λx=>decide (x.1≠n))=l:=λl h=>dm.2 (λx hx=>by simp[h x hx])
def rx (n:Int)(vs:List PV)(fq:List PF)(hq:∀x∈fq,n<x.1):∀fp:List PF,(∀x∈fp,x.1<n)->gH n vs false (fp++fq)=fp++(n,vs)::fq
 | [],_=>by
  cases fq with
  |nil=>rfl
  |cons y r=>
   have hy:=hq y QE;simp only[aR];have h1:decide (n<=y.1)=true:=QF;have h2:¬y.1=n:=QD;rw[gH,h1,cA,lL,lM n r (λx hx=>by have:=hq x (by simp[hx]);omega)];simp[h2]
 |x::fp,hp=>by
  have hx:=hp x QE;rw[bi,gH];have h1:decide (n<=x.1)=false:=QF;have h2:¬x.1=n:=QD;rw[h1];simp only[cG,cr,aL,if_false,aR,h2,cC];rw[rx n vs fq hq fp (λy hy=>hp y (by simp[hy]))];rfl
def ut (n:Int)(vs old:List PV)(fq:List PF)(hq:∀x∈fq,n<x.1):∀fp:List PF,(∀x∈fp,x.1<n)->gH n vs false (fp++(n,old)::fq)=fp++(n,vs)::fq
 | [],_=>by
  simp only[aR];rw[gH];simp only[dj,decide_true,cG,cU,if_true,aR,cA];rw[lL,lM n fq (λx hx=>by have:=hq x hx;omega)];rfl
 |x::fp,hp=>by
  have hx:=hp x QE;rw[bi,gH];have h1:decide (n<=x.1)=false:=QF;have h2:¬x.1=n:=QD;rw[h1];simp only[cG,cr,aL,if_false,aR,h2,cC];rw[ut n vs old fq hq fp (λy hy=>hp y (by simp[hy]))];rfl
def pN (n:Int)(old:List PV)(fq:List PF):∀fp:List PF,(∀x∈fp,x.1<n)->gm (fp++(n,old)::fq) n=old
 | [],_=>by simp[gm]
 |x::fp,hp=>by
  have hx:=hp x QE;have h2:¬x.1=n:=QD;simp only[bi,gm,h2,if_false];exact pN n old fq fp (λy hy=>hp y (by simp[hy]))
def mJ (n:Int):∀l:List PF,(∀x∈l,x.1≠n)->gm l n= []
 | [],_=>rfl
 |x::l,h=>by
  simp only[gm,h x QE,if_false];exact mJ n l (λy hy=>h y (by simp[hy]))
def js.keep {w w':an}{mb:Nat}{ks:List LV}{ps:au}(h:js w mb ks ps)(hb:w'.heap[mb]?=w.heap[mb]?):js w' mb ks ps:=by
 obtain⟨D,h1,h2,h3⟩:=h;exact⟨D,jT h1 hb,h2,h3⟩
def js.lt {w:an}{mb:Nat}{ks:List LV}{ps:au}(h:js w mb ks ps):mb<w.heap.size:=by
 obtain⟨D,h1,_⟩:=h;exact h1.lt
def ry {w w':an}{b:Nat}(hl:b<w.heap.size)(h:w'.heap[b]?=w.heap[b]?):b<w'.heap.size:=by
 by_cases q:b<w'.heap.size
 ·exact q
 ·rw[cy QD,bz hl]at h;cases h
def gq.keep {S:d8}{R:LN}{w w':an}{T:Option MT}{x:fZ}{f:PF}{A:ap}(hR:∀T C p m,(∀b,C b->A b)->R T w C p m->R T w' C p m)
  (hk:∀b,A b->b<w.heap.size->w'.heap[b]?=w.heap[b]?) (h:gq S R w T x f A):gq S R w' T x f A:=by
 obtain⟨h1,h2⟩:=h;refine⟨h1,?_⟩
 rcases h2 with⟨q,lv,h⟩|⟨q,ps,B,h⟩|⟨t,q,mb,ps,B,h⟩
 ·exact .inl ⟨q,lv,{h with row:=h.row.keep hk}⟩
 ·exact .inr (.inl ⟨q,ps,B,{h with row:=h.row.keep hk,sub:=h.sub.imp λp v C _ _ hC hp=>⟨hp.1,hR _ _ _ _ (λb hb=>h.inA b (hC b hb)) hp.2⟩}⟩)
 ·exact .inr (.inr ⟨t,q,mb,ps,B,{h with map:=h.map.keep (hk mb h.inM h.map.lt),sub:=h.sub.imp λp v C _ _ hC hp=>⟨hp.1,hR _ _ _ _ (λb hb=>h.inA b (hC b hb)) hp.2⟩}⟩)
def DrB.keep {w w':an}{Z:ap}{db:Nat}{sv uv:Value}{u:am}{l:List fZ}(h:DrB w Z db sv uv u l)(hk:∀b,Z b->b<w.heap.size->w'.heap[b]?=w.heap[b]?):DrB w' Z db sv uv u l:=
 {h with
  c:=h.c.keep (hk db h.zd h.c.blk.lt) (λb hb=>hk b (h.zs b hb) (h.c.row.lt b hb).2)
  un:=d7 h.un λb hb=>hk b (h.zu b hb) (h.un.lt b hb).2}
def ed.keep {S:d8}:∀{k:Nat} {T:Option MT} {w w':an} {Z:ap} {db:Nat} {m:PM},ed S k T w Z db m->(∀b,Z b->b<w.heap.size->w'.heap[b]?=w.heap[b]?)->ed S k T w' Z db m
 |0,_,_,_,_,_,_,h,_=>h
 |_+1,_,_,_,_,_,_,⟨sv,uv,l,Y,hy,hs⟩,hk=>
  ⟨sv,uv,l,Y,{hy with toDrB:=hy.toDrB.keep hk,yl:=λb hb=>ry (hy.yl b hb) (hk b (hy.yz b hb) (hy.yl b hb))},hs.imp λ_ _ _ _ _ hA h=>
   h.keep (λ_ _ _ _ hC hr=>ed.keep hr λb hb hl=>hk b (hy.yz b (hA b (hC b hb))) hl) (λb hb hl=>hk b (hy.yz b (hA b hb)) hl)⟩
def ed.mono {S:d8}{k:Nat}{T:Option MT}{w:an}{Z Z':ap}{db:Nat}{m:PM}(h:ed S k T w Z db m)(hz:∀b,Z b->Z' b):ed S k T w Z' db m:=by
 cases k with
 |zero=>exact h
 |succ k=>
  obtain⟨sv,uv,l,Y,hy,hs⟩:=h;exact⟨sv,uv,l,Y,{hy with zd:=hz _ hy.zd,zs:=λb hb=>hz b (hy.zs b hb),zu:=λb hb=>hz b (hy.zu b hb),yz:=λb hb=>hz b (hy.yz b hb)},hs⟩
def ed.lt {S:d8}{k:Nat}{T:Option MT}{w:an}{Z:ap}{db:Nat}{m:PM}(h:ed S k T w Z db m):db<w.heap.size/\Z db:=by
 cases k with
 |zero=>exact h.elim
 |succ k=>
  obtain⟨sv,uv,l,Y,hy,hs⟩:=h;exact⟨hy.c.blk.lt,hy.zd⟩
def jq.nums {S:d8}{R:LN}{w:an}{T:Option MT}:∀{l:List fZ} {fs:List PF} {Y:ap},jq (gq S R w T) Y l fs->fs.map (·.1)=l.map (·.1)
 | [],[],_,_=>rfl
 |_::_,_::_,_,⟨_,_,h1,h2,_⟩=>by simp[h2.nums,h1.1]
 | [],_::_,_,h=>h.elim
 |_::_,[],_,h=>h.elim
structure uw (S:d8)(k:Nat)(T:Option MT)(w1:an)(Z1:ap)(db:Nat)(m:PM)(n:Int)(g:Nat)(pre:List fZ)(x:fZ)(post:List fZ)(sv uv:Value)(A B:ap)(fp fq:List PF):Prop where
 own:sv.ownBlock=some g
 y:JX w1 Z1 db sv uv m.unk (pre++x::post) (λb=>A b\/B b)
 len:fp.length=pre.length
 sep:jq (gq S (ed S k) w1 T) B (pre++post) (fp++fq)
 dis:∀b,A b->¬B b
 xn:x.1=n
 lo:∀f∈fp,f.1<n
 hi:∀f∈fq,n<f.1
 was:(∃old,m.fs=fp++(n,old)::fq/\gq S (ed S k) w1 T x (n,old) A)\/(m.fs=fp++fq/\x=(n,ah,ah,.map none)/\∀b,¬A b)
def uw.put {S:d8}{k:Nat}{T:Option MT}{w1:an}{Z1:ap}{db:Nat}{m:PM}{n:Int}{g:Nat}{pre:List fZ}{x:fZ}{post:List fZ}{sv uv:Value}{A B:ap}{fp fq:List PF}
  (h:uw S k T w1 Z1 db m n g pre x post sv uv A B fp fq) {vs:List PV} (hv:vs≠ []):m.put n vs= .mk (fp++(n,vs)::fq) m.unk:=by
 have he:vs.isEmpty=false:=by cases vs with
  |nil=>exact absurd rfl hv
  |cons _ _=>rfl
 unfold PM.put;rw[he]
 rcases h.was with⟨old,e,_⟩|⟨e,_⟩
 ·rw[e,ut n vs old fq h.hi fp h.lo]
 ·rw[e,rx n vs fq h.hi fp h.lo]
def uw.close {S:d8}{k:Nat}{T:Option MT}{w1:an}{Z1:ap}{db:Nat}{m:PM}{n:Int}{g:Nat}{pre:List fZ}{x:fZ}{post:List fZ}{sv uv:Value}{A B:ap}{fp fq:List PF}
  (h:uw S k T w1 Z1 db m n g pre x post sv uv A B fp fq) {w2:an} {x':fZ} {vs:List PV} {A':ap} (hc:Bo w2 db sv uv (pre++x'::post)) (hx:gq S (ed S k) w2 T x' (n,vs) A') (hv:vs≠ [])
  (hA:∀b,A' b->Z1 b->b<w1.heap.size->A b) (hAl:∀b,A' b->b<w2.heap.size) (hk:∀b,Z1 b->b<w1.heap.size->b≠g->¬A b->w2.heap[b]?=w1.heap[b]?):ed S (k+1) T w2 (λb=>Z1 b\/A' b) db (m.put n vs):=by
 rw[h.put hv];have hB:∀b,B b->w2.heap[b]?=w1.heap[b]?:=λb hb=>hk b (h.y.yz b (.inr hb)) (h.y.yl b (.inr hb)) (λe=>h.y.ys g h.own (.inr (e▸hb))) (λha=>h.dis b ha hb)
 have QP:=h.y.c.blk.lt;refine⟨sv,uv,pre++x'::post,λb=>A' b\/B b,⟨⟨hc,?_,.inl h.y.zd,λb hb=> .inl (h.y.zs b hb),λb hb=> .inl (h.y.zu b hb),h.y.su,h.y.ud⟩,?_,?_,?_,?_,?_⟩,?_⟩
 ·exact d7 h.y.un λb hb=>hk b (h.y.zu b hb) (h.y.un.lt b hb).2 (λe=>h.y.su g h.own (e▸hb)) (λha=>h.y.yu b hb (.inl ha))
 ·rintro b (hb|hb)
  ·exact .inr hb
  ·exact .inl (h.y.yz b (.inr hb))
 ·rintro b (hb|hb)
  ·exact hAl b hb
  ·exact ry (h.y.yl b (.inr hb)) (hB b hb)
 ·rintro(hb|hb)
  ·exact h.y.yd (.inl (hA db hb h.y.zd QP))
  ·exact h.y.yd (.inr hb)
 ·rintro b hs (hb|hb)
  ·exact h.y.ys b hs (.inl (hA b hb (h.y.zs b hs) (h.y.c.row.lt b hs).2))
  ·exact h.y.ys b hs (.inr hb)
 ·rintro b hs (hb|hb)
  ·exact h.y.yu b hs (.inl (hA b hb (h.y.zu b hs) (h.y.un.lt b hs).2))
  ·exact h.y.yu b hs (.inr hb)
 ·refine jq.join (A:=A') (B:=B) h.len hx ?_ (λb hb=> .inl hb) (λb hb=> .inr hb) (λb ha hb=>h.dis b (hA b ha (h.y.yz b (.inr hb)) (h.y.yl b (.inr hb))) hb);exact h.sep.imp λy f C _ _ hC hs=>hs.keep (λ_ _ _ _ hD hr=>hr.keep λb hb _=>hB b (hC b (hD b hb))) (λb hb _=>hB b (hC b hb))
section
variable {S:d8} {k db:Nat} {T:Option MT} {w w1 w':an} {m:PM} {uv:Value} {n:Int} {pre post:List fZ} {x:fZ} {Z1:ap} {src:Option Nat}
attribute [local go_sem↓] Go.wp_at_zero Go.wp_at_succ
theorem oV {Z:ap}{sv:Value}{l:List fZ}{Y:ap}(hy:JX w Z db sv uv m.unk l Y)(hs:jq (gq S (ed S k) w T) Y l m.fs)
  {e:Ending} (h:ur w db sv uv l n e w1):
  ∃g c pre x post A B fp fq,e= .returned (.pointer (some (ai g (pre.length*4))))/\uw S k T w1 (λb=>Z b\/b=g) db m n g pre x post (.slice (some (ai g 0)) (pre++x::post).length c) uv A B fp fq/\fi w Z w1 (λb=>Z b\/b=g)/\(∀b,A b->Y b)/\dS (db::sv.ownBlock.toList) w w1:=by
 obtain⟨g,c,pre,x,post,rfl,hc,hx,hw,hk,hg⟩:=h
 have hY:∀b,Y b->w1.heap[b]?=w.heap[b]?:=λb hb=>hk.block b (hy.yl b hb) (λhm=>by
  simp only[aN,cL]at hm
  rcases hm with rfl|hm
  ·exact hy.yd hb
  ·exact hy.ys b hm hb)
 have hU:∀b,uv.ownBlock=some b->w1.heap[b]?=w.heap[b]?:=λb hb=>hk.block b (hy.un.lt b hb).2 (λhm=>by
  simp only[aN,cL]at hm
  rcases hm with rfl|hm
  ·exact hy.ud hb
  ·exact hy.su b hm hb)
 have Q9:¬Y g:=λhb=>by
  rcases hg with hg|hg
  ·exact hy.ys g hg hb
  ·have:=hy.yl g hb;omega
 have Ra:uv.ownBlock≠some g:=λhb=>by
  rcases hg with hg|hg
  ·exact hy.su g hg hb
  ·have:=(hy.un.lt g hb).2;omega
 have QQ:∀b,(Value.slice (some (ai g 0)) (pre++x::post).length c).ownBlock=some b->b=g:=λb hb=>by simpa [Value.ownBlock]using hb.symm
 have Q3:fi w Z w1 (λb=>Z b\/b=g):=⟨hk.os,hk.tape,hk.output,hk.size,λb hb hz=>hk.block b hb (λhm=>by
   simp only[aN,cL]at hm
   rcases hm with rfl|hm
   ·exact hz hy.zd
   ·exact hz (hy.zs b hm)),λb hb=>by
   rcases hb with hb|rfl
   ·exact .inl hb
   ·rcases hg with hg|hg
    ·exact .inl (hy.zs _ hg)
    ·exact .inr hg⟩
 have QV:∀{y:fZ} {f:PF} {C:ap},(∀b,C b->Y b)->gq S (ed S k) w T y f C->gq S (ed S k) w1 T y f C:=λhC hh=>hh.keep (λ_ _ _ _ hD hr=>hr.keep λb hb _=>hY b (hC b (hD b hb))) (λb hb _=>hY b (hC b hb))
 have srt:=hc.srt;rw[bS,ba]at srt
 have Q4:∀{fp:List PF},fp.map (·.1)=pre.map (·.1)->∀f∈fp,f.1<n:=fun{fp} e f hf=>by
  have:f.1∈pre.map (·.1):=e▸aQ.2 ⟨f,hf,rfl⟩;obtain⟨y,hy,Q0⟩:=aQ.1 this;rw[<-Q0,<-hx];exact srt.2.2 y hy x QE
 have Q5:∀{fq:List PF},fq.map (·.1)=post.map (·.1)->∀f∈fq,n<f.1:=fun{fq} e f hf=>by
  have:f.1∈post.map (·.1):=e▸aQ.2 ⟨f,hf,rfl⟩;obtain⟨y,hy,Q0⟩:=aQ.1 this;rw[<-Q0,<-hx];exact srt.2.1.1 y hy
 have Q6:∀(A B:ap),(∀b,A b->Y b)->(∀b,B b->Y b)->JX w1 (λb=>Z b\/b=g) db (.slice (some (ai g 0)) (pre++x::post).length c) uv m.unk (pre++x::post) (λb=>A b\/B b):=λA B hA hB=>by
  have QS:∀b,A b\/B b->Y b:=λb hb=>hb.elim (hA b) (hB b)
  exact⟨⟨hc,d7 hy.un hU,.inl hy.zd,λb hb=> .inr (QQ b hb),λb hb=> .inl (hy.zu b hb),λb hb=>by rw[QQ b hb];exact Ra,hy.ud⟩,
   λb hb=> .inl (hy.yz b (QS b hb)),λb hb=>ry (hy.yl b (QS b hb)) (hY b (QS b hb)),λhb=>hy.yd (QS db hb),λb hb hq=>by rw[QQ b hb]at hq;exact Q9 (QS g hq),λb hb hq=>hy.yu b hb (QS b hq)⟩
 rcases hw with⟨rfl,hsv⟩|⟨rfl,Rh⟩
 ·obtain⟨fp,f,fq,Ri,hlen,A,B,p1,p2,p3,p4,p5⟩:=hs.split;have hf:f=(n,f.2):=by rw[<-hx,p1.1]
  have QT:=p2.nums;rw[bM,bM]at QT;obtain⟨Q1,Q2⟩:=List.append_inj QT (by simpa using hlen);refine⟨g,c,pre,x,post,A,B,fp,fq,rfl,⟨rfl,Q6 A B p3 p4,hlen,p2.imp λy q C _ _ hC hh=>QV (λb hb=>p4 b (hC b hb)) hh,p5,hx,Q4 Q1,Q5 Q2,.inl ⟨f.2,by rw[Ri];rw[<-hf],by rw[<-hf];exact QV p3 p1⟩⟩,Q3,p3,hk⟩
 ·have QT:=hs.nums;have Rb:=hs.len;have QW:m.fs=m.fs.take pre.length++m.fs.drop pre.length:=(bX _ _).symm;rw[QW,bM,bM]at QT;have Q7:(m.fs.take pre.length).length=pre.length:=by rw[bn,<-Rb,aG];omega
  obtain⟨Q1,Q2⟩:=List.append_inj QT (by simpa using Q7);rw[QW]at hs;refine⟨g,c,pre,x,post,λ_=>False,Y,m.fs.take pre.length,m.fs.drop pre.length,rfl,⟨rfl,Q6 _ Y (λ_ h=>h.elim) (λ_ h=>h),Q7,hs.imp λy q C _ _ hC hh=>QV hC hh,λ_ h=>h.elim,hx,Q4 Q1,Q5 Q2,.inr ⟨QW,Rh,λ_ h=>h⟩⟩,Q3,λ_ h=>h.elim,hk⟩
theorem G5 (pre post:List fZ)(x x':fZ)(j:Nat)(hj:j<4)(v:Value)(h:(dY x).set j v=dY x'):((pre++x::post).flatMap dY).set (pre.length*4+j) v=(pre++x'::post).flatMap dY:=by
 have hl:(pre.flatMap dY).length=pre.length*4:=by
  clear h
  induction pre with
  |nil=>rfl
  |cons y l ih=>rw[bw,aG,ih,fS,bE];omega
 rw[cS,cS,List.set_append_right _ _ QD,hl,Nat.add_sub_cancel_left,bw,bw,<-h,List.set_append_left _ _ (by rw[fS];exact hj)]
theorem Bo.put {g c:Nat}{x':fZ}(h:Bo w db (.slice (some (ai g 0)) (pre++x::post).length c) uv (pre++x::post)){j:Nat}(hj:j<4){v:Value}(hx:x'.1=x.1)(hf:oT x')(hs:(dY x).set j v=dY x'):
  Bo (w.setCell (ai g (pre.length*4+j)) v) db (.slice (some (ai g 0)) (pre++x::post).length c) uv (pre++x'::post):=by
 have QU:g≠db:=λe=>h.ne (by rw[e];rfl)
 have hlen:(pre++x'::post).length=(pre++x::post).length:=QE;refine⟨h.blk.other _ _ QU,?_,?_,?_,h.ne,by rw[hlen];exact h.len⟩
 ·have:=kX h.row (o:=pre.length*4+j) v QF;rw[G5 pre post x x' j hj v hs]at this;rw[hlen];exact this
 ·intro y hy;simp only[aV,aN]at hy
  rcases hy with hy|rfl|hy
  ·exact h.form y (by simp[hy])
  ·exact hf
  ·exact h.form y (by simp[hy])
 ·have:=h.srt;rw[bS,ba]at this⊢;refine⟨this.1,⟨λy hy=>by rw[hx];exact this.2.1.1 y hy,this.2.1.2⟩,λa ha b hb=> ?_⟩
  rcases aN.1 hb with rfl|hb
  ·rw[hx];exact this.2.2 a ha x QE
  ·exact this.2.2 a ha b (by simp[hb])
theorem uw.cells {g c:Nat}{A B:ap}{fp fq:List PF}
  (h:uw S k T w1 Z1 db m n g pre x post (.slice (some (ai g 0)) (pre++x::post).length c) uv A B fp fq) (hw:w'.heap[g]?=w1.heap[g]?):
  w'.cell? (ai g (pre.length*4))=some (aa n)/\w'.cell? (ai g (pre.length*4+1))=some x.2.1/\w'.cell? (ai g (pre.length*4+2))=some x.2.2.1/\w'.cell? (ai g (pre.length*4+3))=some x.2.2.2/\∀o,w'.frozen? (ai g o)=false:=by
 have hx:(pre++x::post)[pre.length]?=some x:=QE;obtain⟨g',e,_,hc⟩:=qF h.y.c.row hx
 cases e
 obtain⟨c0,c1,c2,c3⟩:=hc w' hw;rw[h.xn]at c0;refine⟨c0,c1,c2,c3,?_⟩;obtain⟨cs,hb⟩:=jQ h.y.c.row h.own;exact(dK.rules (hw.trans hb)).2
theorem uw.vals {g c:Nat}{A B:ap}{fp fq:List PF}
  (h:uw S k T w1 Z1 db m n g pre x post (.slice (some (ai g 0)) (pre++x::post).length c) uv A B fp fq) {w9:an} {gg cap N:Nat} {lv:List LV} {cs:aq} (hsrc:∀b,src=some b->A b) (QU:lv≠ []) (hB:aj w1 w') (hgrow:w'.grownBy w9 src)
  (QQ:w9.ownsRow 0 55 4 (.slice (some (ai gg 0)) N cap) N cs) (hN:N=lv.length) (hcs:cs=lv.flatMap lI) (QR:src=some gg\/w1.heap.size<=gg) (hok:ny S T n .vals) (hx2:x.2.2.1=ah) (hx3:x.2.2.2= .map none):
  ∃Z',fi w1 Z1 (w9.setCell (ai g (pre.length*4+1)) (.slice (some (ai gg 0)) N cap)) Z'/\ed S (k+1) T (w9.setCell (ai g (pre.length*4+1)) (.slice (some (ai gg 0)) N cap)) Z' db (m.put n (lv.map oU)):=by
 subst hN hcs;have Rc:=(h.y.c.row.lt g h.own).2;have Re:=h.y.c.blk.lt;have QP:∀b,b<w1.heap.size->¬A b->w9.heap[b]?=w1.heap[b]?:=λb hb ha=>(hgrow.block b (aC hb hB.size) (λe=>ha (hsrc b e.symm))).trans (hB.block b hb)
 have Q8:¬A g:=λha=>h.y.ys g h.own (.inl ha)
 have Rf:¬A db:=λha=>h.y.yd (.inl ha)
 have QX:gg<w9.heap.size:=(QQ.lt gg rfl).2
 have QY:gg≠g:=λe=>by
  rcases QR with QR|QR
  ·exact Q8 (hsrc g (e▸QR))
  ·omega
 have Rg:=h.y.c.keep (w':=w9) (QP db Re Rf) (λb hb=>by
  have:g=b:=by simpa [Value.ownBlock]using hb
  subst this
  exact QP _ Rc Q8)
 have QZ:=Rg.put (j:=1) QD (v:= .slice (some (ai gg 0)) lv.length cap) (x':=(x.1,.slice (some (ai gg 0)) lv.length cap,ah,.map none)) rfl ⟨⟨_,_,_,rfl⟩,⟨_,_,_,rfl⟩,_,rfl⟩ (by simp[dY,hx2,hx3]);refine⟨λb=>Z1 b\/b=gg,⟨?_,?_,?_,?_,?_,?_⟩,h.close QZ (A':=λb=>b=gg) ⟨h.xn,.inl ⟨by rw[h.xn];exact hok,lv,QU,rfl,⟨?_,?_⟩,rfl,rfl⟩⟩ (by simpa using QU) ?_ ?_ ?_⟩
 ·exact hgrow.os.trans hB.os
 ·exact hgrow.tape.trans hB.tape
 ·exact hgrow.output.trans hB.output
 ·simpa using aH hB.size hgrow.size
 ·intro b hb hz;rw[dJ,dA (λe=>hz (by rw[<-e];exact h.y.zs g h.own))];exact QP b hb (λha=>hz (h.y.yz b (.inl ha)))
 ·rintro b (hb|rfl)
  ·exact .inl hb
  ·rcases QR with QR|QR
   ·exact .inl (h.y.yz _ (.inl (hsrc _ QR)))
   ·exact .inr QR
 ·refine d7 QQ λb hb=> ?_
  obtain rfl:gg=b:=by simpa [Value.ownBlock]using hb
  rw[dJ,dA (λe=>QY e.symm)]
 ·intro b hb;simpa [Value.ownBlock]using hb.symm
 ·rintro b rfl _ hl
  rcases QR with QR|QR
  ·exact hsrc _ QR
  ·omega
 ·rintro b rfl;simpa using QX
 ·intro b _ hb Rj ha;rw[dJ,dA (λe=>Rj e.symm)];exact QP b hb ha
end
def Tryz.infoV:(prog.info? 55).map (λi=>(i.zero,i.size,i.bytes))=some (some (.agg #[.int .u64 0,ae ⟨#[]⟩,ah,ae ⟨#[]⟩]),4,64):=QI
def Tryz.infoF:(prog.info? 58).map (λi=>(i.zero,i.size,i.bytes))=some (some (.agg #[aa 0,ah]),2,32):=QI
section
variable {db k:Nat} {l pre post:List fZ} {Y:ap} {S:d8} {T:Option MT}
attribute [local go_sem↓] Go.wp_at_zero Go.wp_at_succ
theorem JX.keep {w w':an}{Z:ap}{sv uv:Value}{u:am}(hy:JX w Z db sv uv u l Y)(hk:∀b,Z b->b<w.heap.size->w'.heap[b]?=w.heap[b]?):JX w' Z db sv uv u l Y:=
 {hy with toDrB:=hy.toDrB.keep hk,yl:=λb hb=>ry (hy.yl b hb) (hk b (hy.yz b hb) (hy.yl b hb))}
theorem lZ {w w':an}{fs:List PF}(hs:jq (gq S (ed S k) w T) Y l fs)(hk:∀b,Y b->b<w.heap.size->w'.heap[b]?=w.heap[b]?):jq (gq S (ed S k) w' T) Y l fs:=
 hs.imp λ_ _ _ _ _ hA h=>h.keep (λ_ _ _ _ hC hr=>hr.keep λb hb hl=>hk b (hA b (hC b hb)) hl) (λb hb hl=>hk b (hA b hb) hl)
theorem uw.ofVals {w1:an}{Z1:ap}{m:PM}{n:Int}{g:Nat}{x:fZ}{sv uv:Value}{A B:ap}{fp fq:List PF}
  (h:uw S k T w1 Z1 db m n g pre x post sv uv A B fp fq) (hkd:(∀kd,ny S T n kd->kd= .vals)\/∀f∈m.fs,f.1≠n):
  (x.2.2.1=ah/\x.2.2.2= .map none)/\((x.2.1=ah/\m.get n= [])\/∃gv cc lv,lv≠ []/\x.2.1= .slice (some (ai gv 0)) lv.length cc/\A gv/\m.get n=lv.map oU/\w1.ownsRow 0 55 4 (.slice (some (ai gv 0)) lv.length cc) lv.length (lv.flatMap lI)):=by
 rcases h.was with⟨old,e,hs⟩|⟨e,rfl,_⟩
 ·obtain⟨h1,h2⟩:=hs;have Q6:(n,old)∈m.fs:=by rw[e];simp
  have Q7:m.get n=old:=by
   unfold PM.get;rw[e];exact pN n old fq fp h.lo
  rw[h.xn]at h2;have QU:=hkd.resolve_right (λq=>q _ Q6 rfl)
  rcases h2 with⟨_,lv,hv⟩|⟨q,_⟩|⟨t,q,_⟩
  ·refine⟨⟨hv.c2,hv.c3⟩,.inr ?_⟩;have QQ:=hv.row
   rcases QQ.1.2 with⟨_,hz⟩|⟨gv,cc,Q0,e2,_⟩
   ·exact absurd (bA hz) hv.ne
   ·rw[e2]at QQ;exact⟨gv,cc,lv,hv.ne,e2,QQ.2 gv rfl,Q7.trans hv.pm,QQ.1⟩
  ·exact absurd (QU _ q) QE
  ·exact absurd (QU _ q) QE
 ·refine⟨⟨rfl,rfl⟩,.inl ⟨rfl,?_⟩⟩;unfold PM.get;rw[e];refine mJ n _ λf hf=> ?_
  rcases aV.1 hf with hf|hf
  ·have:=h.lo f hf;omega
  ·have:=h.hi f hf;omega
def jA (S:d8)(k:Nat)(T:Option MT)(w:an)(Z:ap)(db:Nat)(m:PM)(e:Ending)(w':an):Prop:=e= .returned (.tuple #[])/\∃Z',fi w Z w' Z'/\ed S (k+1) T w' Z' db m
theorem vw (S:d8)(k:Nat)(T:Option MT)(w:an)(Z:ap)(db:Nat)(m:PM)(n:Int)(v:LV)(h:ed S (k+1) T w Z db m)(hok:ny S T n .vals)(hkd:(∀kd,ny S T n kd->kd= .vals)\/∀f∈m.fs,f.1≠n)(hl:m.fs.length<1073741824):
  Calls prog 195 #[ag db,aa n,tO v] w (jA S k T w Z db (m.put n [oU v])):=by
 obtain⟨i0,Q1,Q2,Q3,Q4⟩:=info_parts Tryz.infoV;obtain⟨sv,uv,l,Y,hy,hs⟩:=h;obtain⟨B0,KB⟩:=dR w #[.int .u64 v.1,ae v.2,ah,ae ⟨#[]⟩] 55;have hdl:=hy.c.blk.lt;have Q8:=hy.c.row.lt;have QX:=hy.keep (λb _ hb=>B0.block b hb);have Q9:=lZ hs (λb _ hb=>B0.block b hb);have hS:=sy _ db sv uv l n QX.c (by rw[hs.len];exact hl);have hAl:∀b,Y b->b<w.heap.size:=hy.yl;unfold tO;go_enter func195,ntmps195;go_wp2_with fail;generalize w.alloc (ak #[.int .u64 v.1,ae v.2,ah,ae ⟨#[]⟩] 55)=w0 at*;refine hS.mono ?_;rintro e w1 hR;obtain⟨g,c,pre,x,post,A,B,fp,fq,rfl,O,st,hAY,K⟩:=oV QX Q9 hR
 have QY:=KB.kept K (by
  simp only[aN,cL,not_or]
  exact⟨QD,λe=>by have:=(Q8 _ e).2;omega⟩)
 obtain⟨k1,k2⟩:=QY.rules;obtain⟨⟨x2,x3⟩,hx⟩:=O.ofVals hkd;obtain⟨c0,c1,c2,c3,cf⟩:=O.cells rfl;have QZ:=(O.y.c.row.lt g rfl).2;have hgn:w.heap.size<w1.heap.size:=QY.lt
 have QS:∀(w' w9:an) (src:Option Nat),aj w1 w'->w'.grownBy w9 src->(∀b,src=some b->A b)->w9.heap[g]?=w1.heap[g]?:=λw' w9 src hB hg hs=>
  (hg.block g (aC QZ hB.size) (λe=>O.y.ys g rfl (.inl (hs g e.symm)))).trans (hB.block g QZ)
 have HC:Hid (∀(w' w9:an) (src:Option Nat),aj w1 w'->w'.grownBy w9 src->(∀b,src=some b->A b)->w9.heap[g]?=w1.heap[g]?):=QS
 have HF:Hid (∀(w' w9:an) (src:Option Nat) (gg cap:Nat) (cs:aq),aj w1 w'->w'.grownBy w9 src->(∀b,src=some b->A b)->w9.ownsRow 0 55 4 (.slice (some (ai gg 0)) 1 cap) 1 cs->cs=lI v->(src=some gg\/gg=w1.heap.size+1)->
   jA S k T w Z db (m.put n [oU v]) (.returned (.tuple #[])) (w9.setCell (ai g (pre.length*4+1)) (.slice (some (ai gg 0)) 1 cap))):=by
  intro w' w9 src gg cap cs hB hg hs QV Ra Rb;obtain⟨Z',h1,h2⟩:=O.vals (lv:= [v]) hs QE hB hg QV rfl (by simp[Ra]) (Rb.imp id (λe=>QD)) hok x2 x3;refine⟨rfl,Z',?_,h2⟩;have s0:fi w Z w0 Z:=(fi.refl w Z).below B0;exact(s0.trans st).trans h1
 rcases hx with⟨x1,hg0⟩|⟨gv,cc,lv,hne,x1,Q5,hg1,QQ⟩
 ·rw[x1]at c1;have BB:aj w1 (w1.drew.alloc (ak #[.int .u64 v.1,ae v.2,ah,ae ⟨#[]⟩] 55)):=((Below.refl _ _).drew).alloc (ay _) _;go_upto_region 2 with fail
  go_region_law (first|(refine step_append_lies _ QJ _ _ _ QJ 0 55 i0 _ 4 64 underlying56 Q1 Q2 Q3 Q4 rfl QD (ah) 0 [] QJ (bf _ _ _ _) (ai w1.heap.size 0) 1 1 [_,_,_,_] QJ QJ (br (t:=55) (fr:=(0,0)) (heap_alloc_new w1.drew _)) QL QD QK QD QD (w1.heap.size+1) QE ?_;intro gg cap w9 QR QP QT QW;obtain⟨z0,z1,z2,z3,zf⟩:=O.cells (HC.out _ w9 _ BB QP (λb e=>by cases e))))
  all_goals
   go_end0;exact HF.out _ w9 _ gg cap _ BB QP (λb e=>by cases e) QR rfl QT
 ·rw[x1]at c1;have BB:aj w1 (w1.drew.alloc (ak #[.int .u64 v.1,ae v.2,ah,ae ⟨#[]⟩] 55)):=((Below.refl _ _).drew).alloc (ay _) _
  have hr0:w1.ownsRow 0 55 4 (.slice (some (ai gv 0)) 0 cc) 0 []:=by
   refine⟨rfl,.inr ?_⟩
   rcases QQ.2 with⟨q,_⟩|⟨g',cap,Q0,q,q1,q2,q3,q4,q5,q6⟩
   ·cases q
   ·cases q
    exact⟨gv,cc,Q0,rfl,aM _,q2,aM _,q4,q5,QE⟩
  have hgvl:=(QQ.lt gv rfl).2;go_upto_region 2 with fail
  go_region_law (first|(refine step_append_lies _ QJ _ _ _ QJ 0 55 i0 _ 4 64 underlying56 Q1 Q2 Q3 Q4 rfl QD (.slice (some (ai gv 0)) 0 cc) 0 [] QJ (hr0.drew.alloc _) (ai w1.heap.size 0) 1 1 [_,_,_,_] QJ QJ (br (t:=55) (fr:=(0,0)) (heap_alloc_new w1.drew _)) QL QD QK QD QD (w1.heap.size+1) QE ?_;intro gg cap w9 QR QP QT QW;obtain⟨z0,z1,z2,z3,zf⟩:=O.cells (HC.out _ w9 _ BB QP (λb e=>by cases e;exact Q5))))
  all_goals
   go_end0;exact HF.out _ w9 _ gg cap _ BB QP (λb e=>by cases e;exact Q5) QR rfl QT
end
section
variable {S:d8} {k db:Nat} {T:Option MT} {w:an} {Z:ap} {pre post:List fZ} {ps1 ps2:au}
theorem ed.clip {m:PM}(h:ed S k T w Z db m):ed S k T w (λb=>Z b/\b<w.heap.size) db m:=by
 cases k with
 |zero=>exact h
 |succ k=>
  obtain⟨sv,uv,l,Y,hy,hs⟩:=h;exact⟨sv,uv,l,Y,{hy with zd:=⟨hy.zd,hy.c.blk.lt⟩,zs:=λb hb=>⟨hy.zs b hb,(hy.c.row.lt b hb).2⟩,zu:=λb hb=>⟨hy.zu b hb,(hy.un.lt b hb).2⟩,yz:=λb hb=>⟨hy.yz b hb,hy.yl b hb⟩},hs⟩
def JY (S:d8)(k:Nat)(T:Option MT)(w:an)(Z:ap)(db p:Nat)(C:ap)(T':Option MT)(M:PM->PM):Prop:=
 (∀b,C b->Z b)/\∀(w':an) (C':ap) (m':PM),(∀b,Z b->¬C b->b<w.heap.size->w'.heap[b]?=w.heap[b]?)->w.heap.size<=w'.heap.size->(∀b,C' b->C b\/w.heap.size<=b)->ed S k T' w' C' p m'->ed S (k+1) T w' (λb=>Z b\/C' b) db (M m')
structure zG (S:d8)(k:Nat)(T:Option MT)(w:an)(Z:ap)(db:Nat)(u:am)(n:Int)(pre:List fZ)(x:fZ)(post:List fZ)(sv uv:Value)(A B:ap)(fp fq:List PF)(ps1:au)(p:Nat)(ps2:au)(vs1 vs2:List PV)(C D:ap):Prop where
 y:JX w Z db sv uv u (pre++x::post) (λb=>A b\/B b)
 len:fp.length=pre.length
 sep:jq (gq S (ed S k) w T) B (pre++post) (fp++fq)
 dis:∀b,A b->¬B b
 xn:x.1=n
 c1:x.2.1=ah
 c3:x.2.2.2= .map none
 row:et w A 180 1 x.2.2.1 (ps1++p::ps2).length ((ps1++p::ps2).map qb)
 inC:∀b,C b->A b
 inD:∀b,D b->A b
 own:∀b,x.2.2.1.ownBlock=some b->¬C b/\¬D b
 cd:∀b,C b->¬D b
 vl:vs1.length=ps1.length
 sub:jq (λp v C=>v=mV v.2.2/\ed S k (mX S T n) w C p v.2.2) D (ps1++ps2) (vs1++vs2)
 ok:ny S T n .msgs
 lone:tt T n->(ps1++p::ps2).length=1
 pl:(ps1++p::ps2).length<=1073741824
theorem zG.hole {u:am}{n:Int}{x:fZ}{sv uv:Value}{A B:ap}{fp fq:List PF}{p:Nat}{vs1 vs2:List PV}{C D:ap}
  (h:zG S k T w Z db u n pre x post sv uv A B fp fq ps1 p ps2 vs1 vs2 C D):JY S k T w Z db p C (mX S T n) (λm'=> .mk (fp++(n,vs1++mV m'::vs2)::fq) u):=by
 refine⟨λb hb=>h.y.yz b (.inl (h.inC b hb)),λw' QV m' hk hsz QS QP=> ?_⟩;obtain⟨C',QT,QR,QW,QX⟩:∃C':ap,ed S k (mX S T n) w' C' p m'/\(∀b,C' b->C b\/w.heap.size<=b)/\(∀b,C' b->b<w'.heap.size)/\∀b,C' b->QV b:=⟨_,QP.clip,λb hb=>QS b hb.1,λb hb=>hb.2,λb hb=>hb.1⟩;refine ed.mono (Z:=λb=>Z b\/C' b) ?_ (λb hb=>hb.imp id (QX b));have hA:∀b,b<w.heap.size->C' b->A b:=λb hb hc=>(QR b hc).elim (h.inC b) (λq=>QD)
 have hY:∀b,b<w.heap.size->((A b/\¬C b)\/C' b)\/B b->A b\/B b:=λb hb q=>q.imp (λq=>q.elim (λq=>q.1) (hA b hb)) id
 have QQ:∀b,Z b->b<w.heap.size->¬A b->w'.heap[b]?=w.heap[b]?:=λb hz hb ha=>hk b hz (λq=>ha (h.inC b q)) hb
 have hB:∀b,B b->w'.heap[b]?=w.heap[b]?:=λb hb=>QQ b (h.y.yz b (.inr hb)) (h.y.yl b (.inr hb)) (λq=>h.dis b q hb)
 have hD:∀b,D b->w'.heap[b]?=w.heap[b]?:=λb hb=>hk b (h.y.yz b (.inl (h.inD b hb))) (λq=>h.cd b q hb) (h.y.yl b (.inl (h.inD b hb)))
 have QU:=h.y.c.blk.lt
 refine⟨sv,uv,pre++x::post,λb=>((A b/\¬C b)\/C' b)\/B b,⟨⟨h.y.c.keep (QQ db h.y.zd QU λq=>h.y.yd (.inl q)) (λb hb=>QQ b (h.y.zs b hb) (h.y.c.row.lt b hb).2 λq=>h.y.ys b hb (.inl q)),d7 h.y.un (λb hb=>QQ b (h.y.zu b hb) (h.y.un.lt b hb).2 λq=>h.y.yu b hb (.inl q)),
  .inl h.y.zd,λb hb=> .inl (h.y.zs b hb),λb hb=> .inl (h.y.zu b hb),h.y.su,h.y.ud⟩,?_,?_,λq=>h.y.yd (hY db QU q),λb hb q=>h.y.ys b hb (hY b (h.y.c.row.lt b hb).2 q),λb hb q=>h.y.yu b hb (hY b (h.y.un.lt b hb).2 q)⟩,?_⟩
 ·rintro b ((q|q)|q)
  ·exact .inl (h.y.yz b (.inl q.1))
  ·exact .inr q
  ·exact .inl (h.y.yz b (.inr q))
 ·rintro b ((q|q)|q)
  ·exact aC (h.y.yl b (.inl q.1)) hsz
  ·exact QW b q
  ·exact aC (h.y.yl b (.inr q)) hsz
 ·refine jq.join (A:=λb=>(A b/\¬C b)\/C' b) (B:=B) h.len ?_ ?_ (λb q=> .inl q) (λb q=> .inr q) ?_
  ·refine⟨h.xn,?_⟩;rw[h.xn];refine .inr (.inl ⟨h.ok,ps1++p::ps2,λb=>D b\/C' b,⟨QE,h.lone,h.c1,h.c3,⟨d7 h.row.1 λb hb=>hk b (h.y.yz b (.inl (h.row.2 b hb))) (h.own b hb).1 (h.row.1.lt b hb).2,λb hb=> .inl ⟨h.row.2 b hb,(h.own b hb).1⟩⟩,?_,?_,?_,h.pl⟩⟩)
   ·rintro b (q|q)
    ·exact .inl ⟨h.inD b q,λc=>h.cd b c q⟩
    ·exact .inr q
   ·rintro b hb (q|q)
    ·exact(h.own b hb).2 q
    ·exact(QR b q).elim (h.own b hb).1 (λe=>by have:=(h.row.1.lt b hb).2;omega)
   ·refine jq.join (A:=C') (B:=D) h.vl ⟨rfl,QT⟩ (h.sub.imp λq v E _ _ hE hq=>⟨hq.1,hq.2.keep λb hb _=>hD b (hE b hb)⟩) (λb q=> .inr q) (λb q=> .inl q) ?_;intro b hc hd;exact(QR b hc).elim (λc=>h.cd b c hd) (λe=>by have:=h.y.yl b (.inl (h.inD b hd));omega)
  ·exact h.sep.imp λy f E _ _ hE hs=>hs.keep (λ_ _ _ _ hF hr=>hr.keep λb hb _=>hB b (hE b (hF b hb))) (λb hb _=>hB b (hE b hb))
  ·rintro b (q|q) hb
   ·exact h.dis b q.1 hb
   ·exact(QR b q).elim (λc=>h.dis b (h.inC b c) hb) (λe=>by have:=h.y.yl b (.inr hb);omega)
end
section
variable {S:d8} {k db g:Nat} {T:Option MT} {w w1:an} {m:PM} {n:Int} {Z1:ap} {pre post:List fZ} {x:fZ} {uv:Value}
attribute [local go_sem↓] Go.wp_at_zero Go.wp_at_succ
theorem ed.fresh {b:Nat}(h:dK w b #[ah,ah] 183):ed S (k+1) T w (λx=>x=b) b PM.none:=
 ⟨ah,ah,[],λ_=>False,⟨⟨⟨h,bf _ _ _ _,QE,List.Pairwise.nil,by simp[Value.ownBlock],QE⟩,bf _ _ _ _,rfl,by simp[Value.ownBlock],by simp[Value.ownBlock],by simp[Value.ownBlock],by simp[Value.ownBlock]⟩,λ_ q=>q.elim,λ_ q=>q.elim,λq=>q,λ_ _ q=>q,λ_ _ q=>q⟩,trivial⟩
def Da (S:d8)(k:Nat)(T:Option MT)(w:an)(Z:ap)(db:Nat)(m:PM)(n:Int):Prop:=
 ∃sv uv l,Bo w db sv uv l/\l.length<1073741824/\∀w0 e w1,aj w w0->ur w0 db sv uv l n e w1->
  ∃g c pre x post A B fp fq,e= .returned (.pointer (some (ai g (pre.length*4))))/\uw S k T w1 (λb=>Z b\/b=g) db m n g pre x post (.slice (some (ai g 0)) (pre++x::post).length c) uv A B fp fq/\fi w0 Z w1 (λb=>Z b\/b=g)/\(∀b,A b->b<w.heap.size)/\dS (db::sv.ownBlock.toList) w0 w1/\(sv.ownBlock=some g\/w0.heap.size<=g)
theorem ed.slot {Z:ap}(h:ed S (k+1) T w Z db m)(hl:m.fs.length<1073741824):Da S k T w Z db m n:=by
 obtain⟨sv,uv,l,Y,hy,hs⟩:=h;refine⟨sv,uv,l,hy.c,by rw[hs.len];exact hl,λw0 e w1 hb hR=> ?_⟩;obtain⟨g,c,pre,x,post,A,B,fp,fq,h1,O,st,RC,K⟩:=oV (hy.keep λb _ q=>hb.block b q) (lZ hs λb _ q=>hb.block b q) hR
 have hg:sv.ownBlock=some g\/w0.heap.size<=g:=by
  obtain⟨g',_,pre',_,_,rfl,_,_,_,_,hg⟩:=hR;simp only[Ending.returned.injEq,Value.pointer.injEq,Option.some.injEq,Addr.mk.injEq]at h1;rw[<-h1.1];exact hg
 exact⟨g,c,pre,x,post,A,B,fp,fq,h1,O,st,λb q=>hy.yl b (RC b q),K,hg⟩
theorem uw.ofMsgs {sv:Value}{A B:ap}{fp fq:List PF}
  (h:uw S k T w1 Z1 db m n g pre x post sv uv A B fp fq) (hkd:∀kd,ny S T n kd->kd= .msgs):
  (x.2.1=ah/\x.2.2.2= .map none)/\∃ps D,et w1 A 180 1 x.2.2.1 ps.length (ps.map qb)/\(∀b,D b->A b)/\(∀b,x.2.2.1.ownBlock=some b->¬D b)/\jq (λp v C=>v=mV v.2.2/\ed S k (mX S T n) w1 C p v.2.2) D ps (m.get n)/\(tt T n->ps.length<=1)/\(ps= []->x=(n,ah,ah,.map none)):=by
 rcases h.was with⟨old,e,hs⟩|⟨e,rfl,hA⟩
 ·obtain⟨h1,h2⟩:=hs
  have Rs:m.get n=old:=by
   unfold PM.get;rw[e];exact pN n old fq fp h.lo
  rw[h.xn]at h2
  rcases h2 with⟨q,_⟩|⟨_,ps,B,hv⟩|⟨t,q,_⟩
  ·exact absurd (hkd _ q) QE
  ·exact⟨⟨hv.c1,hv.c3⟩,ps,B,hv.row,hv.inA,hv.own,by rw[Rs];exact hv.sub,λq=>by rw[hv.lone q];exact ay _,λq=>absurd q hv.ne⟩
  ·exact absurd (hkd _ q) QE
 ·refine⟨⟨rfl,rfl⟩,[],λ_=>False,et.nil _ _ _ _,λ_ q=>q.elim,λ_ _ q=>q,?_,λ_=>QE,λ_=>rfl⟩
  have:m.get n= []:=by
   unfold PM.get;rw[e];refine mJ n _ λf hf=> ?_
   rcases aV.1 hf with hf|hf
   ·have:=h.lo f hf;omega
   ·have:=h.hi f hf;omega
  rw[this];trivial
def qs (S:d8)(k:Nat)(T:Option MT)(w:an)(Z:ap)(db:Nat)(T':Option MT)(m0:PM)(M:PM->PM)(e:Ending)(w':an):Prop:=
 ∃p Z' C,e= .returned (ag p)/\fi w Z w' Z'/\ed S k T' w' C p m0/\JY S k T w' Z' db p C T' M/\∀b,C b->b<w'.heap.size
theorem uw.addMsg {c:Nat}{A B:ap}{fp fq:List PF}
  (h:uw S (k+1) T w1 Z1 db m n g pre x post (.slice (some (ai g 0)) (pre++x::post).length c) uv A B fp fq) {w' w9:an} {gg cap N wb:Nat} {ps:au} {D:ap} {cs:aq}
  (x1:x.2.1=ah) (x3:x.2.2.2= .map none) (QP:et w1 A 180 1 x.2.2.1 ps.length (ps.map qb)) (Q0:∀b,D b->A b) (Q8:∀b,x.2.2.1.ownBlock=some b->¬D b) (QQ:jq (λp v C=>v=mV v.2.2/\ed S (k+1) (mX S T n) w1 C p v.2.2) D ps (m.get n))
  (hB:aj w1 w') (hgrow:w'.grownBy w9 x.2.2.1.ownBlock) (QR:w9.ownsRow 0 180 1 (.slice (some (ai gg 0)) N cap) N cs) (hN:N=ps.length+1) (Rl:cs=ps.map qb++ [qb wb]) (QX:x.2.2.1.ownBlock=some gg\/w1.heap.size<=gg)
  (Kb:dK w1 wb #[ah,ah] 183) (hwZ:¬Z1 wb) (hok:ny S T n .msgs) (hln:tt T n->ps.length=0) (Rq:ps.length<1073741824):
  fi w1 Z1 (w9.setCell (ai g (pre.length*4+2)) (.slice (some (ai gg 0)) N cap)) (λb=>Z1 b\/b=gg)/\ed S (k+1) (mX S T n) (w9.setCell (ai g (pre.length*4+2)) (.slice (some (ai gg 0)) N cap)) (λb=>b=wb) wb PM.none/\
   JY S (k+1) T (w9.setCell (ai g (pre.length*4+2)) (.slice (some (ai gg 0)) N cap)) (λb=>(Z1 b\/b=gg)\/b=wb) db wb (λb=>b=wb) (mX S T n) (λm'=>m.put n (m.get n++ [mV m'])):=by
 subst hN Rl;have Q1:=(h.y.c.row.lt g h.own).2;have Rb:=h.y.c.blk.lt;have QV:∀b,b<w1.heap.size->x.2.2.1.ownBlock≠some b->w9.heap[b]?=w1.heap[b]?:=λb hb ha=>(hgrow.block b (aC hb hB.size) (λe=>ha e.symm)).trans (hB.block b hb)
 have Rc:∀b,b<w1.heap.size->¬A b->w9.heap[b]?=w1.heap[b]?:=λb hb ha=>QV b hb (λe=>ha (QP.2 b e))
 have Re:¬A g:=λha=>h.y.ys g h.own (.inl ha)
 have Rn:¬A db:=λha=>h.y.yd (.inl ha)
 have Q2:gg<w9.heap.size:=(QR.lt gg rfl).2;have QT:gg<w1.heap.size->A gg:=λq=>QX.elim (QP.2 gg) (λe=>QD)
 have Rf:gg≠g:=λe=>Re (e▸QT (e▸Q1))
 have Rt:=Kb.lt;have Ru:wb≠g:=λe=>hwZ (by rw[e];exact h.y.zs g h.own)
 have Rg:¬A wb:=λq=>hwZ (h.y.yz wb (.inl q))
 have QY:∀b,b≠g->(w9.setCell (ai g (pre.length*4+2)) (.slice (some (ai gg 0)) (ps.length+1) cap)).heap[b]?=w9.heap[b]?:=λb q=>by rw[dJ,dA (λe=>q e.symm)]
 have Rw:=h.y.c.keep (w':=w9) (Rc db Rb Rn) (λb hb=>by
  have:g=b:=by simpa [Value.ownBlock]using hb
  subst this
  exact Rc _ Q1 Re)
 have Rh:=Rw.put (j:=2) QD (v:= .slice (some (ai gg 0)) (ps.length+1) cap) (x':=(x.1,ah,.slice (some (ai gg 0)) (ps.length+1) cap,.map none)) rfl ⟨⟨_,_,_,rfl⟩,⟨_,_,_,rfl⟩,_,rfl⟩ (by simp[dY,x1,x3]);have hsz:w1.heap.size<=(w9.setCell (ai g (pre.length*4+2)) (.slice (some (ai gg 0)) (ps.length+1) cap)).heap.size:=by simpa using aH hB.size hgrow.size
 have Ri:(w9.setCell (ai g (pre.length*4+2)) (.slice (some (ai gg 0)) (ps.length+1) cap)).heap.size=w9.heap.size:=QE;have QZ:(w9.setCell (ai g (pre.length*4+2)) (.slice (some (ai gg 0)) (ps.length+1) cap)).ownsRow 0 180 1 (.slice (some (ai gg 0)) (ps.length+1) cap) (ps.length+1) (ps.map qb++ [qb wb]):=d7 QR λb hb=>QY b (λe=>Rf ((show gg=b by simpa [Value.ownBlock]using hb).trans e))
 have QU:∀b,b<w1.heap.size->b≠g->¬A b->(w9.setCell (ai g (pre.length*4+2)) (.slice (some (ai gg 0)) (ps.length+1) cap)).heap[b]?=w1.heap[b]?:=λb hb q ha=>(QY b q).trans (Rc b hb ha)
 have Rx:∀b,D b->(w9.setCell (ai g (pre.length*4+2)) (.slice (some (ai gg 0)) (ps.length+1) cap)).heap[b]?=w1.heap[b]?:=λb hb=>by
  have hA:=Q0 b hb;have hl:=h.y.yl b (.inl hA);exact(QY b (λe=>Re (e▸hA))).trans (QV b hl (λe=>Q8 b e hb))
 have Rj:=(QU wb Rt Ru Rg).trans Kb;have Ry:=hgrow.os.trans hB.os;have Rz:=hgrow.tape.trans hB.tape;have RA:=hgrow.output.trans hB.output;clear QR hgrow hB;have Q3:(w9.setCell (ai g (pre.length*4+2)) (.slice (some (ai gg 0)) (ps.length+1) cap)).os=w1.os:=Ry;have Q4:(w9.setCell (ai g (pre.length*4+2)) (.slice (some (ai gg 0)) (ps.length+1) cap)).tape=w1.tape:=Rz;have Q5:(w9.setCell (ai g (pre.length*4+2)) (.slice (some (ai gg 0)) (ps.length+1) cap)).output=w1.output:=RA;rw[<-Ri]at Q2;generalize w9.setCell (ai g (pre.length*4+2)) (.slice (some (ai gg 0)) (ps.length+1) cap)=w10 at*;refine⟨⟨Q3,Q4,Q5,hsz,λb hb hz=>QU b hb (λe=>hz (e▸h.y.zs g h.own)) (λha=>hz (h.y.yz b (.inl ha))),?_⟩,ed.fresh Rj,?_⟩
 ·rintro b (hb|rfl)
  ·exact .inl hb
  ·by_cases q:b<w1.heap.size
   ·exact .inl (h.y.yz b (.inl (QT q)))
   ·exact .inr QD
 ·have hM:(λm'=>m.put n (m.get n++ [mV m']))=λm'=>PM.mk (fp++(n,m.get n++mV m':: [])::fq) m.unk:=funext λm'=>h.put QE
  rw[hM];have Q7:∀b,(A b\/b=gg)\/b=wb->b<w1.heap.size->A b\/b=wb:=λb q hb=>q.imp (λq=>q.elim id (λe=>e▸QT (e▸hb))) id
  refine zG.hole (pre:=pre) (x:=(x.1,ah,.slice (some (ai gg 0)) (ps.length+1) cap,.map none)) (post:=post) (sv:= .slice (some (ai g 0)) (pre++x::post).length c) (uv:=uv) (A:=λb=>(A b\/b=gg)\/b=wb) (B:=B) (ps1:=ps) (ps2:= []) (D:=D)
   ⟨⟨⟨Rh,?_,.inl (.inl h.y.zd),λb hb=> .inl (.inl (h.y.zs b hb)),λb hb=> .inl (.inl (h.y.zu b hb)),h.y.su,h.y.ud⟩,?_,?_,?_,?_,?_⟩,h.len,?_,?_,h.xn,rfl,rfl,⟨?_,?_⟩,λb q=> .inr q,λb q=> .inl (.inl (Q0 b q)),?_,?_,QQ.len.symm,?_,hok,?_,QF⟩
  ·exact d7 h.y.un λb hb=>QU b (h.y.un.lt b hb).2 (λe=>h.y.su g h.own (e▸hb)) (λha=>h.y.yu b hb (.inl ha))
  ·rintro b (((hb|hb)|hb)|hb)
   ·exact .inl (.inl (h.y.yz b (.inl hb)))
   ·exact .inl (.inr hb)
   ·exact .inr hb
   ·exact .inl (.inl (h.y.yz b (.inr hb)))
  ·rintro b (((hb|rfl)|rfl)|hb)
   ·exact aC (h.y.yl b (.inl hb)) hsz
   ·exact Q2
   ·omega
   ·exact aC (h.y.yl b (.inr hb)) hsz
  ·rintro(hb|hb)
   ·rcases Q7 db hb Rb with q|q
    ·exact Rn q
    ·exact hwZ (q▸h.y.zd)
   ·exact h.y.yd (.inr hb)
  ·rintro b hs (hb|hb)
   ·rcases Q7 b hb (h.y.c.row.lt b hs).2 with q|q
    ·exact h.y.ys b hs (.inl q)
    ·exact hwZ (q▸h.y.zs b hs)
   ·exact h.y.ys b hs (.inr hb)
  ·rintro b hs (hb|hb)
   ·rcases Q7 b hb (h.y.un.lt b hs).2 with q|q
    ·exact h.y.yu b hs (.inl q)
    ·exact hwZ (q▸h.y.zu b hs)
   ·exact h.y.yu b hs (.inr hb)
  ·have Ro:∀b,B b->w10.heap[b]?=w1.heap[b]?:=λb hb=>QU b (h.y.yl b (.inr hb)) (λe=>h.y.ys g h.own (.inr (e▸hb))) (λha=>h.dis b ha hb)
   exact h.sep.imp λy f C _ _ hC hs=>hs.keep (λ_ _ _ _ hD hr=>hr.keep λb hb _=>Ro b (hC b (hD b hb))) (λb hb _=>Ro b (hC b hb))
  ·intro b q hb
   rcases Q7 b q (h.y.yl b (.inr hb))with q|q
   ·exact h.dis b q hb
   ·exact hwZ (q▸h.y.yz b (.inr hb))
  ·simpa using QZ
  ·intro b hb;have:gg=b:=by simpa [Value.ownBlock]using hb
   exact .inl (.inr this.symm)
  ·intro b hb;have e:gg=b:=by simpa [Value.ownBlock]using hb
   subst e;refine⟨λq=>Rg (q▸QT QD),λq=> ?_⟩
   rcases QX with QX|QX
   ·exact Q8 gg QX q
   ·have:=h.y.yl gg (.inl (Q0 gg q));omega
  ·rintro b rfl q;exact Rg (Q0 b q)
  ·rw[bK,bK];exact QQ.imp λp v C _ _ hC hp=>⟨hp.1,hp.2.keep λb hb _=>Rx b (hC b hb)⟩
  ·intro q;have:=hln q;simp[this]
theorem Mw:(prog.info? 180).map (λi=>(i.zero,i.size,i.bytes))=some (some (.pointer none),1,8):=QI
theorem mY (S:d8)(k:Nat)(T:Option MT)(w:an)(Z:ap)(db:Nat)(m:PM)(n:Int)(h:Da S (k+1) T w Z db m n)(hok:ny S T n .msgs)(hkd:∀kd,ny S T n kd->kd= .msgs)(hln:tt T n->m.get n= [])(hvl:(m.get n).length<1073741824)(hZ:¬Z w.heap.size):
  Calls prog 190 #[ag db,aa n] w (qs S (k+1) T w Z db (mX S T n) PM.none (λm'=>m.put n (m.get n++ [mV m']))):=by
 obtain⟨i0,RD,RE,RF,RG⟩:=info_parts Mw;obtain⟨sv,uv,l,hc,hl,hR⟩:=h;obtain⟨B0,KB⟩:=dR w #[ah,ah] 183;have hS:=sy _ db sv uv l n (hc.below B0) hl;have Rb:=hc.blk.lt;have Rp:=hc.row.lt;go_enter func190,ntmps190;go_wp2_with fail;generalize w.alloc (ak #[ah,ah] 183)=w0 at*;refine hS.mono ?_;rintro e w1 Rr;obtain⟨g,c,pre,x,post,A,B,fp,fq,rfl,O,st,hAl,K,hg⟩:=hR w0 _ w1 B0 Rr;clear Rr hR hS;have hw0:=KB.lt
 have RB:=KB.kept K (by
  simp only[aN,cL,not_or]
  exact⟨QD,λe=>by have:=(Rp _ e).2;omega⟩)
 obtain⟨⟨x1,x3⟩,ps,D,QP,Q0,Q8,QQ,hlo,_⟩:=O.ofMsgs hkd;obtain⟨c0,c1,c2,c3,cf⟩:=O.cells rfl;obtain⟨xa,xn,xc,Q9⟩:=dL QP.1;have Rq:ps.length<1073741824:=by have:=QQ.len;omega
 have QW:=QP.1;rw[Q9]at c2 QW;have Rk:tt T n->ps.length=0:=λq=>by rw[QQ.len,hln q];rfl
 have HF:Hid (∀(w' w9:an) (gg cap N:Nat) (cs:aq),aj w1 w'->w'.grownBy w9 (Value.slice xa xn xc).ownBlock->w9.ownsRow 0 180 1 (.slice (some (ai gg 0)) N cap) N cs->N=ps.length+1->cs=ps.map qb++ [qb w.heap.size]->((Value.slice xa xn xc).ownBlock=some gg\/w1.heap.size<=gg)->
   qs S (k+1) T w Z db (mX S T n) PM.none (λm'=>m.put n (m.get n++ [mV m'])) (.returned (ag w.heap.size)) (w9.setCell (ai g (pre.length*4+2)) (.slice (some (ai gg 0)) N cap))):=by
  intro w' w9 gg cap N cs hB Ra QR hN Rl QX;rw[<-Q9]at Ra QX
  obtain⟨h1,h2,h3⟩:=O.addMsg x1 x3 QP Q0 Q8 QQ hB Ra QR hN Rl QX RB (by
   rintro(q|q)
   ·exact hZ q
   ·rcases hg with hg|hg
    ·have:=(Rp _ hg).2;omega
    ·omega) hok Rk Rq
  refine⟨_,_,_,rfl,?_,h2,h3,λb q=>by rw[q];exact h2.lt.1⟩;have s0:fi w Z w0 Z:=(fi.refl w Z).below B0;have s1:=(s0.trans st).trans h1;exact⟨s1.os,s1.tape,s1.output,s1.size,s1.block,λb hb=>hb.elim (s1.grow b) (λe=> .inr QD)⟩
 have HC:Hid (∀(w' w9:an),aj w1 w'->w'.grownBy w9 (Value.slice xa xn xc).ownBlock->w9.heap[g]?=w1.heap[g]?):=λw' w9 hB Ra=>by
  have Q1:=(O.y.c.row.lt g rfl).2;exact(Ra.block g (aC Q1 hB.size) (λe=>O.y.ys g rfl (.inl (QP.2 g (by rw[Q9];exact e.symm))))).trans (hB.block g Q1)
 have BB:aj w1 (w1.alloc (ak #[ag w.heap.size] 180)):=(Below.refl _ _).alloc (ay _) _;clear c0 c1 c3 x1 x3 Q9 QP hkd;go_wp2_with (at_builtin;refine wpList_append_lies _ rfl _ _ 245 rfl 0 180 i0 _ 1 8 underlying245 RD RE RF RG rfl QD (.slice xa xn xc) ps.length (ps.map qb) rfl (QW.alloc _) (ai w1.heap.size 0) 1 1 [_] rfl rfl (br (t:=180) (fr:=(0,0)) (heap_alloc_new w1 _)) QL QD QK QD QD _ rfl ?_;intro gg cap w9 Q6 QS Rm hlt9;obtain⟨z0,z1,z2,z3,zf⟩:=O.cells (HC.out _ w9 BB QS))
 go_ret;exact HF.out _ w9 gg cap _ _ BB QS Q6 rfl rfl (Rm.imp id (λe=>by rw[e];exact BB.size))
end
section
attribute [local go_sem↓] Go.wp_at_zero Go.wp_at_succ
def vx:∀{pre QS post QP:List fZ} {x x':fZ},(pre++x::post).Pairwise (λa b=>a.1<b.1)->pre++x::post=QS++x'::QP->x.1=x'.1->pre=QS/\x=x'/\post=QP
 | [],[],_,_,_,_,_,e,_=>by
  simp only[aR,List.cons.injEq]at e;exact⟨rfl,e⟩
 | [],y::p,_,_,_,x',hs,e,hx=>by
  simp only[aR,bi,List.cons.injEq]at e hs;rw[ba]at hs;have:=hs.1 x' (by rw[e.2];simp);omega
 |y::p,[],_,_,x,_,hs,e,hx=>by
  simp only[aR,bi,List.cons.injEq]at e hs;rw[ba]at hs;have:=hs.1 x QE;rw[e.1]at this;omega
 |y::p,z::q,_,_,_,_,hs,e,hx=>by
  simp only[bi,List.cons.injEq]at e hs;rw[ba]at hs;obtain⟨h1,h2,h3⟩:=vx hs.2 e.2 hx;exact⟨by rw[e.1,h1],h2,h3⟩
def uw.again {S:d8}{k:Nat}{T:Option MT}{w1:an}{Z1:ap}{db:Nat}{m:PM}{n:Int}{g c:Nat}{pre:List fZ}{x:fZ}{post:List fZ}{uv:Value}{A B:ap}{fp fq:List PF}
  (h:uw S k T w1 Z1 db m n g pre x post (.slice (some (ai g 0)) (pre++x::post).length c) uv A B fp fq) (hl:(pre++x::post).length<1073741824):Da S k T w1 Z1 db m n:=by
 refine⟨_,uv,_,h.y.c,hl,λw0 e w2 hb hR=> ?_⟩;obtain⟨g',c',QS,x',QP,rfl,hc,hx,hw,hk,hg⟩:=hR
 rcases hw with⟨e1,e2⟩|⟨e1,_⟩
 ·obtain⟨rfl,rfl,rfl⟩:=vx h.y.c.srt e1 (h.xn.trans hx.symm);simp only[Value.slice.injEq,Option.some.injEq,Addr.mk.injEq]at e2;obtain⟨⟨rfl,_⟩,_,rfl⟩:=e2;have hK:∀b,b<w1.heap.size->b≠db->b≠g->w2.heap[b]?=w1.heap[b]?:=λb hl h1 h2=>(hk.block b (aC hl hb.size) (by simp[Value.ownBlock,h1,h2])).trans (hb.block b hl)
  have QX:∀b,A b\/B b->w2.heap[b]?=w1.heap[b]?:=λb q=>hK b (h.y.yl b q) (λe=>h.y.yd (e▸q)) (λe=>h.y.ys g rfl (e▸q))
  have QY:∀{y:fZ} {f:PF} {C:ap},(∀b,C b->A b\/B b)->gq S (ed S k) w1 T y f C->gq S (ed S k) w2 T y f C:=λhC hh=>hh.keep (λ_ _ _ _ hD hr=>hr.keep λb q _=>QX b (hC b (hD b q))) (λb q _=>QX b (hC b q))
  refine⟨g,c,pre,x,post,A,B,fp,fq,rfl,⟨rfl,⟨⟨hc,d7 h.y.un λb q=>hK b (h.y.un.lt b q).2 (λe=>h.y.ud (e▸q)) (λe=>h.y.su g rfl (e▸q)),.inl h.y.zd,λb q=> .inl (h.y.zs b q),λb q=> .inl (h.y.zu b q),h.y.su,h.y.ud⟩,
   λb q=> .inl (h.y.yz b q),λb q=>aC (h.y.yl b q) (aH hb.size hk.size),h.y.yd,h.y.ys,h.y.yu⟩,h.len,h.sep.imp λy f C _ _ hC hs=>QY (λb q=> .inr (hC b q)) hs,h.dis,h.xn,h.lo,h.hi,?_⟩,?_,λb q=>h.y.yl b (.inl q),hk,hg⟩
  ·exact h.was.imp (λ⟨old,q1,q2⟩=>⟨old,q1,QY (λb q=> .inl q) q2⟩) id
  ·refine⟨hk.os,hk.tape,hk.output,hk.size,λb hl hz=>hk.block b hl ?_,λb q=> .inl (q.elim id λe=>e▸h.y.zs g rfl)⟩;simp only[aN,Value.ownBlock,Option.toList_some,bF,or_false,not_or];exact⟨λe=>hz (e▸h.y.zd),λe=>hz (e▸h.y.zs g rfl)⟩
 ·have hs:=hc.srt;rw[bS,ba]at hs;have hm:x∈QS++QP:=by rw[<-e1];simp
  have hn:=h.xn
  rcases aV.1 hm with q|q
  ·have:=hs.2.2 x q x' QE;omega
  ·have:=hs.2.1.1 x q;omega
def vy (S:d8)(k:Nat)(T:Option MT)(w:an)(Z:ap)(db:Nat)(m:PM)(n:Int)(h:ed S (k+1+1) T w Z db m)(hok:ny S T n .msgs)(hkd:∀kd,ny S T n kd->kd= .msgs)(hln:tt T n)(hl:m.fs.length<1073741823)(hZ:∀b,Z b->b<w.heap.size):
  Calls prog 191 #[ag db,aa n] w (qs S (k+1) T w Z db (mX S T n) ((m.get n).headD PV.none).2.2 (λm'=>m.put n [mV m'])):=by
 obtain⟨sv,uv,l,hc,Q3,hR⟩:=h.slot (n:=n) QD;have hS:=sy w db sv uv l n hc Q3;go_enter func191,ntmps191;go_wp2_with fail;refine hS.mono ?_;rintro e w1 Q0;obtain⟨g,c,pre,x,post,A,B,fp,fq,rfl,O,st,hAl,K,hg⟩:=hR w _ w1 (Below.refl _ _) Q0;clear Q0 hR hS;obtain⟨⟨x1,x3⟩,ps,D,QR,Q1,Q4,QT,Q5,QW⟩:=O.ofMsgs hkd;obtain⟨c0,c1,c2,c3,cf⟩:=O.cells rfl;have QZ:=Q5 hln;have hgl:=(O.y.c.row.lt g rfl).2
 rcases ps with _|⟨p,ps⟩
 ·have hx:=QW rfl;have QV:m.get n= []:=bA QT.len.symm
  have hlen:(pre++x::post).length<1073741824:=by
   have h1:=O.len;have h2:=O.sep.len
   rcases O.was with⟨_,e,_⟩|⟨e,_⟩
   ·have:=dF List.length e;simp at this h2⊢;omega
   ·have:=dF List.length e;simp at this h2⊢;omega
  have hA:=mY S k T w1 (λb=>Z b\/b=g) db m n (O.again hlen) hok hkd (λ_=>QV) (by rw[QV];simp) (by
   rintro(q|q)
   ·have:=hZ _ q;have:=st.size;omega
   ·omega)
  rw[hx]at c2
  have HM:Hid (∀e w',qs S (k+1) T w1 (λb=>Z b\/b=g) db (mX S T n) PM.none (λm'=>m.put n (m.get n++ [mV m'])) e w'->(∃p,e= .returned (ag p)/\qs S (k+1) T w Z db (mX S T n) ((m.get n).headD PV.none).2.2 (λm'=>m.put n [mV m']) e w')):=by
   rintro e w' ⟨p,Z',C,rfl,q2,q3,q4,q5⟩;rw[QV]at q4⊢;exact⟨p,rfl,p,Z',C,rfl,st.trans q2,q3,q4,q5⟩
  clear c0 c1 c3 x1 x3 hx QR hkd QW QV;go_wp2_with fail;refine hA.mono ?_;rintro e w2 hq;obtain⟨p,rfl,Q6⟩:=HM.out _ _ hq;clear hq;go_wp2;go_ret;exact Q6
 ·obtain rfl:ps= []:=by simp at QZ;exact QZ
  obtain⟨v,hv⟩:∃v,m.get n= [v]:=by
   have:=QT.len
   match hm:m.get n,this with
   | [v],_=>exact⟨v,rfl⟩
  rw[hv]at QT;obtain⟨C,D',⟨hv1,Q7⟩,_,hC,_,_⟩:=QT
  have HM:Hid (qs S (k+1) T w Z db (mX S T n) ((m.get n).headD PV.none).2.2 (λm'=>m.put n [mV m']) (.returned (ag p)) w1):=by
   rw[hv];refine⟨p,_,C,rfl,st,Q7,?_,λb q=>O.y.yl b (.inl (Q1 b (hC b q)))⟩;have hM:(λm'=>m.put n [mV m'])=λm'=>PM.mk (fp++(n,[]++mV m':: [])::fq) m.unk:=funext λm'=>O.put QE
   rw[hM];exact zG.hole (ps1:= []) (ps2:= []) (D:=λ_=>False) ⟨O.y,O.len,O.sep,O.dis,O.xn,x1,x3,QR,λb q=>Q1 b (hC b q),λ_ q=>q.elim,λb q=>⟨λq2=>Q4 b q (hC b q2),λq=>q⟩,λ_ _ q=>q,rfl,trivial,hok,λ_=>rfl,QE⟩
  obtain⟨xa,xn,xc,Q2⟩:=dL QR.1;have QQ:=QR.1;rw[Q2]at c2 QQ;obtain⟨r,rfl,_,hr,QU⟩:=eh QQ QE;have p0:w1.cell? (ai r 0)=some (ag p):=QU w1 rfl 0 _ rfl
  obtain rfl:xn=1:=by
   rcases QQ.2 with⟨q,_⟩|⟨_,_,_,q,_⟩
   ·cases q
   ·injection q
  clear c0 c1 c3 x1 x3 Q2 QR hkd QW QU;go_wp2;go_ret;exact HM.out
def JZ (w:an)(v:Value)(ns:List Int)(t:Int)(hrow:w.ownsRow 0 3 1 v ns.length (fV ns))(hl:ns.length<=1073741824):
  Calls prog 322 #[v,aa t] w λe w'=>(∃r:Int,e= .returned (aa r)/\decide (0<=r)=decide (t∈ns))/\w'=w:=by
 obtain⟨a,c,rfl⟩:=iW hrow
 have HG:Hid (∀(i:Nat) (x:Int),ns[i]?=some x->∃g,a=some (ai g 0)/\w.cell? (ai g i)=some (aa x)):=λi x hx=>by
  have hi:=gl hx;obtain⟨g,rfl,_,hgl,QQ⟩:=eh hrow QD;exact⟨g,rfl,QQ w rfl i _ (by unfold fV;rw[aO,hx];rfl)⟩
 clear hrow;go_enter func322,ntmps322;go_wp2;go_loopw [8] (λiv wr=>∃(i:Nat),i<=ns.length/\iv=aa i/\Hid (∀(k:Nat) (x:Int),ns[k]?=some x->k<i->x≠t)/\wr=w) (λiv _=>((ns.length:Int)-(intOf iv)).toNat)
 case atStart=>exact⟨0,aM _,rfl,(λk x _ h=>QD),rfl⟩
 case round=>
  obtain⟨i,hil,rfl,H1,rfl⟩:=hrel
  by_cases hlt:i<ns.length
  ·obtain⟨x,hx⟩:=gx hlt;obtain⟨g,rfl,hgc⟩:=HG.out i x hx;have HX:Hid (ns[i]?=some x):=hx;have hw1:IntKind.i64.wrap ((i:Int)+1)=(i:Int)+1:=by rw[IntKind.wrap_i64];omega
   by_cases hxt:t=x
   ·subst hxt;clear hx HG;go_wp2;go_ret;refine⟨⟨i,rfl,?_⟩,rfl⟩;have:t∈ns:=aI HX.out;simp[this]
   ·have hd:(t==x)=false:=by simpa using hxt
    have QR:Hid (t≠x):=hxt;clear hx HG hxt;go_wp2;go_roundw
    case rel=>exact⟨i+1,QD,rfl,(λk y hy hk=>by
     by_cases e:k=i
     ·subst e;rw[HX.out]at hy;obtain rfl:=Option.some.inj hy;exact λe=>QR.out e.symm
     ·exact H1.out k y hy QD),trivial⟩
    case measure=>simp[intOf];omega
  ·obtain rfl:i=ns.length:=QD;clear HG;go_wp2;go_ret;refine⟨⟨-1,rfl,?_⟩,rfl⟩
   have:t∉ns:=λh=>by
    obtain⟨k,hk⟩:=bT.1 h;have QS:=gl hk;exact H1.out k t hk QS rfl
   simp[this]
def vz (w:an)(v:Value)(ns:List Int)(t:Int)(hrow:w.ownsRow 0 3 1 v ns.length (fV ns))(hl:ns.length<=1073741824):
  Calls prog 238 #[v,aa t] w λe w'=>e= .returned (.bool (decide (t∈ns)))/\w'=w:=by
 have hI:=JZ w v ns t hrow hl;generalize decide (t∈ns)=q at hI⊢;go_enter func238,ntmps238;go_wp2_with fail;refine hI.mono ?_;rintro e w' ⟨⟨r,rfl,rfl⟩,rfl⟩;go_wp2;go_ret;exact⟨rfl,rfl⟩
def vA (nb:Nat):Value:= .func (.func 264) #[] #[ag nb]
def G6 (w:an)(nb:Nat)(nv:Value)(ns:List Int)(x:fZ)(hb:dK w nb #[nv] 35)(hrow:w.ownsRow 0 3 1 nv ns.length (fV ns))(hl:ns.length<=1073741824):
  Calls prog 264 #[.agg #[aa x.1,x.2.1,x.2.2.1,x.2.2.2],ag nb] w λe w'=>e= .returned (.bool (decide (x.1∈ns)))/\aj w w':=by
 have QT:=hb.alloc (ak #[aa x.1,x.2.1,x.2.2.1,x.2.2.2] 249);have QP:=hrow.alloc (ak #[aa x.1,x.2.1,x.2.2.1,x.2.2.2] 249);have hC:=vz _ nv ns x.1 QP hl;obtain⟨k1,k2⟩:=QT.rules;obtain⟨a,n,c,rfl⟩:=dL hrow;have B0:aj w (w.alloc (ak #[aa x.1,x.2.1,x.2.2.1,x.2.2.2] 249)):=(Below.refl w.heap.size w).alloc (ay _) _;generalize decide (x.1∈ns)=q at hC⊢;go_enter func264,ntmps264;go_wp2_with fail;refine hC.mono ?_;rintro e w' ⟨rfl,rfl⟩;go_wp2;go_ret;exact⟨rfl,B0⟩
end
end Go.Proofs.YtfebdimolnobaaaGreatDoor
