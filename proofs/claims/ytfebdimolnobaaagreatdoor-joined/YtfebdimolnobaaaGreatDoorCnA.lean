import Derived.Test.YtfebdimolnobaaaGreatDoorKsA
import Derived.Test.YtfebdimolnobaaaGreatDoorPlE
set_option maxRecDepth 100000
set_option maxHeartbeats 8000000
set_option linter.all false
namespace Go.Proofs.YtfebdimolnobaaaGreatDoor
open Go.RowKit Go.Proofs.Tryz
def nh:Nat->PM->Nat
 |0,_=>0
 |k+1,m=>1+(m.fs.map λf=>1+(f.2.map λv=>nh k v.2.2).sum).sum
def re (k:Nat)(l:List PV):Nat:=(l.map λv=>nh k v.2.2).sum
def Ct (k:Nat)(fs:List PF):Nat:=(fs.map λf=>1+re k f.2).sum
def oa (k:Nat)(m:PM):nh (k+1) m=1+Ct k m.fs:=rfl
def pU (k:Nat)(f:PF)(fs:List PF):Ct k (f::fs)=1+re k f.2+Ct k fs:=rfl
def oc (k:Nat)(v:PV)(l:List PV):re k (v::l)=nh k v.2.2+re k l:=rfl
def GE (k:Nat)(a b:List PF):Ct k (a++b)=Ct k a+Ct k b:=by unfold Ct;rw[bI,List.sum_append]
def sR (k:Nat)(a b:List PV):re k (a++b)=re k a+re k b:=by unfold re;rw[bI,List.sum_append]
def od (k:Nat):nh k PM.none<=1:=by cases k<;>simp[nh,PM.none,PM.fs]
def Lu {k:Nat}{m m':PM}(h:m.fs=m'.fs):nh k m=nh k m':=by cases k<;>simp[nh,h]
def Lw (k:Nat)(n:Int)(l:List PV):∀(fs:List PF) (done:Bool),Ct k (gK n l done fs)+re k (gz fs n)<=Ct k fs+(if done then 0 else 1+re k l)
 | [],done=>by
  cases done<;>simp[gK,gz,Ct,re]
 |x::r,done=>by
  rw[gK,GE,GE,gz,pU]
  by_cases hx:x.1=n
  ·have ih:=Lw k n l r true;have hn:decide (n<=x.1)=true:=Ug;rw[hn,cq,dE hx,dE hx];simp only[if_true]at ih
   cases done<;>simp[Ct]at ih⊢<;>omega
  ·rw[dD hx,dD hx]
   cases hn:decide (n<=x.1)
   ·have ih:=Lw k n l r done;rw[cF];simp only[cB,aM,if_false];rw[pU];have e:Ct k []=0:=rfl;omega
   ·have ih:=Lw k n l r true;rw[cq];simp only[if_true]at ih;have e:Ct k []=0:=rfl;have e1:=pU k x [];have e2:Ct k [(n,l)]=1+re k l:=rfl
    grind
def sS (k:Nat)(m:PM)(n:Int)(l:List PV):nh (k+1) (m.put n l)+re k (m.get n)<=nh (k+1) m+(1+re k l):=by
 have h:=Lw k n l m.fs l.isEmpty;rw[oa,oa];have h2:(if l.isEmpty then 0 else 1+re k l)<=1+re k l:=by split<;>omega
 show 1+Ct k (gK n l l.isEmpty m.fs)+re k (gz m.fs n)<=_;omega
def DT (k:Nat)(m:PM)(n:Int):nh k (m.put n [])<=nh k m:=by
 cases k with
 |zero=>exact ay _
 |succ k=>
  have h:=Lw k n [] m.fs true;rw[oa,oa];show 1+Ct k (gK n [] true m.fs)<=_
  grind
def Fm (k:Nat)(t:am)(v:PV):∀(l:List PV) (done:Bool),re k (fY t v done l)<=re k l+(if done then 0 else nh k v.2.2)
 | [],done=>by cases done<;>simp[fY,re]
 |x::r,done=>by
  rw[fY,sR,sR,oc];generalize(jW t (fE v) (fE x)||gZ (fE v) (fE x))=c;have e:re k []=0:=rfl;have e1:=oc k v [];have e2:=oc k x [];have h0:=Fm k t v r done;have h1:=Fm k t v r true
  grind
def Lx (k:Nat)(f:eT):∀(l:List eT) (m:PM),nh k (io f l m)<=nh k m/\(io f l m).get f.num=m.get f.num
 | [],m=>⟨ay _,rfl⟩
 |o::l,m=>by
  rw[io]
  split
  ·rename_i hc
   have⟨h1,h2⟩:=Lx k f l (m.put o.num []);refine⟨aG h1 (DT k m o.num),h2.trans (PM.get_put_ne _ _ _ _ ?_)⟩
   grind
  ·exact Lx k f l m
def RF (k:Nat)(m:PM):nh k (fZ m)<=nh k m+4:=by
 have h1:∀(m:PM) (n:Int),nh k (fH m n)<=nh k m+2:=λm n=>by
  unfold fH
  split
  ·cases k with
   |zero=>simp[nh]
   |succ k=>
    have h:=sS k m n [PV.none];have h2:=od k;have h3:re k [PV.none]=nh k PM.none:=Uk;omega
  ·omega
 have h2:nh k (fZ m)=nh k (fH (fH m 1) 2):=Lu rfl
 grind
def Qq {k:Nat}{f:eT}{m:PM}(h:¬(f.isRep||f.isMap)=true):nh k (eI f m).2.2<=re k (m.get f.num)+1:=by
 unfold eI;rw[dD h]
 cases m.get f.num with
 |nil=>have:=od k;simp[PV.none];omega
 |cons v l=>simp[oc];omega
def Ly (S:d8)(d:MT)(f:eT)(m:PM)(v:PV)(k:Nat)(c:Nat)(hv:nh k v.2.2<=nh k (eI f m).2.2+c):nh (k+1) (gF S d f m v)<=nh (k+1) m+6+c:=by
 have hN:=od k;have hS:(f.isRep||f.isMap)=true->nh k (eI f m).2.2<=1:=λq=>by unfold eI;rw[dE q];exact hN
 unfold gF
 split
 ·rename_i hm
  have h1:=sS k m f.num (jt f.key (m.get f.num) (v.1,v.2.1,fZ v.2.2));have h2:=Fm k f.key (v.1,v.2.1,fZ v.2.2) (m.get f.num) false;have h3:=RF k v.2.2;have h4:=hS (by rw[hm,cq]);unfold jt at*
  grind
 ·rename_i hm
  split
  ·rename_i hr
   have h1:=sS k m f.num (m.get f.num++ [v]);have h2:=sR k (m.get f.num) [v];have h3:re k [v]=nh k v.2.2:=Uk
   grind
  ·rename_i hr
   split
   ·have:=DT (k+1) m f.num;omega
   ·have⟨h1,h2⟩:=Lx (k+1) f d.fs m;have h3:=sS k (io f d.fs m) f.num [v];have h4:re k [v]=nh k v.2.2:=Uk;have h5:=Qq (k:=k) (f:=f) (m:=m) (by simp_all)
    grind
def Lz (b:am)(kd e k:Nat):∀(F:Nat) (l:List PV) (a:Nat) (l':List PV),fw b kd e F l a= .ok l'->re k l'<=re k l+(e-a)
 |0,l,a,l',h=>by
  cases h
  omega
 |F+1,l,a,l',h=>by
  rw[fw]at h;have hN:=od k
  split at h
  ·rename_i ha
   split at h
   ·cases hv:g9 b a e with
    |error x=>simp_all
    |ok nz=>
     obtain⟨n,z⟩:=nz;rw[hv]at h;have⟨_,_,h1,h2⟩:=iG hv;have ih:=Lz b kd e k F _ z l' h;rw[sR]at ih;have h3:re k [(kD kd n,eS,PM.none)]=nh k PM.none:=Uk;omega
   ·have h4:4<=(if ee kd=5 then 4 else 8):=by split<;>omega
    simp only at h;generalize(if ee kd=5 then 4 else 8)=z at h h4
    split at h
    ·have ih:=Lz b kd e k F _ _ l' h;rw[sR]at ih;have h3:re k [(kD kd (wJ (b.extract a (a+z))),eS,PM.none)]=nh k PM.none:=Uk;omega
    ·cases h
  simp_all
def yj (S:d8)(b:am):∀(F k:Nat) (d:MT) (m:PM) (a e deep:Nat) (m':PM),eE S b F d m a e deep= .ok m'->nh k m'<=nh k m+8*(e-a)
 |0,k,d,m,a,e,deep,m',h=>by
  cases h
  omega
 |F+1,0,d,m,a,e,deep,m',h=>by simp[nh]
 |F+1,k+1,d,m,a,e,deep,m',h=>by
  rw[eE]at h
  split at h
  ·cases hr:fD b a e with
   |error x=>simp_all
   |ok r=>
    rw[hr]at h;have⟨r1,r2,r3,r4,r5,_⟩:=iA hr;have hkeep:∀s,nh (k+1) (m.keep s)=nh (k+1) m:=λs=>Lu rfl
    simp only at h
    split at h
    ·have ih:=yj S b F (k+1) d _ _ e deep m' h
     grind
    ·rename_i f hf
     split at h
     ·split at h
      ·rename_i sub hsub
       split at h
       ·cases h
       ·cases hs:eE S b F sub (eI f m).2.2 r.fr r.e (deep+1)with
        |error x=>simp_all
        |ok sm=>
         rw[hs]at h;have i1:=yj S b F k sub _ _ _ _ sm hs;have i2:=yj S b F (k+1) d _ _ e deep m' h;have i3:=Ly S d f m ((eI f m).1,(eI f m).2.1,sm) k (8*(r.e-r.fr)) i1;omega
      ·cases hv:mQ S b f r with
       |error x=>simp_all
       |ok v=>
        rw[hv]at h;have i2:=yj S b F (k+1) d _ _ e deep m' h
        have hn:v.2.2=PM.none:=by
         unfold mQ at hv
         grind
        have i3:=Ly S d f m v k 1 (by rw[hn];have:=od k;omega);omega
     ·split at h
      ·cases hp:ko S b f (m.get f.num) r.fr r.e with
       |error x=>simp_all
       |ok l=>
        rw[hp]at h;have i1:=Lz b _ _ k _ _ _ l hp;have i2:=yj S b F (k+1) d _ _ e deep m' h;have i3:=sS k m f.num l;omega
      ·have ih:=yj S b F (k+1) d _ _ e deep m' h
       grind
  simp_all
def SW (S:d8)(nm b:am)(k:Nat)(m:PM)(h:fj S nm b= .ok m):nh k m<=8*b.size+1:=by
 unfold fj at h
 split at h
 ·cases h
 ·have h1:=yj S b _ k _ _ _ _ _ m h;have h2:=od k;omega
def LA {k:Nat}{f:PF}:∀{fs:List PF},f∈fs->re k f.2<=Ct k fs
 |x::fs,h=>by
  rw[pU]
  rcases aN.1 h with rfl|h
  ·omega
  ·have:=LA (k:=k) h;omega
def LB {k:Nat}:∀(fs:List PF),fs.length<=Ct k fs
 | []=>aL _
 |x::fs=>by have:=LB (k:=k) fs;rw[pU,be];omega
def LC {k:Nat}{v:PV}:∀{l:List PV},v∈l->nh k v.2.2<=re k l
 |x::l,h=>by
  rw[oc]
  rcases aN.1 h with rfl|h
  ·omega
  ·have:=LC (k:=k) h;omega
def LD {k:Nat}:∀(l:List PV),l.length<=re (k+1) l
 | []=>aL _
 |x::l=>by have:=LD (k:=k) l;rw[oc,oa,be];omega
def O4:∀{k:Nat} {w:an} {Z:ap} {v:Value} {m:PM},iH k w Z v m->nh k m<=1099511627776->Q1 k m
 |0,_,_,_,_,_,_=>trivial
 |k+1,w,Z,v,m,⟨cs,hr,hf⟩,h=>by
  rw[oa]at h;have h1:=LB (k:=k) m.fs;refine⟨Ue,λx hx=> ?_⟩;have h2:=LA (k:=k) hx;have⟨i,hi⟩:=bK.1 hx;have⟨vv,⟨vcs,_,hv⟩,_⟩:=hf.get hi
  have hM:∀y∈x.2,∃mv,iH k w Z mv y.2.2:=λy hy=>by
   have⟨j,hj⟩:=bK.1 hy;have⟨mv,q,_⟩:=hv.get hj
   grind
  refine⟨?_,λy hy=> ?_⟩
  ·cases k with
   |zero=>
    cases hl:x.2 with
    |nil=>simp
    |cons y l=>
     have⟨mv,q⟩:=hM y (by simp_all);exact q.elim
   |succ k=>
    have:=LD (k:=k) x.2;omega
  ·have⟨mv,q⟩:=hM y hy;have:=LC (k:=k) hy;exact O4 q Ue
def Pl (a e:Nat)(x:Int×Int):Prop:=(a:Int)<=x.2/\x.2<=(e:Int)
def Pl.up {a a' e e':Nat}{x:Int×Int}(h:Pl a' e' x)(h1:a<=a')(h2:e'<=e):Pl a e x:=by
 unfold Pl at*;omega
def sU {b:am}{a e:Nat}{x:Int×Int}(h:g9 b a e= .error x)(ha:a<=e):Pl a e x:=by
 obtain⟨c,p⟩:=x;have:=(AQ 10 0 0 c p h).2;unfold Pl;simp only;omega
def Iz {b:am}{a e:Nat}{x:Int×Int}(h:fD b a e= .error x)(ha:a<=e):Pl a e x:=by
 unfold fD at h
 cases h1:g9 b a e with
 |error y=>rw[h1]at h;obtain rfl:=Except.error.inj h;exact sU h1 ha
 |ok y=>
  obtain⟨t,fr⟩:=y;rw[h1]at h;have⟨_,_,h3,h4⟩:=iG h1;simp only at h;have Uq:∀c:Int,Pl a e (c,(fr:Int)):=λc=>by unfold Pl;simp only;omega
  have Ur:∀c:Int,Pl a e (c,(a:Int)):=λc=>by unfold Pl;simp only;omega
  split at h
  ·obtain rfl:=Except.error.inj h;exact Ur _
  ·split at h
   ·cases h2:g9 b fr e with
    |error y=>rw[h2]at h;obtain rfl:=Except.error.inj h;exact(sU h2 h4).up Ue (ay _)
    |ok y=>rw[h2]at h;cases h
   ·split at h
    ·split at h
     ·cases h
     ·obtain rfl:=Except.error.inj h;exact Uq _
    ·split at h
     ·split at h
      ·cases h
      ·obtain rfl:=Except.error.inj h;exact Uq _
     ·split at h
      ·cases h2:g9 b fr e with
       |error y=>rw[h2]at h;obtain rfl:=Except.error.inj h;exact(sU h2 h4).up Ue (ay _)
       |ok y=>
        obtain⟨n,bh⟩:=y;rw[h2]at h;have⟨_,_,h5,h6⟩:=iG h2;simp only at h
        split at h
        ·cases h
        ·obtain rfl:=Except.error.inj h;unfold Pl;simp only;omega
      ·obtain rfl:=Except.error.inj h;exact Ur _
def rH {b:am}{k e:Nat}{x:Int×Int}:∀(F:Nat) (l:List PV) (a:Nat),fw b k e F l a= .error x->a<=e->Pl a e x
 |0,_,_,h,_=>by cases h
 |F+1,l,a,h,ha=>by
  rw[fw]at h
  split at h
  ·split at h
   ·cases h2:g9 b a e with
    |error y=>rw[h2]at h;obtain rfl:=Except.error.inj h;exact sU h2 ha
    |ok y=>
     obtain⟨n,z⟩:=y;rw[h2]at h;have⟨_,_,h5,h6⟩:=iG h2;exact(rH F _ z h h6).up Ue (ay _)
   ·simp only at h;generalize(if ee k=5 then 4 else 8)=z at h
    split at h
    ·exact(rH F _ (a+z) h Ue).up Ue (ay _)
    ·obtain rfl:=Except.error.inj h;unfold Pl;simp only;omega
  ·cases h
def rI {S:d8}{b:am}{x:Int×Int}:∀(F:Nat) (d:MT) (m:PM) (a e deep:Nat),eE S b F d m a e deep= .error x->a<=e->Pl a e x
 |0,_,_,_,_,_,h,_=>by cases h
 |F+1,d,m,a,e,deep,h,ha=>by
  rw[eE]at h
  split at h
  ·cases hr:fD b a e with
   |error y=>rw[hr]at h;obtain rfl:=Except.error.inj h;exact Iz hr ha
   |ok r=>
    rw[hr]at h;have⟨_,q1,q2,q3,q4,_⟩:=iA hr;simp only at h;have go:∀m',eE S b F d m' r.e e deep= .error x->Pl a e x:=λm' h'=>(rI F d m' r.e e deep h' q4).up Ue (ay _)
    have Uq:∀c:Int,Pl a e (c,(r.fr:Int)):=λc=>by unfold Pl;simp only;omega
    split at h
    ·exact go _ h
    ·split at h
     ·split at h
      ·split at h
       ·obtain rfl:=Except.error.inj h;exact Uq _
       ·split at h
        ·rename_i h2
         obtain rfl:=Except.error.inj h;exact(rI F _ _ r.fr r.e (deep+1) h2 q3).up Ue q4
        ·exact go _ h
      ·split at h
       ·rename_i h2
        obtain rfl:=Except.error.inj h;unfold mQ at h2
        split at h2
        ·split at h2
         ·obtain rfl:=Except.error.inj h2;exact Uq _
         ·cases h2
        ·cases h2
       ·exact go _ h
     ·split at h
      ·split at h
       ·rename_i h2
        obtain rfl:=Except.error.inj h;unfold ko at h2;exact(rH _ _ r.fr h2 q3).up Ue q4
       ·exact go _ h
      ·exact go _ h
  ·cases h
def IA {S:d8}{nm b:am}{x:Int×Int}(h:fj S nm b= .error x):0<=x.2/\x.2<=(b.size:Int):=by
 unfold fj at h
 split at h
 ·obtain rfl:=Except.error.inj h;simp only;omega
 ·have:=rI _ _ _ 0 b.size 1 h (aL _);unfold Pl at this;omega
section
open Go.Maps
def qM:Fx PM->PM
 | .error _=>PM.none
 | .ok m=>m
def nG:Fx PM->Int×Int
 | .error x=>x
 | .ok _=>(0,0)
def kO.one {ks:au}{K:(ap)->an->Prop}{w:an}{R:Fx PM}{e:Ending}{w':an}(h:kO ks K w R e w'):
  ∃v Z,e= .returned (.tuple #[.agg #[v,ae (qM R).unk],aa (nG R).1,aa (nG R).2])/\pI 9 w' v (qM R) Z/\(∀b,Z b->w.heap.size<=b/\b<w'.heap.size)/\dX ks w w'/\K Z w':=by
 cases R with
 |error x=>exact⟨_,λ_=>False,h.1,pI.none 8 w' _,λ_ q=>q.elim,h.2.1,h.2.2⟩
 |ok m=>
  obtain⟨v,Z,h1,h2,h3,h4,h5⟩:=h;exact⟨v,Z,h1,h2,h3,h4,h5⟩
def Qr {S:d8}{nm b:am}{w:an}{Z:ap}{v:Value}(hb:b.size<=268435456)(h:iH 9 w Z v (qM (fj S nm b))):Q1 9 (qM (fj S nm b)):=by
 refine O4 h ?_
 cases hd:fj S nm b with
 |error x=>show nh 9 PM.none<=_;decide
 |ok m=>
  have:=SW S nm b 9 m hd;show nh 9 m<=_;omega
def Qs {S:d8}{nm b:am}:0<=(nG (fj S nm b)).2/\(nG (fj S nm b)).2<=(b.size:Int):=by
 cases hd:fj S nm b with
 |error x=>exact IA hd
 |ok m=>exact⟨dm _,Int.natCast_nonneg _⟩
structure tx (w:an)(sb kp mk:Nat)(bs:List dQ)(R:ap)(W:an):Prop where
 bel:aj w W
 low:∀b,b<w.heap.size->R b
 lt:∀b,R b->b<W.heap.size
 sch:∃P,lK W sb kp mk bs P/\∀b,R b->¬P b
structure pV (R:ap)(W W':an):Prop where
 size:W.heap.size<=W'.heap.size
 block:∀b,R b->W'.heap[b]?=W.heap[b]?
section
variable {w W W':an} {sb kp mk:Nat} {bs:List dQ} {R R':ap}
def pV.blk (h:pV R W W'){b:Nat}{cs:Array Value}{T:TypeId}(hb:dM W b cs T)(hR:R b):dM W' b cs T:=(h.block b hR).trans hb
def pV.mrn (h:pV R W W'){k:Nat}{Z:ap}{v:Value}{m:PM}(hm:iH k W Z v m)(hZ:∀b,Z b->R b):iH k W' Z v m:=hm.keep λb q _=>h.block b (hZ b q)
def tx.uok (h:tx w sb kp mk bs R W)(hu:UOK w):UOK W:=hu.keep (h.bel.block _ hu.lt1) (h.bel.block _ hu.lt2)
def tx.step (h:tx w sb kp mk bs R W){P P':ap}(hk:dX [mk,kp] W W')(hs:lK W sb kp mk bs P)(hP:∀b,R b->¬P b)(hs':lK W' sb kp mk bs P')(hP':∀b,R' b->¬P' b)(hi:∀b,R b->R' b)(hlt:∀b,R' b->b<W'.heap.size):
  tx w sb kp mk bs R' W'/\pV R W W':=by
 have⟨pm,pk,_,_⟩:=hs.lt;refine⟨⟨h.bel.trans (hk.to_below h.bel.size λx hx=> ?_),λb hb=>hi b (h.low b hb),hlt,P',hs',hP'⟩,hk.size,λb hR=>hk.block b (h.lt b hR) λhx=> ?_⟩
 ·refine Nat.le_of_not_lt λhl=>hP x (h.low x hl) ?_
  simp only[aN,bH,or_false]at hx
  rcases hx with rfl|rfl<;>assumption
 grind
def tx.on (h:tx w sb kp mk bs R W)(hb:Below W.heap.size W W'):tx w sb kp mk bs (λx=>R x\/(W.heap.size<=x/\x<W'.heap.size)) W'/\pV R W W':=by
 have⟨P,hs,hP⟩:=h.sch;have hl:=hb.size;refine⟨⟨dI h.bel hb,λb q=> .inl (h.low b q),λb q=> ?_,_,(hs.less (P':=λx=>P x/\x<W.heap.size) λx q hl=>⟨q,hl⟩).keep (w':=W') λb _ hl=>hb.block b hl,λb q p=> ?_⟩,hl,λb q=>hb.block b (h.lt b q)⟩
 ·rcases q with q|q
  ·have:=h.lt b q;omega
  omega
 grind
def tx.dec (h:tx w sb kp mk bs R W)(hsb:jK bs)(hu:UOK w)(nm b:am)(hb:b.size<=268435456)(way:Int)(hw:way=1\/way=2):
  Ua 21 #[ag sb,aa way,ae nm,ae b] W λe W'=>
   ∃v Z,e= .returned (.tuple #[.agg #[v,ae (qM (fj (dU bs) nm b)).unk],aa (nG (fj (dU bs) nm b)).1,aa (nG (fj (dU bs) nm b)).2])/\iH 9 W' Z v (qM (fj (dU bs) nm b))/\tx w sb kp mk bs (λx=>R x\/Z x) W'/\pV R W W':=by
 have⟨P,hs,hP⟩:=h.sch;refine(Aq ur W sb kp mk bs P nm b way hs hsb (h.uok hu) hb hw (hP _ (h.low _ hu.lt1)) (hP _ (h.low _ hu.lt2))).mono ?_;intro e W' q;have⟨v,Z,h1,h2,h3,h4,h5⟩:=q.one;have hl:=h4.size
 have⟨a1,a2⟩:=h.step h4 hs hP h5 (R':=λx=>R x\/Z x) (λx q p=>by
  rcases q with q|q<;>rcases p with⟨p,p2⟩|⟨p,p2⟩
  ·simp_all
  ·have:=h.lt x q;omega
  ·grind
  simp_all) (λx q=> .inl q) (λx q=>by
  rcases q with q|q
  ·have:=h.lt x q;omega
  simp_all)
 exact⟨v,Z,h1,h2.toIn.rn,a1,a2⟩
def tx.aft (h:tx w sb kp mk bs R W){P:ap}(hs:lK W sb kp mk bs P)(hP:∀b,R b->¬P b)(hk:dX [mk,kp] W W')(hs':lK W' sb kp mk bs λx=>(P x/\x<W.heap.size)\/W.heap.size<=x):tx w sb kp mk bs R W'/\pV R W W':=
 h.step hk hs hP hs' (λx q p=>by
  have:=h.lt x q
  grind) (λ_ q=>q) (λx q=>aD (h.lt x q) hk.size)
def tx.enc (h:tx w sb kp mk bs R W)(hsb:jK bs)(hu:UOK w)(nm:am)(way:Int)(hw:way=1\/way=2){k:Nat}{Z:ap}{mv:Value}{m:PM}(hM:iH k W Z mv m)(hZ:∀b,Z b->R b)(hO:oT k m)(hwt:vZ k m<=140737488355328):
  Ua 24 #[ag sb,aa way,ae nm,.agg #[mv,ae m.unk]] W λe W'=>e= .returned (.tuple #[ae (jM (dU bs) nm m).1,aa (jM (dU bs) nm m).2])/\tx w sb kp mk bs R W'/\pV R W W':=by
 have⟨P,hs,hP⟩:=h.sch;refine(NV false ur W sb kp mk bs P nm way Z k mv m hs hsb (h.uok hu) hw (hP _ (h.low _ hu.lt1)) (hP _ (h.low _ hu.lt2)) hM (λb q=>hP b (hZ b q)) hO λd _=>aG (rG 8 k d m hO) hwt).mono ?_;rintro e W' ⟨h1,h2,h3⟩;exact⟨h1,h.aft hs hP h2 h3⟩
def tx.new {w1:an}(hb:aj w W)(hl:w.heap.size<=w1.heap.size)(hl2:w1.heap.size<=W.heap.size)(hs:Dr W sb kp mk bs w1.heap.size)(hsb:jK bs):tx w sb kp mk bs (λb=>b<w1.heap.size) W:=
 ⟨hb,λb q=>Ue,λb q=>Ue,_,hs.toP hsb,λb q p=>Ue⟩
end
end
section
variable {b c nm:am} {e a deep e':Nat} {S:d8} {m:PM} {p:Int}
structure Ag (b c:am)(e:Nat):Prop where
 at_:∀i,i<e->fL c i=fL b i
 ext:∀i j,j<=e->c.extract i j=b.extract i j
theorem Ag.refl (b:am)(e:Nat):Ag b b e:=⟨λ_ _=>rfl,λ_ _ _=>rfl⟩
theorem Ag.less {f:Nat}(h:Ag b c e)(hf:f<=e):Ag b c f:=⟨λi hi=>h.at_ i Ue,λi j hj=>h.ext i j Ue⟩
theorem lB (b:am)(i:Nat):fL b i=((b.data.toList[i]?).map λx=>(x.toNat:Int)).getD 0:=by
 unfold fL
 split
 ·rename_i h
  rw[bz,bF (show i<b.data.size from h)];rfl
 simp_all
theorem oe (b t:am):(b++t).data.toList=b.data.toList++t.data.toList:=Uf
theorem N2 (b t:am)(i:Nat):fL (b++t) (b.size+i)=fL t i:=by
 rw[lB,lB,oe,cg Uf];simp
theorem Ag.app (b t:am):Ag b (b++t) b.size:=by
 refine⟨λi hi=> ?_,λi j hj=> ?_⟩
 ·rw[lB,lB,oe,cp (by simpa using hi)]
 ·have h1:∀c:am,(c.extract i j).data.toList=(c.data.toList.take j).drop i:=λc=>by
   rw[cI,Array.toList_extract,List.extract_eq_take_drop,List.drop_take]
  have h2:((b++t).extract i j).data.toList=(b.extract i j).data.toList:=by
   rw[h1,h1,oe,cY (by simpa using hj)]
  exact cM (cT.1 h2)
theorem LE (h:Ag b c e):∀f i n,lL c a e f i n=lL b a e f i n
 |0,_,_=>rfl
 |f+1,i,n=>by
  rw[lL,lL]
  split
  ·rename_i hl
   rw[h.at_ _ hl,LE h f]
  ·rfl
theorem Fo (h:Ag b c e):fD c a e=fD b a e:=by
 have hv:∀a,g9 c a e=g9 b a e:=λa=>LE h 10 0 0
 unfold fD;rw[hv a]
 split
 ·rfl
 ·rename_i t fr _
  rw[hv fr];have e8:fr+8<=e->c.extract fr (fr+8)=b.extract fr (fr+8):=λq=>h.ext _ _ q
  have e4:fr+4<=e->c.extract fr (fr+4)=b.extract fr (fr+4):=λq=>h.ext _ _ q
  simp_all
theorem BL {k:Nat}(h:Ag b c e):∀F l a,fw c k e F l a=fw b k e F l a
 |0,_,_=>rfl
 |F+1,l,a=>by
  rw[fw,fw];have hv:g9 c a e=g9 b a e:=LE h 10 0 0;rw[hv]
  split
  ·split
   ·split
    ·rfl
    ·rw[BL h F]
   ·simp only;generalize(if ee k=5 then 4 else 8)=z
    split
    ·rw[h.ext _ _ ‹_›,BL h F]
    ·rfl
  ·rfl
def jn (S:d8)(b:am)(F:Nat)(d:MT)(m:PM)(r:oj)(deep:Nat):Fx PM:=
 match dR d.fs r.num with
 |none=> .ok (m.keep (b.extract r.a r.e))
 |some f=>if r.kind=fG S f then oW S b F d f m r deep
  else if r.kind=2/\f.isRep=true then(match ko S b f (m.get f.num) r.fr r.e with| .error x=> .error x| .ok l=> .ok (m.put f.num l))
  else .ok (m.keep (b.extract r.a r.e))
theorem g8 {F:Nat}{d:MT}{r:oj}(h:a<e)(hr:fD b a e= .ok r):eE S b (F+1) d m a e deep=Ho S b F d r.e e deep (jn S b F d m r deep):=by
 unfold jn
 split
 ·rename_i hf
  exact oD h hr λf q=>by simp_all
 ·rename_i f hf
  split
  ·exact zK h hr hf ‹_›
  ·split
   ·rename_i hk hp
    exact xh h hr hf hk hp.1 hp.2
   ·rename_i hk hp
    exact oD h hr λg q=>by
     simp_all
theorem ni:∀(F G:Nat) (d:MT) (m:PM) (a e deep:Nat),Ag b c e->e-a<F->e-a<G->eE S c G d m a e deep=eE S b F d m a e deep
 |0,_,_,_,_,_,_,_,h,_=>absurd h Ue
 |_+1,0,_,_,_,_,_,_,_,h=>absurd h Ue
 |F+1,G+1,d,m,a,e,deep,hA,hF,hG=>by
  by_cases hl:a<e
  ·have Uq:=Fo (a:=a) hA
   cases hr:fD b a e with
   |error x=>rw[gV hl hr,gV hl (Uq.trans hr)]
   |ok r=>
    rw[g8 hl hr,g8 hl (Uq.trans hr)];have⟨r1,r2,r3,r4,r5,_⟩:=iA hr;have Ur:=hA.less r5
    have hs:jn S c G d m r deep=jn S b F d m r deep:=by
     have hx:c.extract r.a r.e=b.extract r.a r.e:=hA.ext _ _ r5;have hy:c.extract r.fr r.e=b.extract r.fr r.e:=hA.ext _ _ r5;unfold jn;rw[hx]
     split
     ·rfl
     ·rename_i f _
      split
      ·have:lU S c G f m r deep=lU S b F f m r deep:=by
        unfold lU xg mQ;rw[hy]
        split
        ·rename_i sub _
         rw[ni F G sub _ r.fr r.e (deep+1) Ur Ue Ue]
        ·rfl
       unfold oW;rw[this]
      ·unfold ko;rw[BL Ur]
    rw[hs];unfold Ho
    split
    ·rfl
    ·exact ni F G d _ r.e e deep hA Ue Ue
  ·rw[gN hl,gN hl]
theorem LF (he:e<=e'):∀f i n,(∀x,lL b a e f i n= .ok x->lL b a e' f i n= .ok x)/\∀c p,lL b a e f i n= .error (c,p)->c≠6->lL b a e' f i n= .error (c,p)
 |0,_,_=>⟨λ_ h=>h,λ_ _ h _=>h⟩
 |f+1,i,n=>by
  rw[lL,lL]
  by_cases hl:a+i<e
  ·rw[dE hl,dE (show a+i<e' by omega)]
   split
   ·simp
   ·split
    ·simp
    ·exact LF he f _ _
  grind
theorem wd (he:e<=e'):(∀x,g9 b a e= .ok x->g9 b a e'= .ok x)/\∀c p,g9 b a e= .error (c,p)->c≠6->g9 b a e'= .error (c,p):=LF he 10 0 0
theorem BM (he:e<=e'):(∀r,fD b a e= .ok r->fD b a e'= .ok r)/\∀c p,fD b a e= .error (c,p)->c≠6->fD b a e'= .error (c,p):=by
 have err6:∀{α:Type} {c p:Int} {k:Nat} {X:Fx α},(Except.error ((6:Int),(k:Int)):Fx α)= .error (c,p)->c≠6->X= .error (c,p):=λh hc=>by
  simp_all
 have⟨v1,v2⟩:=wd (b:=b) (a:=a) he;unfold fD
 cases hv:g9 b a e with
 |error x=>
  refine⟨λr h=>(by cases h),λc p h hc=> ?_⟩;have h:Except.error x=Except.error (c,p):=h
  cases h
  rw[v2 c p hv hc]
 |ok x=>
  obtain⟨t,fr⟩:=x;rw[v1 _ hv];simp only;have⟨u1,u2⟩:=wd (b:=b) (a:=fr) he
  split
  ·simp
  grind
theorem qv (he:e<=e'):∀(F G:Nat) (d:MT) (m:PM) (a:Nat),a<=e->e-a<F->e'-a<G->
  (∀c p,eE S b F d m a e deep= .error (c,p)->c≠6->eE S b G d m a e' deep= .error (c,p))/\
  ∀m',eE S b F d m a e deep= .ok m'->∀K,e'-e<K->eE S b G d m a e' deep=eE S b K d m' e e' deep
 |0,_,_,_,_,_,h,_=>absurd h Ue
 |_+1,0,_,_,_,_,_,h=>absurd h Ue
 |F+1,G+1,d,m,a,ha,hF,hG=>by
  by_cases hl:a<e
  ·cases hr:fD b a e with
   |error x=>
    rw[gV hl hr];refine⟨λc p h hc=> ?_,λm' h=>(by cases h)⟩
    cases h
    exact gV Ue ((BM he).2 c p hr hc)
   |ok r=>
    have⟨r1,r2,r3,r4,r5,_⟩:=iA hr;rw[g8 hl hr,g8 Ue ((BM he).1 r hr)]
    have hs:jn S b G d m r deep=jn S b F d m r deep:=by
     unfold jn oW lU xg
     split
     ·rfl
     ·split
      ·split
       ·rename_i sub _
        rw[ni F G sub _ r.fr r.e (deep+1) (Ag.refl _ _) Ue Ue]
       ·rfl
      ·rfl
    rw[hs]
    cases hq:jn S b F d m r deep with
    |error x=>exact⟨λc p h _=>h,λm' h=>(by cases h)⟩
    |ok m1=>exact qv he F G d m1 r.e r5 Ue Ue
  ·rw[gN hl];obtain rfl:a=e:=Ue;refine⟨λc p h=>(by cases h),λm' h K hK=> ?_⟩
   cases h
   exact ni K (G+1) d m a e' deep (Ag.refl _ _) hK Ue
theorem BO {k:Nat}{c:Int}:∀F l a,fw b k e F l a= .error (c,p)->c≠0
 |0,_,_,h=>by cases h
 |F+1,l,a,h=>by
  rw[fw]at h
  split at h
  ·split at h
   ·split at h
    ·rename_i x hv
     cases h
     have:=(FR hv).1;omega
    ·exact BO F _ _ h
   ·simp only at h;generalize(if ee k=5 then 4 else 8)=z at h
    split at h
    ·exact BO F _ _ h
    grind
  ·cases h
theorem BP {c:Int}:∀(F:Nat) (d:MT) (m:PM) (a e deep:Nat),eE S b F d m a e deep= .error (c,p)->c≠0
 |0,_,_,_,_,_,h=>by cases h
 |F+1,d,m,a,e,deep,h=>by
  by_cases hl:a<e
  ·cases hr:fD b a e with
   |error x=>rw[gV hl hr]at h;cases h;exact Jp hr
   |ok r=>
    rw[g8 hl hr]at h
    cases hs:jn S b F d m r deep with
    |ok m1=>rw[hs]at h;exact BP F d m1 r.e e deep h
    |error x=>
     rw[hs]at h
     cases h
     unfold jn at hs
     split at hs
     ·cases hs
     ·rename_i f _
      split at hs
      ·unfold oW at hs
       cases hv:lU S b F f m r deep with
       |ok v=>rw[hv]at hs;cases hs
       |error x=>
        rw[hv]at hs
        cases hs
        unfold lU xg at hv
        split at hv
        ·rename_i sub _
         split at hv
         ·rename_i x hx
          cases hv
          split at hx
          ·grind
          ·exact BP F _ _ _ _ _ hx
         ·cases hv
        ·unfold mQ at hv
         grind
      ·split at hs
       ·split at hs
        ·rename_i x hx
         cases hs
         exact BO _ _ _ hx
        ·cases hs
       ·cases hs
  ·rw[gN hl]at h
   cases h
theorem LG {c:Int}(h:fj S nm b= .error (c,p)):c≠0:=by
 unfold fj at h
 split at h
 ·grind
 ·exact BP _ _ _ _ _ _ h
theorem LH {t:am}{c:Int}(h:fj S nm b= .error (c,p))(hc:c≠6):fj S nm (b++t)= .error (c,p):=by
 unfold fj at*
 cases hm:S.msg nm with
 |none=>simp_all
 |some d=>
  rw[hm]at h;simp only at*;have hz:(b++t).size=b.size+t.size:=Uf;rw[<-ni (b.size+1) (b.size+1) d PM.none 0 b.size 1 (Ag.app b t) Ue Ue]at h;exact(qv Ue _ _ d PM.none 0 (aL _) Ue Ue).1 c p h hc
theorem BQ {t:am}(h:fj S nm b= .ok m):∃d,S.msg nm=some d/\fj S nm (b++t)=eE S (b++t) (t.size+1) d m b.size (b.size+t.size) 1:=by
 unfold fj at*
 cases hm:S.msg nm with
 |none=>simp_all
 |some d=>
  rw[hm]at h;simp only at*;have hz:(b++t).size=b.size+t.size:=Uf;rw[<-ni (b.size+1) (b.size+1) d PM.none 0 b.size 1 (Ag.app b t) Ue Ue]at h;refine⟨d,rfl,?_⟩;rw[(qv Ue _ _ d PM.none 0 (aL _) Ue Ue).2 m h (t.size+1) Ue,hz]
theorem sV {t:am}:∀f i n,(∀m z,lL t a e f i n= .ok (m,z)->lL (b++t) (b.size+a) (b.size+e) f i n= .ok (m,b.size+z))/\∀c p,lL t a e f i n= .error (c,p)->lL (b++t) (b.size+a) (b.size+e) f i n= .error (c,b.size+p)
 |0,_,_=>by
  refine⟨λm z h=>(by cases h),λc p h=> ?_⟩
  cases h
  rfl
 |f+1,i,n=>by
  rw[lL,lL,show b.size+a+i=b.size+(a+i)by omega,N2]
  by_cases hl:a+i<e
  ·rw[dE hl,dE (show b.size+(a+i)<b.size+e by omega)]
   split
   ·simp
   ·split
    ·(simp;omega)
    ·exact sV f _ _
  grind
theorem ut {t:am}{c:Int}(h:fD t a e= .error (c,p)):fD (b++t) (b.size+a) (b.size+e)= .error (c,b.size+p):=by
 have hv:∀a,(∀m z,g9 t a e= .ok (m,z)->g9 (b++t) (b.size+a) (b.size+e)= .ok (m,b.size+z))/\∀c p,g9 t a e= .error (c,p)->g9 (b++t) (b.size+a) (b.size+e)= .error (c,b.size+p):=λa=>sV 10 0 0
 unfold fD at*
 cases h1:g9 t a e with
 |error x=>
  rw[h1]at h;have h:Except.error x=Except.error (c,p):=h
  cases h
  rw[(hv a).2 c p h1]
 |ok x=>
  grind
end
def oj.sh (r:oj)(k:Nat):oj:=⟨r.num,r.kind,k+r.a,k+r.fr,k+r.e,r.n⟩
def og (c:am)(i j:Nat):(c.extract i j).data.toList=(c.data.toList.take j).drop i:=by
 rw[cI,Array.toList_extract,List.extract_eq_take_drop,List.drop_take]
def iX {a b:am}(h:a.data.toList=b.data.toList):a=b:=cM (cT.1 h)
def qw (b t:am)(i j:Nat):(b++t).extract (b.size+i) (b.size+j)=t.extract i j:=by
 refine iX ?_;simp
section
variable {b t:am}
def DU {a e:Nat}{m:Int}{z:Nat}(h:g9 t a e= .ok (m,z)):g9 (b++t) (b.size+a) (b.size+e)= .ok (m,b.size+z):=(sV 10 0 0).1 m z h
def BS {a e:Nat}{r:oj}(h:fD t a e= .ok r):fD (b++t) (b.size+a) (b.size+e)= .ok (r.sh b.size):=by
 unfold fD at*
 cases h1:g9 t a e with
 |error x=>simp_all
 |ok x=>
  obtain⟨n,fr⟩:=x;rw[h1]at h;rw[DU h1];simp only at*
  split at h
  ·cases h
  ·rw[dD ‹_›]
   split at h
   ·rw[dE ‹_›]
    cases h2:g9 t fr e with
    |error x=>simp_all
    |ok x=>
     rw[h2]at h;rw[DU h2]
     cases h
     rfl
   ·rw[dD ‹_›]
    split at h
    ·rw[dE ‹_›]
     split at h
     ·rw[dE Ue]
      cases h
      rw[cN,qw];rfl
     ·cases h
    ·rw[dD ‹_›]
     split at h
     ·rw[dE ‹_›]
      split at h
      ·rw[dE Ue]
       cases h
       rw[cN,qw];rfl
      ·cases h
     ·rw[dD ‹_›]
      split at h
      ·rw[dE ‹_›]
       cases h2:g9 t fr e with
       |error x=>simp_all
       |ok x=>
        obtain⟨q,bh⟩:=x;rw[h2]at h;rw[DU h2];simp only at*
        split at h
        ·rw[dE Ue]
         cases h
         simp[oj.sh,cN]
        ·cases h
      ·cases h
def BT {k e:Nat}{l':List PV}:∀F l a,fw t k e F l a= .ok l'->fw (b++t) k (b.size+e) F l (b.size+a)= .ok l'
 |0,_,_,h=>h
 |F+1,l,a,h=>by
  rw[fw]at*
  by_cases hl:a<e
  ·rw[dE hl]at h;rw[dE (show b.size+a<b.size+e by omega)]
   split at h
   ·rw[dE ‹_›]
    cases h2:g9 t a e with
    |error x=>simp_all
    |ok x=>
     rw[h2]at h;rw[DU h2];exact BT F _ _ h
   ·rw[dD ‹_›];simp only at*;generalize(if ee k=5 then 4 else 8)=z at*
    split at h
    ·rw[dE Ue,cN,qw];exact BT F _ _ h
    ·cases h
  grind
def qx {S:d8}:∀(F:Nat) (d:MT) (m:PM) (a e deep:Nat) (m':PM),eE S t F d m a e deep= .ok m'->eE S (b++t) F d m (b.size+a) (b.size+e) deep= .ok m'
 |0,_,_,_,_,_,_,h=>h
 |F+1,d,m,a,e,deep,m',h=>by
  by_cases hl:a<e
  ·cases hr:fD t a e with
   |error x=>rw[gV hl hr]at h;cases h
   |ok r=>
    rw[g8 hl hr]at h;rw[g8 Ue (BS hr)]
    cases hs:jn S t F d m r deep with
    |error x=>rw[hs]at h;cases h
    |ok m1=>
     rw[hs]at h
     have Ur:jn S (b++t) F d m (r.sh b.size) deep= .ok m1:=by
      have hx:(b++t).extract (r.sh b.size).a (r.sh b.size).e=t.extract r.a r.e:=qw b t r.a r.e;have hy:(b++t).extract (r.sh b.size).fr (r.sh b.size).e=t.extract r.fr r.e:=qw b t r.fr r.e;unfold jn at*;rw[hx];show(match dR d.fs r.num with|none=>_|some f=>if r.kind=fG S f then _ else if r.kind=2/\f.isRep=true then _ else _)=_
      split at hs
      ·simp_all
      ·rename_i f hf
       try (rw[hf];simp only)
       split at hs
       ·rw[dE ‹_›];unfold oW at*
        have:∀v,lU S t F f m r deep= .ok v->lU S (b++t) F f m (r.sh b.size) deep= .ok v:=λv hv=>by
         unfold lU xg mQ at*;rw[hy]
         split at hv
         ·rename_i sub _
          split at hv
          ·cases hv
          ·rename_i sm Uq
           split at Uq
           ·grind
           ·rw[dD ‹_›,show(r.sh b.size).fr=b.size+r.fr from rfl,show(r.sh b.size).e=b.size+r.e from rfl,qx F sub _ r.fr r.e (deep+1) sm Uq];exact hv
         ·split at hv
          ·rw[dE ‹_›]
           grind
          ·rw[dD ‹_›];exact hv
        cases hv:lU S t F f m r deep with
        |error x=>rw[hv]at hs;cases hs
        |ok v=>simp_all
       ·rw[dD ‹_›]
        split at hs
        ·rw[dE ‹_›];unfold ko at*
         split at hs
         ·cases hs
         ·rename_i l' hp
          rw[show(r.sh b.size).fr=b.size+r.fr from rfl,show(r.sh b.size).e=b.size+r.e from rfl,show b.size+r.e-(b.size+r.fr)=r.e-r.fr by omega,BT _ _ _ hp];exact hs
        simp_all
     rw[Ur];exact qx F d m1 r.e e deep m' h
  ·rw[gN hl]at h;rw[gN Ue];exact h
end
def rd (S:d8)(t:am)(d:MT)(m:PM)(deep:Nat):Fx PM:=eE S t (t.size+1) d m 0 t.size deep
def Qt (S:d8)(nm b:am):fj S nm b=match S.msg nm with|none=> .error (5,0)|some d=>rd S b d PM.none 1:=rfl
section
variable {S:d8} {d:MT} {m m1 m2:PM} {deep:Nat} {s t:am}
def SX (h:t.size=0):rd S t d m deep= .ok m:=gN Ue
def Fp (h1:rd S s d m deep= .ok m1)(h2:rd S t d m1 deep= .ok m2):rd S (s++t) d m deep= .ok m2:=by
 unfold rd at*;have hz:(s++t).size=s.size+t.size:=Uf;rw[<-ni (s.size+1) (s.size+1) d m 0 s.size deep (Ag.app s t) Ue Ue]at h1;rw[(qv Ue _ _ d m 0 (aL _) Ue Ue).2 m1 h1 (t.size+1) Ue,hz];exact qx (t.size+1) d m1 0 t.size deep m2 h2
def RG (h:rd S t d m deep= .ok m1){F:Nat}(hF:t.size<F):eE S (s++t) F d m s.size (s.size+t.size) deep= .ok m1:=by
 rw[ni (b:=s++t) (t.size+1) F d m s.size (s.size+t.size) deep (Ag.refl _ _) Ue Ue];exact qx (t.size+1) d m 0 t.size deep m1 h
def BU {r:oj}(hr:fD t 0 t.size= .ok r)(he:r.e=t.size)(hs:jn S t t.size d m r deep= .ok m1):rd S t d m deep= .ok m1:=by
 have⟨_,_,h3,_,_,_⟩:=iA hr;unfold rd;rw[g8 Ue hr,hs];exact gN Ue
end
def bl (l:List UInt8):am:=⟨l.toArray⟩
def ir (l:List UInt8):(bl l).data.toList=l:=rfl
def fK (l:List UInt8):(bl l).size=l.length:=Uk
def oJ (l r:List UInt8):bl (l++r)=bl l++bl r:=iX (by rw[oe,ir,ir,ir])
def BX (b:am):bl b.data.toList=b:=iX rfl
def vz {α:Type}(k:Nat):Fx α->Option (Int×Int)
 | .ok _=>none
 | .error x=>some (x.1,k+x.2)
def yk {α β:Type}{k l:Nat}{X:Fx α}{Y:Fx β}(h:vz k X=vz l Y):(∃x y,X= .ok x/\Y= .ok y)\/∃c p q,X= .error (c,p)/\Y= .error (c,q)/\k+p=l+q:=by
 cases X<;>cases Y
 ·simp only[vz,Option.some.injEq,Prod.mk.injEq]at h
  grind
 ·cases h
 ·cases h
 simp
section
variable {b t:am}
def RH {a e:Nat}:(∃m z,g9 t a e= .ok (m,z)/\g9 (b++t) (b.size+a) (b.size+e)= .ok (m,b.size+z))\/∃c p,g9 t a e= .error (c,p)/\g9 (b++t) (b.size+a) (b.size+e)= .error (c,b.size+p):=by
 cases h:g9 t a e with
 |ok x=>exact .inl ⟨x.1,x.2,rfl,DU h⟩
 |error x=>exact .inr ⟨x.1,x.2,rfl,(sV 10 0 0).2 _ _ h⟩
def BY {k e:Nat}:∀F l l' a,vz 0 (fw (b++t) k (b.size+e) F l' (b.size+a))=vz b.size (fw t k e F l a)
 |0,_,_,_=>rfl
 |F+1,l,l',a=>by
  rw[fw,fw]
  by_cases hl:a<e
  ·rw[dE hl,dE (show b.size+a<b.size+e by omega)]
   split
   ·rcases RH (b:=b) (t:=t) (a:=a) (e:=e)with⟨m,z,h1,h2⟩|⟨c,p,h1,h2⟩
    ·rw[h1,h2];exact BY F _ _ _
    ·rw[h1,h2];simp[vz]
   ·simp only;generalize(if ee k=5 then 4 else 8)=z
    by_cases hz:a+z<=e
    ·rw[dE hz,dE (show b.size+a+z<=b.size+e by omega),cN];exact BY F _ _ _
    ·rw[dD hz,dD (show¬b.size+a+z<=b.size+e by omega)];simp[vz]
  ·rw[dD hl,dD Ue];rfl
def sW {S:d8}:∀(F:Nat) (d:MT) (m m':PM) (a e deep:Nat),vz 0 (eE S (b++t) F d m' (b.size+a) (b.size+e) deep)=vz b.size (eE S t F d m a e deep)
 |0,_,_,_,_,_,_=>rfl
 |F+1,d,m,m',a,e,deep=>by
  by_cases hl:a<e
  ·cases hr:fD t a e with
   |error x=>
    rw[gV hl hr,gV Ue (ut (c:=x.1) (p:=x.2) hr)];simp[vz]
   |ok r=>
    rw[g8 hl hr,g8 Ue (BS hr)]
    have hs:vz 0 (jn S (b++t) F d m' (r.sh b.size) deep)=vz b.size (jn S t F d m r deep):=by
     have hy:(b++t).extract (r.sh b.size).fr (r.sh b.size).e=t.extract r.fr r.e:=qw b t r.fr r.e;unfold jn;show vz 0 (match dR d.fs r.num with|none=>_|some f=>if r.kind=fG S f then _ else if r.kind=2/\f.isRep=true then _ else _)=_
     cases hf:dR d.fs r.num with
     |none=>rfl
     |some f=>
      simp only
      split
      ·unfold oW
       have hv:vz 0 (lU S (b++t) F f m' (r.sh b.size) deep)=vz b.size (lU S t F f m r deep):=by
        unfold lU xg mQ;rw[hy]
        cases hsb:eV S f with
        |some sub=>
         simp only
         by_cases hfar:oz S sub (deep+1)=true
         ·rw[dE hfar,dE hfar];simp[vz,oj.sh]
         ·rw[dD hfar,dD hfar];have:=sW (S:=S) F sub (eI f m).2.2 (eI f m').2.2 r.fr r.e (deep+1);rw[show(r.sh b.size).fr=b.size+r.fr from rfl,show(r.sh b.size).e=b.size+r.e from rfl]
          rcases yk this with⟨x,y,h1,h2⟩|⟨c,p,q,h1,h2,h3⟩<;>rw[h1,h2]
          ·rfl
          ·simp only[vz,h3]
        |none=>
         simp only;show vz 0 (if r.kind=2 then _ else _)=_
         split
         ·split<;>simp[vz,oj.sh]
         ·rfl
       rcases yk hv with⟨x,y,h1,h2⟩|⟨c,p,q,h1,h2,h3⟩<;>rw[h1,h2]
       ·rfl
       ·simp only[vz,CV,h3]
      ·split
       ·have hp:vz 0 (ko S (b++t) f (m'.get f.num) (r.sh b.size).fr (r.sh b.size).e)=vz b.size (ko S t f (m.get f.num) r.fr r.e):=by
         unfold ko;rw[show(r.sh b.size).fr=b.size+r.fr from rfl,show(r.sh b.size).e=b.size+r.e from rfl,show b.size+r.e-(b.size+r.fr)=r.e-r.fr by omega];exact BY _ _ _ _
        rcases yk hp with⟨x,y,h1,h2⟩|⟨c,p,q,h1,h2,h3⟩<;>rw[h1,h2]
        ·rfl
        ·simp only[vz,h3]
       ·rfl
    rcases yk hs with⟨x,y,h1,h2⟩|⟨c,p,q,h1,h2,h3⟩<;>rw[h1,h2]
    ·exact sW F d _ _ r.e e deep
    ·simp only[vz,Ho,h3]
  ·rw[gN hl,gN Ue];rfl
end
def N4 {α:Type}{k:Nat}{X:Fx α}(h:vz k X=none):∃x,X= .ok x:=by
 cases X with
 |ok x=>simp
 |error x=>cases h
def LI {S:d8}{nm a b:am}{x:PM}{c p:Int}(ha:fj S nm a= .ok x)(hb:fj S nm b= .error (c,p)):fj S nm (a++b)= .error (c,a.size+p):=by
 have⟨d,hd,h1⟩:=BQ (t:=b) ha;have h2:fj S nm b=eE S b (b.size+1) d PM.none 0 b.size 1:=by unfold fj;rw[hd]
 have h3:=sW (b:=a) (t:=b) (S:=S) (b.size+1) d PM.none x 0 b.size 1;rw[<-h2,hb,show a.size+0=a.size from rfl,<-h1]at h3
 rcases yk h3 with⟨_,_,_,h⟩|⟨_,q,_,h,h',hp⟩
 ·cases h
 simp_all
def N5 {S:d8}{nm a b c:am}{x y:PM}(ha:fj S nm a= .ok x)(hc:fj S nm c= .ok x)(hb:fj S nm b= .ok y):∃m,fj S nm (a++b)= .ok m/\fj S nm (c++b)= .ok m:=by
 have⟨d,hd,h1⟩:=BQ (t:=b) ha;have⟨d',hd',h2⟩:=BQ (t:=b) hc;obtain rfl:d=d':=by simp_all
 have h3:fj S nm b=eE S b (b.size+1) d PM.none 0 b.size 1:=by unfold fj;rw[hd]
 have h4:=sW (b:=a) (t:=b) (S:=S) (b.size+1) d PM.none x 0 b.size 1;rw[<-h3,hb,show a.size+0=a.size from rfl,<-h1]at h4;have h5:=sW (b:=a) (t:=b) (S:=S) (b.size+1) d x x 0 b.size 1;rw[show a.size+0=a.size from rfl,<-h1,h4]at h5;have⟨m,hm⟩:=N4 h5.symm;refine⟨m,h1.trans ?_,h2.trans ?_⟩
 ·simpa using qx (b:=a) (t:=b) (b.size+1) d x 0 b.size 1 m hm
 ·simpa using qx (b:=c) (t:=b) (b.size+1) d x 0 b.size 1 m hm
def sX {b:am}{x y:List UInt8}{c:UInt8}{i:Nat}(h:b.data.toList=x++c::y)(hi:i=x.length):fL b i=(c.toNat:Int):=by
 subst hi;rw[lB,h,cg (ay _)];simp
def DV {b:am}{a e:Nat}:∀(f:Nat) (v:Int) (i:Nat) (n:Int) (x y:List UInt8),i+f=9->0<=v->v<2^(64-7*i)->b.data.toList=x++(tZ f v++y)->x.length=a+i->a+i+(tZ f v).length<=e->
  lL b a e (f+1) i n= .ok (n+v*2^(7*i),a+i+(tZ f v).length)
 |0,v,i,n,x,y,hi,h0,h1,hb,hx,he=>by
  obtain rfl:i=9:=Ue;have h2:v<2:=h1
  have hc:fL b (a+9)=v:=by
   rw[sX (c:=Cq v) (y:=y) hb hx.symm,xL h0 Ue]
  rw[lL,hc,dE (by simp[tZ]at he;omega),dD Ue,dE Ue,show v%128=v by omega];rfl
 |f+1,v,i,n,x,y,hi,h0,h1,hb,hx,he=>by
  rw[tZ]at*
  by_cases hv:v<128
  ·rw[dE hv]at*
   have hc:fL b (a+i)=v:=by
    rw[sX (c:=Cq v) (y:=y) hb hx.symm,xL h0 Ue]
   rw[lL,hc,dE (by grind),dD Ue,dE hv,show v%128=v by omega];rfl
  ·rw[dD hv]at*
   have hc:fL b (a+i)=v%128+128:=by
    rw[sX (c:=Cq (v%128+128)) (y:=tZ f (v/128)++y) (by simp_all) hx.symm,xL Ue Ue]
   have hp:(2:Int)^(64-7*i)=2^(64-7*(i+1))*128:=by
    rw[show 64-7*i=64-7*(i+1)+7 by omega,Int.pow_add];rfl
   rw[hp]at h1;have ih:=DV (b:=b) (a:=a) (e:=e) f (v/128) (i+1) (n+(v%128+128)%128*2^(7*i)) (x++ [Cq (v%128+128)]) y Ue Ue (Int.ediv_lt_of_lt_mul Uh h1) (by simp_all) (by grind) (by grind);rw[lL,hc,dE (by grind),dD Ue,dD Ue,ih,zD];have e1:(v%128+128)%128=v%128:=Ue
   have e2:v*2^(7*i)=v%128*2^(7*i)+v/128*(128*2^(7*i)):=by
    grind
   rw[e1,e2,be];simp only[Except.ok.injEq,Prod.mk.injEq]
   constructor<;>omega
def we {b:am}{e:Nat}{v:Int}{x y:List UInt8}(hb:b.data.toList=x++(vi v++y))(h0:0<=v)(h1:v<18446744073709551616)(he:x.length+(vi v).length<=e):g9 b x.length e= .ok (v,x.length+(vi v).length):=by
 have:=DV (b:=b) (a:=x.length) (e:=e) 9 v 0 0 x y rfl h0 h1 hb rfl he;rw[g9,this];simp[vi]
def DW {b:am}:∀(n:Nat) (v:Int) (x:List UInt8) (i:Nat),0<=v->v<256^n->b.data.toList=x++ol n v->i=x.length->Hi b n i=v
 |0,v,x,i,h0,h1,_,_=>by
  have:v<1:=h1;rw[Hi];omega
 |n+1,v,x,i,h0,h1,hb,hi=>by
  subst hi
  have hs:x.length<b.size:=by
   have:b.data.toList.length=b.size:=Uf;rw[hb]at this;simp[ol]at this;omega
  rw[ol]at hb;rw[Hi,dE hs,sX hb rfl,xL Ue Ue,DW n (v/256) (x++ [Cq (v%256)]) (x.length+1) Ue (Int.ediv_lt_of_lt_mul Uh Ue) (by simpa using hb) Uf];omega
def wg {n:Nat}{v:Int}(h0:0<=v)(h1:v<256^n):wJ (bl (ol n v))=v:=by
 unfold wJ;rw[fK,ia];exact DW n v [] 0 h0 h1 rfl rfl
def pW {b:am}{x y z:List UInt8}(hb:b.data.toList=x++(y++z)):b.extract x.length (x.length+y.length)=bl y:=by
 refine iX ?_;rw[og,hb,ir,<-aZ,cY Uf,bY Uf];simp
section
variable {n:Int} (h0:1<=n) (h1:n<=536870911)
include h0 h1
def sY {b:am}{e:Nat}{k:Int}{y:List UInt8}(hk0:0<=k)(hk1:k<8)(hb:b.data.toList=eY n k++y)(he:(eY n k).length<=e):g9 b 0 e= .ok (n*8+k,(eY n k).length):=by
 have:=we (b:=b) (e:=e) (v:=n*8+k) (x:= []) (y:=y) hb Ue Ue (by unfold eY at he;simpa using he);simpa [eY]using this
def Qu {v:Int}(hv0:0<=v)(hv1:v<18446744073709551616):fD (bl (eY n 0++vi v)) 0 (bl (eY n 0++vi v)).size= .ok ⟨n,0,0,(eY n 0).length,(bl (eY n 0++vi v)).size,v⟩:=by
 unfold fD;rw[sY h0 h1 (y:=vi v) Uh Uh rfl (by rw[fK,aH];omega)];simp only;rw[dD Ue,dE Ue,we (x:=eY n 0) (y:= []) (by rw[bN];rfl) hv0 hv1 (by rw[fK,aH];omega)];simp only;rw[fK,aH,show(n*8+0)/8=n by omega]
def RI {v:Int}(hv0:0<=v)(hv1:v<18446744073709551616):fD (bl (eY n 1++ol 8 v)) 0 (bl (eY n 1++ol 8 v)).size= .ok ⟨n,1,0,(eY n 1).length,(bl (eY n 1++ol 8 v)).size,v⟩:=by
 have hx:=pW (b:=bl (eY n 1++ol 8 v)) (x:=eY n 1) (y:=ol 8 v) (z:= []) Uk;rw[ia]at hx;unfold fD;rw[sY h0 h1 (y:=ol 8 v) Uh Uh rfl (by rw[fK,aH];omega)];simp only;rw[dD Ue,dD Ue,dE Ue,dE (by rw[fK,aH,ia];omega),hx,wg hv0 hv1,fK,aH,ia,show(n*8+1)/8=n by omega]
def RJ {v:Int}(hv0:0<=v)(hv1:v<4294967296):fD (bl (eY n 5++ol 4 v)) 0 (bl (eY n 5++ol 4 v)).size= .ok ⟨n,5,0,(eY n 5).length,(bl (eY n 5++ol 4 v)).size,v⟩:=by
 have hx:=pW (b:=bl (eY n 5++ol 4 v)) (x:=eY n 5) (y:=ol 4 v) (z:= []) Uk;rw[ia]at hx;unfold fD;rw[sY h0 h1 (y:=ol 4 v) Uh Uh rfl (by rw[fK,aH];omega)];simp only;rw[dD Ue,dD Ue,dD Ue,dE Ue,dE (by rw[fK,aH,ia];omega),hx,wg hv0 hv1,fK,aH,ia,show(n*8+5)/8=n by omega]
def LJ {y:List UInt8}(hy:y.length<18446744073709551616):fD (bl (eY n 2++eZ y)) 0 (bl (eY n 2++eZ y)).size= .ok ⟨n,2,0,(eY n 2).length+(vi y.length).length,(bl (eY n 2++eZ y)).size,0⟩:=by
 unfold fD;rw[sY h0 h1 (y:=eZ y) Uh Uh rfl (by rw[fK,aH];omega)];simp only;rw[dD Ue,dD Ue,dD Ue,dD Ue,dE Ue,we (x:=eY n 2) (v:=y.length) (y:=y) rfl Ue Ue (by rw[fK,aH,eZ,aH];omega)];simp only;rw[fK,aH,eZ,aH,dE Ue,show(n*8+2)/8=n by omega]
 (simp;omega)
end
def BZ (a:List PF)(n:Int)(l:List PV):List PF:=if l.isEmpty then a else a++ [(n,l)]
section
variable {n:Int}
def Ar:∀{a:List PF},(∀x∈a,x.1≠n)->gz a n= []
 | [],_=>rfl
 |x::a,h=>by rw[gz,dD (h x aV),Ar λy hy=>h y (aT _ hy)]
def DX {l:List PV}:∀{a:List PF},(∀x∈a,x.1<n)->gz (a++ [(n,l)]) n=l
 | [],_=>by simp[gz]
 |x::a,h=>by
  have:=h x aV;rw[bf,gz,dD Ue,DX λy hy=>h y (aT _ hy)]
def DY {l:List PV}:∀{a:List PF},(∀x∈a,x.1<n)->gK n l false a=a++ [(n,l)]
 | [],_=>rfl
 |x::a,h=>by
  have:=h x aV;rw[gK,decide_eq_false Ue,dD Uf,dD Ue];simp only[cF];rw[DY λy hy=>h y (aT _ hy)];rfl
def As {l l':List PV}:∀{a:List PF},(∀x∈a,x.1<n)->gK n l false (a++ [(n,l')])=a++ [(n,l)]
 | [],_=>by simp[gK]
 |x::a,h=>by
  have:=h x aV;rw[bf,gK,decide_eq_false Ue,dD Uf,dD Ue];simp only[cF];rw[As λy hy=>h y (aT _ hy)];rfl
def DZ:∀{a:List PF},(∀x∈a,x.1≠n)->gK n [] true a=a
 | [],_=>rfl
 |x::a,h=>by
  rw[gK,dD Uf,dD (h x aV)];simp only[cJ];rw[DZ λy hy=>h y (aT _ hy)];rfl
variable {a:List PF} (h:∀x∈a,x.1<n)
include h
def Cb (l:List PV)(u:am):(PM.mk (BZ a n l) u).get n=l:=by
 show gz (BZ a n l) n=l;unfold BZ
 cases l with
 |nil=>exact Ar λx hx=>by grind
 |cons v l=>exact DX h
def Cc (l l':List PV)(u:am)(hl:l'≠ []):(PM.mk (BZ a n l) u).put n l'= .mk (BZ a n l') u:=by
 have he:l'.isEmpty=false:=by(simp;omega)
 show PM.mk (gK n l' l'.isEmpty (BZ a n l)) u=_;rw[he];unfold BZ;rw[he]
 cases l with
 |nil=>rw[dE Uk,DY h];rfl
 |cons v l=>rw[dD Uf,As h];rfl
omit h in
end
def Oa {m:PM}{n:Int}(h:∀x∈m.fs,x.1≠n):m.put n []=m:=by
 obtain⟨fs,u⟩:=m;show PM.mk (gK n [] true fs) u=_;rw[DZ (a:=fs) h]
def yn {f:eT}{m:PM}:∀{l:List eT},(∀o∈l,(gG o.how f.how&&jh o.how&&decide (o.num≠f.num))=true->∀x∈m.fs,x.1≠o.num)->io f l m=m
 | [],_=>rfl
 |o::l,h=>by
  rw[io]
  split
  ·rw[Oa (h o aV ‹_›)];exact yn λp hp=>h p (aT _ hp)
  ·exact yn λp hp=>h p (aT _ hp)
def yo {t:am}{v:PV}:∀{l:List PV},(∀x∈l,jW t (fE v) (fE x)=false/\gZ (fE v) (fE x)=false)->fY t v false l=l++ [v]
 | [],_=>rfl
 |x::l,h=>by
  have⟨h1,h2⟩:=h x aV;rw[fY,h1,h2];simp only[Bool.or_self,cB,cS];rw[yo λy hy=>h y (aT _ hy)];rfl
def uw {s:am}(h:om s=true):s=eS:=by
 refine iX ?_;unfold om at h;rw[List.isEmpty_iff,ByteArray.toList_eq]at h;rw[h];rfl
def sZ {m:PM}(h:yF m=true):m=PM.none:=by
 obtain⟨fs,u⟩:=m;unfold yF at h;simp only[aJ,List.isEmpty_iff]at h;obtain⟨h1,h2⟩:=h;have h1:fs= []:=h1;have h2:om u=true:=h2;rw[h1,uw h2];rfl
def GG (v:Int):ol 4 v=ol 4 (v%4294967296):=by
 simp only[ol,List.cons.injEq,and_true];refine⟨?_,?_,?_,?_⟩<;>(grind)
def RK {v:Int}(h0:0<=v)(h1:v<18446744073709551616):Co (Bu v)=v:=by
 unfold Co Bu
 split<;>split<;>omega
def LK {v:Int}(h0:0<=v)(h1:v<18446744073709551616):0<=Bu v/\Bu v<18446744073709551616:=by
 unfold Bu
 split<;>omega
def Ob {v:Int}(h0:0<=v)(h1:v<18446744073709551616)(h:v=mh v):Co (Bu v%4294967296)=v:=by
 unfold mh at h;unfold Co Bu
 split at h<;>split<;>split<;>omega
def D4 (k:Nat)(v:Int):List UInt8:=
 if k=7\/k=9\/k=11 then ol 4 v else if k=8\/k=10\/k=12 then ol 8 v else if k=4\/k=5 then vi (Bu v)else vi v
def yq {k:Nat}{v:Int}(hk:eO k=true)(hv0:0<=v)(hv1:v<18446744073709551616)(ho:Cr k v=true):
  (ee k=0/\∃u,D4 k v=vi u/\0<=u/\u<18446744073709551616/\kD k u=v)\/(ee k=5/\D4 k v=ol 4 v/\kD k (v%4294967296)=v)\/(ee k=1/\D4 k v=ol 8 v/\kD k v=v):=by
 have Uq:k=0\/k=1\/k=2\/k=3\/k=4\/k=5\/k=6\/k=7\/k=8\/k=9\/k=10\/k=11\/k=12\/k=15:=by
  unfold eO at hk
  grind
 have⟨z0,z1⟩:=LK hv0 hv1;have q:∀{x:Int},(v==x)=true->x=v:=λh=>(beq_iff_eq.1 h).symm
 rcases Uq with rfl|rfl|rfl|rfl|rfl|rfl|rfl|rfl|rfl|rfl|rfl|rfl|rfl|rfl
 ·exact .inl ⟨rfl,v,rfl,hv0,hv1,q ho⟩
 ·exact .inl ⟨rfl,v,rfl,hv0,hv1,rfl⟩
 ·exact .inl ⟨rfl,v,rfl,hv0,hv1,q ho⟩
 ·exact .inl ⟨rfl,v,rfl,hv0,hv1,rfl⟩
 ·exact .inl ⟨rfl,_,rfl,z0,z1,Ob hv0 hv1 (q ho).symm⟩
 ·exact .inl ⟨rfl,_,rfl,z0,z1,RK hv0 hv1⟩
 ·exact .inl ⟨rfl,v,rfl,hv0,hv1,q ho⟩
 ·exact .inr (.inl ⟨rfl,rfl,q ho⟩)
 ·exact .inr (.inr ⟨rfl,rfl,rfl⟩)
 ·refine .inr (.inl ⟨rfl,rfl,?_⟩);have h:=q ho;show mh (v%4294967296)=v;unfold mh at*
  split at h<;>split<;>omega
 ·exact .inr (.inr ⟨rfl,rfl,rfl⟩)
 ·exact .inr (.inl ⟨rfl,rfl,q ho⟩)
 ·exact .inr (.inr ⟨rfl,rfl,rfl⟩)
 ·exact .inl ⟨rfl,v,rfl,hv0,hv1,q ho⟩
def Oc {k:Nat}{n v:Int}(hk:eO k=true)(h0:1<=n)(h1:n<=536870911)(hv0:0<=v)(hv1:v<18446744073709551616)(ho:Cr k v=true):
  ∃r,fD (bl (eY n (ee k)++D4 k v)) 0 (bl (eY n (ee k)++D4 k v)).size= .ok r/\r.num=n/\r.kind=ee k/\r.e=(bl (eY n (ee k)++D4 k v)).size/\kD k r.n=v:=by
 rcases yq hk hv0 hv1 ho with⟨e1,u,e2,u0,u1,e3⟩|⟨e1,e2,e3⟩|⟨e1,e2,e3⟩
 ·rw[e1,e2];exact⟨_,Qu h0 h1 u0 u1,rfl,rfl,rfl,e3⟩
 ·rw[e1,e2,GG];exact⟨_,RJ h0 h1 Ue Ue,rfl,rfl,rfl,e3⟩
 ·rw[e1,e2];exact⟨_,RI h0 h1 hv0 hv1,rfl,rfl,rfl,e3⟩
theorem kB (S:d8)(f:eT):fG S f=ee (fB S f):=by
 unfold fG fB d8.wire
 cases f.isMap<;>rfl
section
variable {S:d8} {d:MT} {f:eT} {m:PM} {deep:Nat} {n:Int} (h0:1<=n) (h1:n<=536870911) (hf:dR d.fs n=some f)
include h0 h1 hf
theorem Qv {v:Int}(hM:f.isMap=false)(hs:eV S f=none)(hk:eO (fB S f)=true)(hv0:0<=v)(hv1:v<18446744073709551616)(ho:Cr (fB S f) v=true):
  rd S (bl (eY n (ee (fB S f))++D4 (fB S f) v)) d m deep= .ok (gF S d f m (v,eS,PM.none)):=by
 have⟨r,hr,r1,r2,r3,r4⟩:=Oc hk h0 h1 hv0 hv1 ho;refine BU hr r3 ?_;have hb:fB S f=S.base f.ty:=by unfold fB;simp_all
 have h2:r.kind≠2:=by
  rw[r2]
  rcases yq hk hv0 hv1 ho with⟨e,_⟩|⟨e,_⟩|⟨e,_⟩<;>rw[e]<;>decide
 unfold jn;rw[r1,hf];simp only;rw[if_pos (by rw[r2,kB])];unfold oW lU;rw[hs];simp only;unfold mQ;rw[if_neg h2,<-hb,r4];rfl
theorem LM {s:am}(hs:eV S f=none)(hw:fG S f=2)(hu:gG f.ty kE=true->RZ s=true)(hz:s.size<18446744073709551616):
  rd S (bl (eY n 2++eZ s.data.toList)) d m deep= .ok (gF S d f m (0,s,PM.none)):=by
 have hl:s.data.toList.length=s.size:=by simp
 have hr:=LJ h0 h1 (y:=s.data.toList) (by omega);refine BU hr rfl ?_
 have hx:(bl (eY n 2++eZ s.data.toList)).extract ((eY n 2).length+(vi s.data.toList.length).length) (bl (eY n 2++eZ s.data.toList)).size=s:=by
  have:=pW (b:=bl (eY n 2++eZ s.data.toList)) (x:=eY n 2++vi s.data.toList.length) (y:=s.data.toList) (z:= []) (by rw[ir,eZ];simp);rw[aH,BX]at this;rw[fK,aH,eZ,aH,<-cN];exact this
 unfold jn;simp only;rw[hf];simp only;rw[if_pos hw.symm];unfold oW lU;rw[hs];simp only;unfold mQ;simp only
 rw[if_pos trivial,hx,if_neg (by
  (simp;omega))]
 rfl
theorem Qw {sub:MT}{y:List UInt8}{sm:PM}(hs:eV S f=some sub)(hw:fG S f=2)(hfar:oz S sub (deep+1)=false)(hy:rd S (bl y) sub (eI f m).2.2 (deep+1)= .ok sm)(hz:y.length<18446744073709551616):
  rd S (bl (eY n 2++eZ y)) d m deep= .ok (gF S d f m ((eI f m).1,(eI f m).2.1,sm)):=by
 have hr:=LJ h0 h1 (y:=y) hz;refine BU hr rfl ?_
 have hx:=RG (s:=bl (eY n 2++vi y.length)) hy (F:=(bl (eY n 2++eZ y)).size) (by
  rw[fK,fK,aH,eZ,aH];have:=(m8 9 (n*8+2)).2;have e:(eY n 2).length=(tZ 9 (n*8+2)).length:=rfl
  omega)
 have eL:(bl (eY n 2++eZ y)).size=(eY n 2).length+(vi y.length).length+y.length:=by rw[fK,aH,eZ,aH];omega
 have eB:bl (eY n 2++vi y.length)++bl y=bl (eY n 2++eZ y):=by rw[<-oJ,aZ];rfl
 have eA:(bl (eY n 2++vi y.length)).size=(eY n 2).length+(vi y.length).length:=by rw[fK,aH]
 rw[eB,eA,eL,fK]at hx;unfold jn;simp only;rw[hf];simp only;rw[if_pos hw.symm];unfold oW lU xg;rw[hs];simp only;rw[if_neg (by(simp;omega)),eL];rw[hx];rfl
omit h0 h1 hf in
theorem At {k:Nat}{b:am}(hk:eO k=true):∀(l acc:List PV) (x:List UInt8) (F:Nat),b.data.toList=x++l.flatMap (fun v=>D4 k v.1)->(∀v∈l,v.2=(eS,PM.none)/\0<=v.1/\v.1<18446744073709551616/\Cr k v.1=true)->b.size-x.length<=F->fw b k b.size F acc x.length= .ok (acc++l)
 | [],acc,x,F,hb,_,_=>by
  have hz:b.data.toList.length=b.size:=by simp
  rw[hb]at hz;simp at hz
  cases F with
  |zero=>simp[fw]
  |succ F=>rw[fw,if_neg (by omega)];simp
 |v::l,acc,x,F,hb,hv,hF=>by
  have hz:b.data.toList.length=b.size:=by simp
  rw[bi]at hb;rw[hb,aH,aH]at hz;have⟨e0,v0,v1,vo⟩:=hv v aV;have e0:v=(v.1,eS,PM.none):=cU rfl e0;have ih:=fun(y:List UInt8) (F:Nat) (hy:y=D4 k v.1) (q:b.size-(x++y).length<=F)=>At hk l (acc++ [v]) (x++y) F (by rw[hb,hy,aZ]) (fun u hu=>hv u (aT _ hu)) q
  rw[List.append_cons]
  rcases yq hk v0 v1 vo with⟨e1,u,e2,u0,u1,e3⟩|⟨e1,e2,e3⟩|⟨e1,e2,e3⟩
  ·rw[e2]at hb hz;have hp:=(m8 9 u).2;have ep:(vi u).length=(tZ 9 u).length:=rfl
   cases F with
   |zero=>omega
   |succ F=>
    rw[fw,if_pos (by omega),if_pos e1,we hb u0 u1 (by omega)]
    grind
  ·rw[e2]at hb hz;have ep:=ia 4 v.1;have hx:=pW hb;rw[ep]at hx
   cases F with
   |zero=>omega
   |succ F=>
    rw[fw,if_pos (by omega),if_neg (by omega)];simp only;rw[if_pos e1,if_pos (by omega),hx,GG,wg (by omega) (by omega),e3,<-e0];have:=ih _ F e2.symm (by(simp;omega))
    rwa [aH,ep]at this
  ·rw[e2]at hb hz;have ep:=ia 8 v.1;have hx:=pW hb;rw[ep]at hx
   cases F with
   |zero=>omega
   |succ F=>
    rw[fw,if_pos (by omega),if_neg (by omega)];simp only;rw[if_neg (show¬ee k=5 by omega),if_pos (by omega),hx,wg v0 v1,e3,<-e0];have:=ih _ F e2.symm (by(simp;omega))
    rwa [aH,ep]at this
theorem Od {l:List PV}(hM:f.isMap=false)(hR:f.isRep=true)(hk:eO (fB S f)=true)(hn:f.num=n)(hv:∀v∈l,v.2=(eS,PM.none)/\0<=v.1/\v.1<18446744073709551616/\Cr (fB S f) v.1=true)(hz:(l.flatMap fun v=>D4 (fB S f) v.1).length<18446744073709551616):
  rd S (bl (eY n 2++eZ (l.flatMap fun v=>D4 (fB S f) v.1))) d m deep= .ok (m.put n (m.get n++l)):=by
 have hr:=LJ h0 h1 hz;refine BU hr rfl ?_;have hb:fB S f=S.base f.ty:=by unfold fB;simp_all
 have hw:ee (fB S f)≠2:=by
  unfold eO at hk;simp only[ci,decide_eq_true_eq]at hk;have:fB S f=0\/fB S f=1\/fB S f=2\/fB S f=3\/fB S f=4\/fB S f=5\/fB S f=6\/fB S f=7\/fB S f=8\/fB S f=9\/fB S f=10\/fB S f=11\/fB S f=12\/fB S f=15:=by omega
  rcases this with h|h|h|h|h|h|h|h|h|h|h|h|h|h<;>rw[h]<;>decide
 unfold jn;simp only;rw[hf];simp only;rw[if_neg (by rw[kB];omega),if_pos ⟨trivial,hR⟩];unfold ko;rw[<-hb,hn];have:=At (b:=bl (eY n 2++eZ (l.flatMap fun v=>D4 (fB S f) v.1))) hk l (m.get n) (eY n 2++vi (l.flatMap fun v=>D4 (fB S f) v.1).length) _ (by rw[ir,eZ,aZ]) hv (ay _);rw[aH]at this;rw[this]
end
section
variable (S:d8) {f:eT} {R:MT->PM->Bool} {B:MT->PM->List UInt8} {v:PV}
def Oe (S:d8)(f:eT):Prop:=fB S f=16<->(eV S f).isSome=true
theorem IB (t:am):S.base t<=16:=by
 unfold d8.base
 split
 ·rename_i k hk
  have⟨i,h1,h2⟩:=EF _ _ _ _ hk;have:=(bX.1 h2).1;have e:mN.length=15:=by decide
  omega
 grind
theorem td (f:eT):fB S f<=16:=by
 unfold fB
 split
 ·omega
 ·exact IB S _
theorem GH (h:f.isRep=true):f.isMap=false:=by
 unfold eT.isRep at h;unfold eT.isMap;rw[gw]at h;unfold gG;rw[h];decide+kernel
theorem yr {S:d8}(h:f.isMap=true):fB S f=16:=by
 unfold fB
 simp_all
section
variable {S:d8} {d:MT} {f:eT} {deep:Nat} {n:Int} {a:List PF} {u:am}
theorem Of {g:PV->List UInt8}(l:List PV)(step:∀done v rest,l=done++v::rest->rd S (bl (g v)) d (.mk (BZ a n done) u) deep= .ok (.mk (BZ a n (done++ [v])) u)):
  rd S (bl (l.flatMap g)) d (.mk a u) deep= .ok (.mk (BZ a n l) u):=by
 have:∀rest done,l=done++rest->rd S (bl (rest.flatMap g)) d (.mk (BZ a n done) u) deep= .ok (.mk (BZ a n l) u):=fun rest=>by
  induction rest with
  |nil=>
   intro done h;rw[bN]at h;subst h;rfl
  |cons v rest ih=>
   intro done h;rw[bi,oJ];exact Fp (step done v rest h) (ih (done++ [v]) (by(simp;omega)))
 exact this l [] rfl
variable (h0:1<=n) (h1:n<=536870911) (hf:dR d.fs n=some f) (hS:Oe S f)
include h0 h1 hf hS
theorem Qx {m:PM}(hp:ig S f=false)(Uu:eI f m=PV.none)(hv:er S R f v=true)
  (hv0:0<=v.1) (hv1:v.1<18446744073709551616) (hvs:v.2.1.size<18446744073709551616)
  (ih:∀t,eV S f=some t->R t v.2.2=true->rd S (bl (B t v.2.2)) t PM.none (deep+1)= .ok v.2.2/\oz S t (deep+1)=false/\(B t v.2.2).length<18446744073709551616):
  rd S (bl (eY n (nZ S f)++fS S B f v)) d m deep= .ok (gF S d f m v):=by
 have Uw:nZ S f=ee (fB S f):=by unfold nZ;simp_all
 rw[Uw];unfold er at hv;unfold fS
 by_cases Ur:fB S f=16
 ·rw[if_pos Ur]at*;have⟨t,ht⟩:=bZ.1 (hS.1 Ur);rw[ht]at hv⊢;simp only[aJ,decide_eq_true_eq]at hv;obtain⟨⟨z1,z2⟩,z3⟩:=hv;have⟨i1,i2,i3⟩:=ih t ht z3;have hw:fG S f=2:=by rw[kB,Ur];rfl
  have:=Qw (m:=m) h0 h1 hf ht hw i2 (by rw[Uu];exact i1) i3;rw[Uu]at this;rw[Ur];have e:v=(PV.none.1,PV.none.2.1,v.2.2):=cU z1 (cU (uw z2) rfl);exact this.trans (by rw[<-e])
 ·have Ux:eV S f=none:=by
   cases hs:eV S f with
   |none=>rfl
   |some t=>exact absurd (hS.2 (by simp_all)) Ur
  have hM:f.isMap=false:=by
   cases hm:f.isMap with
   |false=>rfl
   |true=>exact absurd (yr hm) Ur
  have hb:fB S f=S.base f.ty:=by unfold fB;simp_all
  rw[if_neg Ur]at*
  by_cases h13:fB S f=13
  ·rw[if_pos h13]at hv;rw[if_pos (.inl h13)];simp only[aJ,decide_eq_true_eq]at hv;obtain⟨⟨z1,z2⟩,z3⟩:=hv;have hw:fG S f=2:=by rw[kB,h13];rfl
   have:=LM (m:=m) (deep:=deep) h0 h1 hf Ux hw (s:=v.2.1) (fun _=>by rw[tI];exact z3) hvs;rw[h13];have e:v=(0,v.2.1,PM.none):=cU z1 (cU rfl (sZ z2));exact this.trans (by rw[<-e])
  ·rw[if_neg h13]at hv
   by_cases h14:fB S f=14
   ·rw[if_pos h14]at hv;rw[if_pos (.inr h14)];simp only[aJ,decide_eq_true_eq]at hv;obtain⟨z1,z2⟩:=hv;have hw:fG S f=2:=by rw[kB,h14];rfl
    have:=LM (m:=m) (deep:=deep) h0 h1 hf Ux hw (s:=v.2.1) (fun q=>by
     have:=lx (S:=S).2 q
     omega) hvs
    rw[h14];have e:v=(0,v.2.1,PM.none):=cU z1 (cU rfl (sZ z2));exact this.trans (by rw[<-e])
   ·rw[if_neg h14]at hv;rw[if_neg (by omega)];simp only[aJ]at hv;obtain⟨⟨z1,z2⟩,z3⟩:=hv
    have hk:eO (fB S f)=true:=by
     have:=td S f;unfold eO
     (simp;omega)
    have:=Qv (m:=m) (deep:=deep) h0 h1 hf hM Ux hk hv0 hv1 z3;have e:v=(v.1,eS,PM.none):=cU rfl (cU (uw z1) (sZ z2));exact this.trans (by rw[<-e])
omit h0 h1 hf hS in
theorem LN (hk:eO (fB S f)=true):fS S B f v=D4 (fB S f) v.1:=by
 unfold eO at hk;simp only[ci,decide_eq_true_eq]at hk;unfold fS D4;rw[if_neg (by omega),if_neg (by omega)]
omit h0 h1 hf hS in
theorem qy (hk:eO (fB S f)=true)(hv:er S R f v=true):v.2=(eS,PM.none)/\Cr (fB S f) v.1=true:=by
 unfold eO at hk;simp only[ci,decide_eq_true_eq]at hk;unfold er at hv;rw[if_neg (by omega),if_neg (by omega),if_neg (by omega)]at hv;simp only[aJ]at hv;exact⟨cU (uw hv.1.1) (sZ hv.1.2),hv.2⟩
theorem LO {l:List PV}(hnx:jO (kL d f) n a=true)(hL:fy S R f l=true)
  (hv:∀v∈l,0<=v.1/\v.1<18446744073709551616/\v.2.1.size<18446744073709551616) (hz:(l.flatMap fun v=>fS S B f v).length<18446744073709551616)
  (ih:∀v∈l,∀t,eV S f=some t->R t v.2.2=true->rd S (bl (B t v.2.2)) t PM.none (deep+1)= .ok v.2.2/\oz S t (deep+1)=false/\(B t v.2.2).length<18446744073709551616)
  (hE:f.isMap=true->(∀v∈l,fZ v.2.2=v.2.2)/\l.Pairwise fun x y=>jW f.key (fE y) (fE x)=false/\gZ (fE y) (fE x)=false):
  rd S (bl (jU S B f l)) d (.mk a u) deep= .ok (.mk (a++ [(n,l)]) u):=by
 have Uq:f.num=n:=(eW hf).1;unfold jO at hnx;simp only[bS,aJ,decide_eq_true_eq,cn,decide_eq_false_iff_not]at hnx;have ha:∀x∈a,x.1<n:=fun x hx=>(hnx x hx).1
 unfold fy at hL;simp only[aJ,bS]at hL;obtain⟨⟨hH,hV⟩,Uv⟩:=hL
 have Uz:l≠ []:=by
  rintro rfl;unfold oG at hH;simp at hH
 have UA:BZ a n l=a++ [(n,l)]:=by
  unfold BZ;rw[if_neg (by simpa using Uz)]
 rw[<-UA];unfold jU
 by_cases hp:ig S f=true
 ·rw[if_pos hp];have Uy:=hp;unfold ig at Uy;simp only[aJ]at Uy;obtain⟨hR,hk⟩:=Uy;have hM:=GH hR;have Uw:nZ S f=2:=by unfold nZ;simp_all
  have eb:mG S B f l=l.flatMap fun v=>D4 (fB S f) v.1:=by
   unfold mG
   congr 1
   funext v;exact LN hk
  have ez:(l.flatMap fun v=>fS S B f v)=l.flatMap fun v=>D4 (fB S f) v.1:=eb
  rw[ez]at hz;rw[Uw,Uq,eb,Od h0 h1 hf hM hR hk Uq (fun v hm=>⟨(qy hk (hV v hm)).1,(hv v hm).1,(hv v hm).2.1,(qy hk (hV v hm)).2⟩) hz];have e0:a=BZ a n []:=rfl;rw[e0,Cb ha,Cc ha _ _ _ (by simpa using Uz)];rfl
 ·have hp:ig S f=false:=by simp_all
  rw[if_neg (by omega)];refine Of l fun done v rest hl=> ?_
  have hm:v∈l:=by simp_all
  have Us:(f.isRep||f.isMap)=true\/done= []:=by
   cases hrm:(f.isRep||f.isMap)with
   |true=>simp
   |false=>
    right
    unfold oG at hH;rw[hrm,hl]at hH;simp at hH
    cases done with
    |nil=>rfl
    |cons x r=>grind
  have Uu:eI f (.mk (BZ a n done) u)=PV.none:=by
   unfold eI
   rcases Us with h|h
   ·rw[if_pos h]
   ·subst h;rw[Uq,Cb ha]
    split<;>rfl
  rw[Uq,Qx h0 h1 hf hS (R:=R) (m:= .mk (BZ a n done) u) hp Uu (hV v hm) (hv v hm).1 (hv v hm).2.1 (hv v hm).2.2 (ih v hm)]
  congr 1;unfold gF;rw[Uq]
  by_cases hM:f.isMap=true
  ·have⟨Ut,hpw⟩:=hE hM;rw[if_pos hM,Cb ha,Ut v hm];unfold jt
   rw[show(v.1,v.2.1,v.2.2)=v from rfl,yo (fun x hx=>by
    grind),Cc ha _ _ _ (by simp)]
  ·rw[if_neg hM]
   by_cases hR:f.isRep=true
   ·rw[if_pos hR,Cb ha,Cc ha _ _ _ (by simp)]
   ·rw[if_neg hR]
    have UB:done= []:=by
     simp_all
    subst UB
    have UC:l= [v]:=by
     unfold oG at hH
     simp_all
    have UD:(gG f.how eS&&(eV S f).isNone&&decide (v.1=0)&&gG v.2.1 eS)=false:=by
     cases hq:(gG f.how eS&&(eV S f).isNone&&decide (v.1=0)&&gG v.2.1 eS)with
     |false=>rfl
     |true=>
      exfalso;simp only[aJ,decide_eq_true_eq]at hq;obtain⟨⟨⟨q1,q2⟩,q3⟩,q4⟩:=hq
      have Ur:fB S f≠16:=fun e=>by
       have:=hS.1 e
       simp_all
      unfold kz at Uv;rw[if_neg hM,if_pos ⟨q1,Ur⟩,UC]at Uv;simp only[cn,Bool.and_eq_false_iff,decide_eq_false_iff_not]at Uv
      rcases Uv with h|h
      ·omega
      ·rw[gw]at q4;unfold om at h;rw[q4]at h
       revert h;decide+kernel
    rw[UD,if_neg (by decide),yn (fun o ho hc x hx=>by
     have hx:x∈a:=hx;have:=(hnx x hx).2;intro e;refine this ?_;unfold kL
     grind),Cc ha _ _ _ (by simp)]
    rfl
end
end
section
variable {s:am} {a k deep:Nat} {kind:Int} {S:d8} {d:MT}
theorem GI {z:Nat}{num:Int}{r:oj}(hk:kind=0\/kind=1\/kind=2\/kind=5)(h:fx s a num kind z= .ok r):r.num=num/\(r.kind:Int)=kind/\r.a=a:=by
 rcases hk with rfl|rfl|rfl|rfl
 ·have h:=(EC s a num z).symm.trans h
  grind
 ·have h:=(ED s a num z).symm.trans h
  grind
 ·have h:=(tM s a num z).symm.trans h
  grind
 ·have h:=(EE s a num z).symm.trans h
  grind
theorem D5 {x:(Int×Int)×Nat}(h:ju s a= .ok x):x.1.2=0\/x.1.2=1\/x.1.2=2\/x.1.2=5:=by
 unfold ju at h
 grind
theorem Cd (s:am):s.extract 0 s.size=s:=iX Uf
theorem LP (s:am){e:Nat}(ha:a<=e):s.extract a e++s.extract e s.size=s.extract a s.size:=by
 refine iX ?_;have hl:s.data.toList.length=s.size:=Uf;rw[oe,og,og,og,bY (Nat.le_of_eq hl),List.drop_take];have:s.data.toList.drop a=(s.data.toList.drop a).take (e-a)++(s.data.toList.drop a).drop (e-a):=(ca _ _).symm;rw[List.drop_drop,show a+(e-a)=e by omega]at this
 grind
theorem Og {num:Int}(hk:(k:Int)=kind)(h:pO S d num kind=false):∀f,dR d.fs num=some f->k≠fG S f/\¬(k=2/\f.isRep=true):=λf hf=>by
 unfold pO at h;rw[hf]at h;simp only[dd,Bool.and_eq_false_iff,beq_eq_false_iff_ne]at h;obtain⟨h1,h2⟩:=h;rw[kB];refine⟨λe=>h1 (by rw[<-hk,e]),λ⟨e1,e2⟩=> ?_⟩
 have hp:ig S f=false:=by
  simp_all
 unfold ig at hp;rw[e2,cz]at hp;unfold eO at hp;simp only[dd,decide_eq_false_iff_not]at hp;have hle:=td S f;have:fB S f=13\/fB S f=14\/fB S f=16:=Ue;refine h1 ?_;rw[<-hk,e1]
 rcases this with h|h|h<;>rw[h]<;>rfl
theorem GJ:∀(G F a:Nat) (m:PM),mR (pO S d) s G a=true->a<=s.size->s.size-a<F->eE S s F d m a s.size deep= .ok (m.keep (s.extract a s.size))
 |0,_,_,_,h,_,_=>by cases h
 |_+1,0,_,_,_,_,h=>absurd h Ue
 |G+1,F+1,a,m,h,ha,hF=>by
  rw[mR]at h
  by_cases hl:a<s.size
  ·rw[dE hl]at h;unfold Ny at h
   split at h
   ·cases h
   ·rename_i x ht
    simp only[aJ,cn]at h;obtain⟨h1,h2⟩:=h;unfold Ku at h2
    split at h2
    ·cases h2
    ·rename_i y hy
     rw[qj s a x.1.1]at hy
     split at hy
     ·cases hy
     ·rename_i r hr
      cases hy
      have Uq:fD s a s.size= .ok r:=by
       rw[<-vL (ay _),Cd,qi,ht];exact hr
      have⟨r1,r2,r3⟩:=GI (D5 ht) hr;have⟨q1,q2,q3,q4,q5,_⟩:=iA Uq;rw[oD hl Uq (by rw[r1];exact Og r2 h1),GJ G F r.e _ h2 q5 Ue];obtain⟨fs,u⟩:=m;show Except.ok (PM.mk fs (u++s.extract r.a r.e++s.extract r.e s.size))=Except.ok (PM.mk fs (u++s.extract a s.size));rw[r3,ByteArray.append_assoc,LP s Ue]
  ·rw[gN hl];obtain⟨fs,u⟩:=m;show _=Except.ok (PM.mk fs (u++s.extract a s.size))
   have:s.extract a s.size=eS:=iX (by
    rw[og,List.drop_eq_nil_of_le Ug]
    rfl)
   rw[this];have:u++eS=u:=iX (by rw[oe];exact bN _);rw[this]
theorem Qy {m:PM}(h:rF (pO S d) s=true):rd S s d m deep= .ok (m.keep s):=by
 have:=GJ (deep:=deep) (s.size+1) (s.size+1) 0 m h (aL _) Ue
 rwa [Cd]at this
def mT (f:eT):eT:=⟨nt,f.key,eS,kI,1⟩
def qN (f:eT):eT:=⟨po,f.ty,eS,kI,2⟩
theorem kY:(kI.toList==CE.toList)=false/\(kI.toList==IU.toList)=false/\(kI.toList==eS.toList)=false:=Ui
theorem Au {f:eT}{e:PM}(h:dP S (k+1) (et f) e=true)(hl:(e.fs.length==2)=true)(hu:om e.unk=true):
  ∃x y,e= .mk [(1,[x]),(2,[y])] eS/\er S (dP S k) (mT f) x=true/\er S (dP S k) (qN f) y=true:=by
 obtain⟨fs,u⟩:=e;have hu:u=eS:=uw hu;subst hu;have hl:(fs.length==2)=true:=hl;have hl:fs.length=2:=by simp_all
 obtain⟨p,q,rfl⟩:∃p q,fs= [p,q]:=by
  match fs,hl with
  | [p,q],_=>simp
 obtain⟨n1,l1⟩:=p;obtain⟨n2,l2⟩:=q;rw[dP]at h;simp only[aJ]at h;have h:=h.1;have hx:gE S (dP S k) (et f) [] [(n1,l1),(n2,l2)]=true:=h;rw[gE,gE,gE]at hx;simp only[dl,aJ,aS]at hx;obtain⟨h1,h2⟩:=hx
 have fnd:∀n g,dR (et f).fs n=some g->(n=1/\g=mT f)\/(n=2/\g=qN f):=λn g hg=>by
  simp only[et,dR]at hg
  split at hg
  ·cases hg;exact .inl ⟨Ue,rfl⟩
  ·split at hg
   ·cases hg;exact .inr ⟨Ue,rfl⟩
   ·cases hg
 have one:∀g l,g=mT f\/g=qN f->fy S (dP S k) g l=true->∃x,l= [x]/\er S (dP S k) g x=true:=λg l hg hL=>by
  have Ur:g.isRep=false/\g.isMap=false:=by
   rcases hg with rfl|rfl<;>exact⟨kY.2.1,kY.1⟩
  unfold fy oG at hL;rw[Ur.1,Ur.2]at hL;simp only[cF,cA,aJ,beq_iff_eq,bS]at hL;obtain⟨⟨q1,q2⟩,_⟩:=hL
  match l,q1 with
  | [x],_=>simp_all
 cases hf1:dR (et f).fs n1 with
 |none=>simp_all
 |some g1=>
  rw[hf1]at h1
  cases hf2:dR (et f).fs n2 with
  |none=>simp_all
  |some g2=>
   rw[hf2]at h2;simp only[aJ]at h1 h2
   have hlt:n1<n2:=by
    have:=h2.1;unfold jO at this
    simp_all
   grind
theorem D6 (x y:PV):fZ (.mk [(1,[x]),(2,[y])] eS)= .mk [(1,[x]),(2,[y])] eS:=by
 rfl
end
section
variable {f:eT} {n:Int} {S:d8} {k:Nat} {t:MT}
structure RL (S:d8):Prop where
 name:∀d∈S.ms,gG d.name eS=false
 num:∀d∈S.ms,∀n f,dR d.fs n=some f->1<=n/\n<=536870911
 sub:∀d∈S.ms,∀f∈d.fs,S.base f.ty=16<->(S.msg f.ty).isSome=true
 key:∀d∈S.ms,∀f∈d.fs,f.isMap=true->S.msg f.key=none/\(eO (S.base f.key)=true\/S.base f.key=13)/\jI (S.base f.key)=eM iL f.key
def ux (S:d8)(d:MT):Prop:=d∈S.ms\/∃d'∈S.ms,∃f∈d'.fs,f.isMap=true/\d=et f
theorem mJ {g:eT}(h:dR (et f).fs n=some g):(n=1/\g=mT f)\/(n=2/\g=qN f):=by
 simp only[et,dR]at h
 split at h
 ·cases h;exact .inl ⟨Ue,rfl⟩
 ·split at h
  ·cases h;exact .inr ⟨Ue,rfl⟩
  ·cases h
theorem iY (f:eT):(mT f).isMap=false/\(qN f).isMap=false/\(mT f).isRep=false/\(qN f).isRep=false:=⟨kY.1,kY.1,kY.2.1,kY.2.1⟩
theorem kZ (h:f.isMap=false):fB S f=S.base f.ty:=by unfold fB;rw[h];rfl
theorem mK (h:f.isMap=false):eV S f=S.msg f.ty:=by unfold eV;rw[h];rfl
theorem kC (h:f.isMap=true):eV S f=some (et f):=by unfold eV;rw[h];rfl
theorem O5 (h:eO k=true\/k=13):k≠16:=by
 rcases h with h|h
 ·unfold eO at h
  grind
 ·omega
section
variable {S:d8} (hS:RL S) {d:MT}
include hS
theorem ux.num (h:ux S d)(hf:dR d.fs n=some f):1<=n/\n<=536870911:=by
 rcases h with h|⟨d',hd,g,hg,hm,rfl⟩
 ·exact hS.num d h n f hf
 ·rcases mJ hf with⟨rfl,_⟩|⟨rfl,_⟩<;>exact⟨Ue,Ue⟩
theorem ux.subF (h:ux S d)(hf:dR d.fs n=some f):Oe S f:=by
 unfold Oe
 rcases h with h|⟨d',hd,g,hg,hm,rfl⟩
 ·cases hM:f.isMap with
  |true=>rw[yr hM,kC hM];simp
  |false=>rw[kZ hM,mK hM];exact hS.sub d h f (eW hf).2
 ·rcases mJ hf with⟨_,rfl⟩|⟨_,rfl⟩
  ·have⟨k1,k2,_⟩:=hS.key d' hd g hg hm;rw[kZ (iY g).1,mK (iY g).1];show S.base g.key=16<->(S.msg g.key).isSome=true;rw[k1];have:=O5 k2;simp[this]
  ·rw[kZ (iY g).2.1,mK (iY g).2.1];exact hS.sub d' hd g hg
omit hS in
theorem ux.sub (h:ux S d)(hf:dR d.fs n=some f)(ht:eV S f=some t):ux S t:=by
 cases hM:f.isMap with
 |false=>rw[mK hM]at ht;exact .inl (iV ht)
 |true=>
  rw[kC hM]at ht
  cases ht
  rcases h with h|⟨d',hd,g,hg,hm,rfl⟩
  ·exact .inr ⟨d,h,f,(eW hf).2,hM,rfl⟩
  ·rcases mJ hf with⟨_,rfl⟩|⟨_,rfl⟩
   ·rw[(iY g).1]at hM;cases hM
   ·rw[(iY g).2.1]at hM;cases hM
theorem QA {dp:Nat}(h:ux S t)(hd:dp<=8)(he:∀f,t=et f->dp=8->(S.msg f.ty).isSome=false):oz S t dp=false:=by
 unfold oz
 split
 ·simp;omega
 ·rename_i hc
  simp only[ci,cn,not_or,Bool.not_eq_false,bne_iff_ne,ne_eq,Decidable.not_not]at hc;obtain⟨h1,h2⟩:=hc
  rcases h with h|⟨d',_,g,_,_,rfl⟩
  ·rw[hS.name t h]at h1;cases h1
  ·exact he g rfl h2
end
theorem Ce {x:Nat}:∀{l:au},x∈l->x<=l.sum
 |y::l,h=>by
  rw[List.sum_cons]
  rcases aN.1 h with rfl|h
  ·omega
  ·have:=Ce h;omega
theorem GK {t:am}{x y:PV}(hx:0<=x.1/\x.1<18446744073709551616/\(gG t kE=true->x.1=0)/\(gG t kE=false->x.2.1=eS))(hy:0<=y.1/\y.1<18446744073709551616/\(gG t kE=true->y.1=0)/\(gG t kE=false->y.2.1=eS)):
  (jW t x y=true<->lN (jF t x) (jF t y))/\(gZ x y=true->ji (jF t x) (jF t y)):=by
 obtain⟨a1,a2,a4,a5⟩:=hx;obtain⟨b1,b2,b4,b5⟩:=hy;refine⟨?_,λh=> ?_⟩
 ·unfold jW lN jF
  cases hs:gG t kE with
  |true=>
   simp_all
  |false=>
   rw[a5 hs,b5 hs];have e:¬Op.bytesLess eS.toList eS.toList=true:=Ui;simp only[e,and_false,or_false,aM,if_false]
   cases eM iL t with
   |true=>
    simp only[if_true,dF];unfold MU
    split<;>split<;>omega
   |false=>simp
 ·unfold gZ at h;simp only[aJ,dF,gw]at h;unfold ji jF
  simp_all
theorem tf {sg:Bool}:∀{l:List PV} {last:Option LV},jc sg last l=true->(∀e∈l,(e.2.2.fs.length==2)=true/\om e.2.2.unk=true)/\l.Pairwise (λx y=>lN (tw sg x) (tw sg y))/\∀k,last=some k->∀e∈l,lN k (tw sg e)
 | [],_,_=>⟨λe h=>by grind,.nil,λk _ e h=>by grind⟩
 |x::l,last,h=>by
  unfold jc at h;simp only[aJ]at h;obtain⟨⟨⟨h1,h2⟩,h3⟩,h4⟩:=h;have⟨i1,i2,i3⟩:=tf h4;refine⟨λe he=> ?_,.cons (λy hy=>i3 _ rfl y hy) i2,λk hk e he=> ?_⟩
  ·grind
  ·subst hk;have h3:lN k (tw sg x):=(Bo _ _).1 (of_decide_eq_true h3)
   rcases aN.1 he with rfl|he
   ·exact h3
   ·exact jZ h3 (i3 _ rfl e he)
section
variable {S:d8} (hS:RL S)
include hS
theorem LQ {d:MT}{k':Nat}{l:List PV}(hd:ux S d)(hf:dR d.fs n=some f)(hM:f.isMap=true)(hL:fy S (dP S k) f l=true)(hO:∀v∈l,oT k' v.2.2):
  (∀v∈l,fZ v.2.2=v.2.2)/\(l.Pairwise λx y=>jW f.key (fE y) (fE x)=false/\gZ (fE y) (fE x)=false)/\(k=1->l≠ []->(S.msg f.ty).isSome=false):=by
 have Ux:d∈S.ms:=by
  rcases hd with h|⟨d',hd,g,hg,hm,rfl⟩
  ·exact h
  ·rcases mJ hf with⟨_,rfl⟩|⟨_,rfl⟩
   ·rw[(iY g).1]at hM;cases hM
   ·rw[(iY g).2.1]at hM;cases hM
 have⟨k1,k2,k3⟩:=hS.key d Ux f (eW hf).2 hM;unfold fy kz at hL;rw[dE hM,k3]at hL;simp only[aJ,bS]at hL;obtain⟨⟨_,hV⟩,UE⟩:=hL;have⟨e1,e2,_⟩:=tf UE
 have hR:∀v∈l,dP S k (et f) v.2.2=true:=λv hv=>by
  have:=hV v hv;unfold er at this;rw[dE (yr hM),kC hM]at this
  simp_all
 cases k with
 |zero=>
  have:∀v∈l,False:=λv hv=>by have:=hR v hv;cases this
  cases l with
  |nil=>simp
  |cons v l=>grind
 |succ k=>
  have Ut:=λv hv=>Au (hR v hv) (e1 v hv).1 (e1 v hv).2
  have Ur:∀v∈l,tw (eM iL f.key) v=jF f.key (fE v)/\0<=(fE v).1/\(fE v).1<18446744073709551616/\(gG f.key kE=true->(fE v).1=0)/\(gG f.key kE=false->(fE v).2.1=eS):=λv hv=>by
   have⟨x,y,ev,hx,_⟩:=Ut v hv;have Uu:fE v=x:=by unfold fE;rw[ev];rfl
   have UB:PX v=x:=by unfold PX;rw[ev];rfl
   have hr:0<=x.1/\x.1<18446744073709551616:=by
    have:=hO v hv;rw[ev]at this
    cases k' with
    |zero=>exact this.elim
    |succ k'=>
     have:=(this.2.2 (1,[x]) (by simp[PM.fs])).2 x aV;omega
   have eb:fB S (mT f)=S.base f.key:=kZ (iY f).1;refine⟨by unfold tw II jF;rw[UB,Uu],by simp_all,by simp_all,λhs=> ?_,λhs=> ?_⟩
   ·rw[Uu];have h13:fB S (mT f)=13:=eb.trans (lx.2 hs);unfold er at hx
    grind
   ·rw[Uu]
    have Uv:eO (fB S (mT f))=true:=by
     rw[eb]
     rcases k2 with h|h
     ·exact h
     ·rw[lx.1 h]at hs;cases hs
    exact dH Prod.fst (qy Uv hx).1
  refine⟨λv hv=> ?_,e2.imp_of_mem fun{x y} hx hy h=> ?_,λhk hne=> ?_⟩
  ·have⟨x,y,ev,_⟩:=Ut v hv;rw[ev,D6]
  ·have⟨ex,hx⟩:=Ur x hx;have⟨ey,hy⟩:=Ur y hy;have⟨q1,q2⟩:=GK hy hx;rw[ex,ey]at h
   constructor
   ·cases hc:jW f.key (fE y) (fE x)with
    |false=>rfl
    |true=>exact absurd (jZ h (q1.1 hc)) (oE _)
   ·cases hc:gZ (fE y) (fE x)with
    |false=>rfl
    |true=>exact absurd (q2 hc).symm (kM h)
  ·obtain rfl:k=0:=Ue
   cases l with
   |nil=>simp_all
   |cons v l=>
    have⟨x,y,_,_,hy⟩:=Ut v aV
    cases hc:(S.msg f.ty).isSome with
    |false=>rfl
    |true=>
     have UC:fB S (qN f)=16:=(kZ (iY f).2.1).trans ((hS.sub d Ux f (eW hf).2).2 hc);have⟨t,ht⟩:=bZ.1 hc;unfold er at hy;rw[dE UC,mK (iY f).2.1]at hy;rw[show S.msg (qN f).ty=some t from ht]at hy;simp only[aJ]at hy
     cases hy.2
theorem GL:∀(n deep:Nat) (d:MT) (m:PM) (k:Nat),n+deep=9->ux S d->dP S n d m=true->oT k m->vZ k m<=140737488355328->rd S (bl (ed S n d m)) d PM.none deep= .ok m
 |0,_,_,_,_,_,_,h,_,_=>by cases h
 |_+1,_,_,_,0,_,_,_,h,_=>h.elim
 |n+1,deep,d,m,k+1,hn,hd,h,hO,hw=>by
  rw[dP]at h;simp only[aJ]at h;obtain⟨hX,hU⟩:=h;obtain⟨_,_,UF⟩:=hO;rw[vZ]at hw
  have Uw:∀x∈m.fs,(x.2.map λv=>30+v.2.1.size+vZ k v.2.2).sum<=140737488355328:=λx hx=>by
   have:30+(x.2.map λv=>30+v.2.1.size+vZ k v.2.2).sum<=(m.fs.map λx=>30+(x.2.map λv=>30+v.2.1.size+vZ k v.2.2).sum).sum:=Ce (aP.2 ⟨x,hx,rfl⟩);omega
  have UD:∀x∈m.fs,∀v∈x.2,vZ k v.2.2<=140737488355328:=λx hx v hv=>by
   have h1:=Uw x hx;have:30+v.2.1.size+vZ k v.2.2<=(x.2.map λv=>30+v.2.1.size+vZ k v.2.2).sum:=Ce (aP.2 ⟨v,hv,rfl⟩);omega
  have fields:∀(l ahead:List PF),(∀x∈l,x∈m.fs)->gE S (dP S n) d ahead l=true->rd S (bl (l.flatMap (jE S (ed S n) d))) d (.mk ahead eS) deep= .ok (.mk (ahead++l) eS):=λl=>by
   induction l with
   |nil=>
    intro ahead _ _;rw[bN];rfl
   |cons x l UG=>
    intro ahead UA hx;rw[gE]at hx;simp only[aJ]at hx;obtain⟨hx1,UH⟩:=hx;have Uy:=UA x aV
    cases hf:dR d.fs x.1 with
    |none=>simp_all
    |some f=>
     rw[hf]at hx1;simp only[aJ]at hx1;obtain⟨UI,hL⟩:=hx1;have⟨UJ,UK⟩:=hd.num hS hf;have Us:=(UF x Uy).2;rw[bi,oJ]
     have Uq:rd S (bl (jE S (ed S n) d x)) d (.mk ahead eS) deep= .ok (.mk (ahead++ [x]) eS):=by
      unfold jE;rw[hf];refine LO UJ UK hf (hd.subF hS hf) UI hL (λv hv=> ?_) ?_ (λv hv t ht hR=> ?_) (λhM=> ?_)
      ·grind
      ·have h1:(x.2.flatMap λv=>fS S (ed S n) f v).length<=(x.2.map λv=>30+v.2.1.size+vZ k v.2.2).sum:=pS λv hv=>by
        have:=BJ (S:=S) (f:=f) (R:=ed S n) (v:=v) (W:=vZ k v.2.2) λt=>rG n k t v.2.2 (Us v hv).2.2.2
        omega
       grind
      ·have hn1':n≠0:=by
        rintro rfl
        cases hR
       have Uz:=hd.sub hf ht;refine⟨GL n (deep+1) t v.2.2 k Ue Uz hR (Us v hv).2.2.2 (UD x Uy v hv),QA hS Uz Ue (λg hg h8=> ?_),?_⟩
       ·have hM:f.isMap=true:=by
         cases hM:f.isMap with
         |true=>rfl
         |false=>
          exfalso;rw[mK hM]at ht;have:=hS.name t (iV ht);rw[hg]at this;have this:gG eS eS=false:=this
          revert this;decide+kernel
        rw[kC hM]at ht;have e:=Option.some.inj ht;rw[hg]at e
        have e2:f.ty=g.ty:=by
         have:=dH (λq:MT=>q.fs.map (·.ty)) e;simp[et]at this
         simp_all
        rw[<-e2];exact(LQ hS hd hf hM hL (λv hv=>(Us v hv).2.2.2)).2.2 Ue (List.ne_nil_of_mem hv)
       ·have:=rG (S:=S) n k t v.2.2 (Us v hv).2.2.2
        grind
      ·have:=LQ hS hd hf hM hL (λv hv=>(Us v hv).2.2.2)
       grind
     have:=UG (ahead++ [x]) (λy hy=>UA y (aT _ hy)) UH;rw[aZ]at this;exact Fp Uq this
  rw[ed,oJ];refine Fp (fields m.fs [] (λ_ h=>h) hX) ?_;rw[BX,Qy hU];obtain⟨fs,u⟩:=m;show Except.ok (PM.mk fs (eS++u))=_;have:eS++u=u:=iX Uk;rw[this]
end
end
def RM (d:MT)(y x:PF):Prop:=y.1<x.1/\∀f,dR d.fs x.1=some f->y.1∉kL d f
def kn (S:d8)(R:MT->PM->Bool)(d:MT)(x:PF):Prop:=∃f,dR d.fs x.1=some f/\fy S R f x.2=true
def pX {S:d8}{R:MT->PM->Bool}{d:MT}:∀{l a:List PF},gE S R d a l=true<->(∀x∈l,kn S R d x)/\l.Pairwise (RM d)/\∀y∈a,∀x∈l,RM d y x
 | [],a=>by simp[gE]
 |x::l,a=>by
  rw[gE,aJ,pX]
  have hx:(match dR d.fs x.1 with|none=>false|some f=>jO (kL d f) x.1 a&&fy S R f x.2)=true<->kn S R d x/\∀y∈a,RM d y x:=by
   unfold kn RM
   cases hf:dR d.fs x.1 with
   |none=>simp
   |some f=>
    simp only[aJ,jO,bS,dF,cn,decide_eq_false_iff_not,Option.some.injEq]
    grind
  refine(and_congr hx Iff.rfl).trans ?_;rw[bg]
  grind
section
variable {n:Int} {vs:List PV}
def nj:∀{l:List PF} {done:Bool} {x:PF},x∈gK n vs done l->(x=(n,vs)/\done=false)\/(x∈l/\x.1≠n)
 | [],done,x,h=>by
  cases done with
  |true=>simp[gK]at h
  |false=>simp[gK]at h;(simp;omega)
 |y::l,done,x,h=>by
  rw[gK]at h
  rcases aR.1 h with h|h
  ·simp_all
  ·rcases aR.1 h with h|h
   ·simp_all
   ·rcases nj h with⟨h1,h2⟩|⟨h1,h2⟩
    ·simp_all
    simp_all
def Cf {Q:PF->PF->Prop}(hQ:∀y x,Q y x->y.1<x.1):∀{l:List PF} {done:Bool},l.Pairwise Q->(done=false->(∀y∈l,y.1<n->Q y (n,vs))/\∀x∈l,n<x.1->Q (n,vs) x)->(gK n vs done l).Pairwise Q
 | [],done,_,_=>by cases done<;>simp[gK]
 |y::l,done,h,hd=>by
  rw[bg]at h;obtain⟨h1,h2⟩:=h;rw[gK]
  have hx:∀z∈((if y.1=n then []else [y]):List PF),z=y/\y.1≠n:=λz hz=>by
   simp_all
  by_cases hc:(!done&&decide (n<=y.1))=true
  ·rw[dE hc];simp only[aJ,cn,dF]at hc;obtain⟨rfl,hle⟩:=hc;have⟨d1,d2⟩:=hd rfl;have ih:=Cf (done:=false||decide (n<=y.1)) hQ h2 (λhf=>by simp_all);rw[List.singleton_append,bg]
   constructor
   ·intro z hz
    rcases aR.1 hz with hz|hz
    ·grind
    ·rcases nj hz with⟨_,hf⟩|⟨hm,_⟩
     ·simp_all
     grind
   ·rw[bU];refine⟨by split<;>simp,ih,λa ha b hb=> ?_⟩;obtain⟨rfl,_⟩:=hx a ha
    rcases nj hb with⟨_,hf⟩|⟨hm,_⟩
    ·simp_all
    simp_all
  ·rw[dD hc,aS]
   have ih:=Cf (done:=done||decide (n<=y.1)) hQ h2 (λhf=>by
    grind)
   rw[bU];refine⟨by split<;>simp,ih,λa ha b hb=> ?_⟩;obtain⟨rfl,Ur⟩:=hx a ha
   rcases nj hb with⟨rfl,hf⟩|⟨hm,_⟩
   ·simp_all
   simp_all
end
def uy:∀{fs:List eT} {f:eT},(fs.map (·.num)).Nodup->f∈fs->dR fs f.num=some f
 |g::fs,f,h,hf=>by
  rw[bO,List.nodup_cons]at h
  rcases aN.1 hf with rfl|hf
  ·rw[dR,dE rfl]
  ·rw[dR,dD (λe=>h.1 (aP.2 ⟨f,hf,e.symm⟩)),uy h.2 hf]
def Cg {a b:am}(h:gG a b=true):a=b:=by
 refine iX ?_;rw[gw,ByteArray.toList_eq,ByteArray.toList_eq]at h;exact h
section
variable {d:MT} (hd:(d.fs.map (·.num)).Nodup)
def wh {f:eT}{k:Int}:k∈kL d f<->∃o∈d.fs,o.num=k/\o.how=f.how/\jh f.how=true/\k≠f.num:=by
 unfold kL;rw[aP]
 constructor
 ·rintro⟨o,ho,rfl⟩;rw[bw]at ho;simp only[aJ,dF]at ho;obtain⟨h1,⟨h2,h3⟩,h4⟩:=ho;have e:=Cg h2
  grind
 ·rintro⟨o,ho,rfl,e,h3,h4⟩;refine⟨o,bw.2 ⟨ho,?_⟩,rfl⟩;simp only[aJ,dF];exact⟨⟨by rw[gw,e],by simp_all⟩,h4⟩
include hd
def Oh {f g:eT}(hf:f∈d.fs)(hg:g∈d.fs)(h:g.num∈kL d f):f.num∈kL d g:=by
 have⟨o,ho,h1,h2,h3,h4⟩:=wh.1 h
 have e:o=g:=by
  have a:=uy hd ho;rw[h1,uy hd hg]at a
  simp_all
 subst e;exact wh.2 ⟨f,hf,rfl,h2.symm,by simp_all,λe=>h4 e.symm⟩
end
def QB {S:d8}{R:MT->PM->Bool}{d:MT}(hd:(d.fs.map (·.num)).Nodup){fs:List PF}{n:Int}{f:eT}{vs:List PV}(h:gE S R d [] fs=true)(hf:dR d.fs n=some f)(hL:vs≠ []->fy S R f vs=true)(hn:vs≠ []->∀y∈fs,y.1∉kL d f):
  gE S R d [] (gK n vs vs.isEmpty fs)=true:=by
 have⟨h1,h2,_⟩:=pX.1 h;have⟨f1,f2⟩:=eW hf;refine pX.2 ⟨λx hx=> ?_,Cf (λy x q=>q.1) h2 (λhe=> ?_),λy hy=>by simp at hy⟩
 ·rcases nj hx with⟨rfl,he⟩|⟨hx,_⟩
  ·exact⟨f,hf,hL (by simp_all)⟩
  simp_all
 ·have Ur:vs≠ []:=by simp_all
  refine⟨λy hy Uq=>⟨Uq,λg hg=> ?_⟩,λx hx Uq=>⟨Uq,λg hg=> ?_⟩⟩
  ·grind
  ·intro hc;have⟨g1,g2⟩:=eW hg;have:=Oh hd g2 f2 (by simp_all)
   grind
def yt {f:eT}{x:PF}:∀{l:List eT} {m:PM},x∈(io f l m).fs->x∈m.fs/\∀o∈l,(gG o.how f.how&&jh o.how&&decide (o.num≠f.num))=true->x.1≠o.num
 | [],m,h=>⟨h,λo ho=>by simp at ho⟩
 |o::l,m,h=>by
  rw[io]at h;have⟨h1,h2⟩:=yt h
  split at h1
  ·rcases nj h1 with⟨_,hf⟩|⟨hm,Ur⟩
   ·cases hf
   simp_all
  simp_all
def Ch {S:d8}{R:MT->PM->Bool}{d:MT}{f:eT}:∀{l:List eT} {m:PM},gE S R d [] m.fs=true->gE S R d [] (io f l m).fs=true/\(io f l m).unk=m.unk
 | [],m,h=>⟨h,rfl⟩
 |o::l,m,h=>by
  rw[io]
  split
  ·have⟨h1,h2,_⟩:=pX.1 h
   have:gE S R d [] (m.put o.num []).fs=true:=by
    refine pX.2 ⟨λx hx=> ?_,Cf (λy x q=>q.1) h2 (λhe=>by cases he),λy hy=>by simp at hy⟩
    rcases nj hx with⟨_,hf⟩|⟨hm,_⟩
    ·cases hf
    simp_all
   have⟨a,b⟩:=Ch (f:=f) (l:=l) this;exact⟨a,b⟩
  ·exact Ch h
def Oi {fs:List PF}{n:Int}:gz fs n≠ []->∃x∈fs,x.1=n/\x.2=gz fs n:=λh=>by
 cases hg:gz fs n with
 |nil=>simp_all
 |cons v l=>
  have⟨x,hx,h1,h2⟩:=mx (n:=n) (v:=v) (l:=fs) (by simp_all)
  grind
section
variable {b:am}
def Av {a e z:Nat}{m:Int}:∀f i n,lL b a e f i n= .ok (m,z)->lL b a z f i n= .ok (m,z)/\a+i<z/\z<=e
 |0,_,_,h=>by cases h
 |f+1,i,n,h=>by
  rw[lL]at h
  split at h
  ·rename_i hl
   split at h
   ·cases h
   ·rename_i h9
    split at h
    ·rename_i hc
     simp only[Except.ok.injEq,Prod.mk.injEq]at h;obtain⟨rfl,rfl⟩:=h;refine⟨?_,Ue,Ue⟩;rw[lL,dE Ue,dD h9,dE hc]
    ·rename_i hc
     have⟨h1,h2,h3⟩:=Av f (i+1) _ h;refine⟨?_,Ue,h3⟩;rw[lL,dE Ue,dD h9,dD hc,h1]
  ·cases h
def rJ {a e z:Nat}{m:Int}(h:g9 b a e= .ok (m,z)):g9 b a z= .ok (m,z)/\a<z/\z<=e:=by
 have:=Av 10 0 0 h;exact⟨this.1,Ue,this.2.2⟩
def Fq {a e:Nat}{r:oj}(h:fD b a e= .ok r):fD b a r.e= .ok r:=by
 have Uq:∀{fr:Nat} {t:Int} {e':Nat},g9 b a e= .ok (t,fr)->fr<=e'->g9 b a e'= .ok (t,fr):=λhv hl=>(wd hl).1 _ (rJ hv).1
 unfold fD at h
 cases hv:g9 b a e with
 |error x=>simp_all
 |ok x=>
  obtain⟨t,fr⟩:=x;rw[hv]at h;simp only at h;unfold fD
  split at h
  ·cases h
  ·rename_i hn
   split at h
   ·rename_i h0
    cases hw:g9 b fr e with
    |error x=>simp_all
    |ok y=>
     obtain⟨n,en⟩:=y;rw[hw]at h
     cases h
     have⟨q1,q2,q3⟩:=rJ hw;rw[Uq hv (show fr<=en by omega)];simp only;rw[dD hn,dE h0,q1]
   ·rename_i h0
    split at h
    ·grind
    ·rename_i h1
     split at h
     ·grind
     ·rename_i h5
      split at h
      ·rename_i h2
       cases hw:g9 b fr e with
       |error x=>simp_all
       |ok y=>
        obtain⟨n,bh⟩:=y;rw[hw]at h;simp only at h
        split at h
        ·have⟨q1,q2,q3⟩:=rJ hw;have⟨n0,_⟩:=iG hw
         cases h
         rw[Uq hv (show fr<=bh+n.toNat by omega)];simp only;rw[dD hn,dD h0,dD h1,dD h5,dE h2,(wd (show bh<=bh+n.toNat by omega)).1 _ q1];simp only;rw[dE Ue]
        ·cases h
      ·cases h
def Oj {a e:Nat}{r:oj}(h:fD b a e= .ok r)(he:e<=b.size):
  ∃q,fD (b.extract a r.e) 0 (b.extract a r.e).size= .ok q/\q.num=r.num/\q.kind=r.kind/\q.e=(b.extract a r.e).size:=by
 have⟨r1,r2,r3,r4,r5,_⟩:=iA h;have hn:=Fq h;have hz:(b.extract 0 a).size=a:=by(simp;omega)
 have ht:(b.extract a r.e).size=r.e-a:=by(simp;omega)
 have hj:b.extract 0 a++b.extract a r.e=b.extract 0 r.e:=by
  refine iX ?_
  (simp;omega)
 have hA:Ag b (b.extract 0 r.e) r.e:=⟨λi hi=>FZ Ue hi,λi j hj=>jR Ue hj⟩;have hr:=(Fo (a:=a) hA).trans hn;rw[<-hj]at hr;have e1:(b.extract 0 a).size+0=a:=Ue;have e2:(b.extract 0 a).size+(b.extract a r.e).size=r.e:=Ue
 cases hq:fD (b.extract a r.e) 0 (b.extract a r.e).size with
 |error x=>
  obtain⟨c,p⟩:=x;have:=ut (b:=b.extract 0 a) hq
  simp_all
 |ok q=>
  have:=BS (b:=b.extract 0 a) hq;rw[e1,e2,hr]at this;have:=Except.ok.inj this;refine⟨q,rfl,by rw[this];rfl,by rw[this];rfl,?_⟩;have:r.e=(b.extract 0 a).size+q.e:=dH oj.e this;omega
end
section
variable {fit:Int->Int->Bool}
def mL {s:am}{G a:Nat}(hl:a<s.size):mR fit s (G+1) a=true<->∃r,fD s a s.size= .ok r/\fit r.num r.kind=false/\mR fit s G r.e=true:=by
 have hQ:fD s a s.size=match ju s a with| .error x=> .error x| .ok x=>fx s a x.1.1 x.1.2 x.2:=by
  rw[<-vL (ay _),Cd,qi];rfl
 rw[mR,dE hl,hQ];unfold Ny
 cases ht:ju s a with
 |error x=>simp
 |ok x=>
  simp only[aJ,cn];unfold Ku;rw[qj s a x.1.1]
  cases hr:fx s a x.1.1 x.1.2 x.2 with
  |error y=>simp
  |ok r=>
   have⟨r1,r2,_⟩:=GI (D5 ht) hr
   simp_all
def uz {s:am}:∀(G G' a:Nat),mR fit s G a=true->s.size-a<G'->mR fit s G' a=true
 |0,_,_,h,_=>by cases h
 |_+1,0,_,_,h=>absurd h Ue
 |G+1,G'+1,a,h,hG=>by
  by_cases hl:a<s.size
  ·have⟨r,h1,h2,h3⟩:=(mL hl).1 h;have⟨_,_,q3,_,q5,_⟩:=iA h1;exact(mL hl).2 ⟨r,h1,h2,uz G G' r.e h3 Ue⟩
  ·rw[mR,dD hl]
def GM {u t:am}:∀(G a:Nat),mR fit t G a=true->mR fit (u++t) G (u.size+a)=true
 |0,_,h=>by cases h
 |G+1,a,h=>by
  have hz:(u++t).size=u.size+t.size:=Uf
  by_cases hl:a<t.size
  ·have⟨r,h1,h2,h3⟩:=(mL hl).1 h;exact(mL Ue).2 ⟨r.sh u.size,by rw[hz];exact BS h1,h2,GM G r.e h3⟩
  ·rw[mR,dD Ue]
def D7 {u t:am}(ht:rF fit t=true):∀(G a:Nat),mR fit u G a=true->a<=u.size->mR fit (u++t) (G+t.size+1) a=true
 |0,_,h,_=>by cases h
 |G+1,a,h,ha=>by
  have hz:(u++t).size=u.size+t.size:=Uf
  by_cases hl:a<u.size
  ·have⟨r,h1,h2,h3⟩:=(mL hl).1 h;have⟨_,_,_,_,q5,_⟩:=iA h1;rw[show G+1+t.size+1=(G+t.size+1)+1 by omega];refine(mL Ue).2 ⟨r,?_,h2,D7 ht G r.e h3 q5⟩;rw[hz];exact(BM (show u.size<=u.size+t.size by omega)).1 r ((Fo (Ag.app u t)).trans h1)
  ·obtain rfl:a=u.size:=Ue;exact uz _ _ _ (GM (u:=u) (t.size+1) 0 ht) Ue
def Ok {u t:am}(hu:rF fit u=true)(ht:rF fit t=true):rF fit (u++t)=true:=
 uz _ _ 0 (D7 ht (u.size+1) 0 hu (aL _)) Ue
def Ol {t:am}{r:oj}(h:fD t 0 t.size= .ok r)(he:r.e=t.size)(hf:fit r.num r.kind=false):rF fit t=true:=by
 have⟨_,_,q3,_,_,_⟩:=iA h;refine(mL Ue).2 ⟨r,h,hf,?_⟩
 cases hs:t.size with
 |zero=>omega
 |succ k=>rw[mR,dD Ue]
end
def Om {S:d8}{d:MT}{r:oj}(h:∀f,dR d.fs r.num=some f->r.kind≠fG S f/\¬(r.kind=2/\f.isRep=true)):pO S d r.num r.kind=false:=by
 unfold pO
 split
 ·rfl
 ·rename_i f hf
  have⟨h1,h2⟩:=h f hf;rw[kB]at h1;simp only[dd,Bool.and_eq_false_iff,beq_eq_false_iff_ne];refine⟨λe=>h1 Ue,?_⟩
  by_cases h3:r.kind=2
  ·right
   unfold ig
   simp_all
  omega
def Ci (s:am):∀f i,0<=Hi s f i/\Hi s f i<256^f
 |0,i=>by simp[Hi]
 |f+1,i=>by
  rw[Hi];have:=jX s i;have ih:=Ci s f (i+1);omega
def Tr {b:am}{a:Nat}(h:a+4<=b.size):wJ (b.extract a (a+4))<4294967296:=by
 have:=(Ci (b.extract a (a+4)) 4 0).2;unfold wJ
 simp_all
def Oo {k:Nat}{n:Int}(h0:0<=n)(h1:n<18446744073709551616)(h5:ee k=5->n<4294967296)(hk:eO k=true):Cr k (kD k n)=true:=by
 have Ur:k=0\/k=1\/k=2\/k=3\/k=4\/k=5\/k=6\/k=7\/k=8\/k=9\/k=10\/k=11\/k=12\/k=15:=by
  unfold eO at hk
  grind
 have q:∀{x y:Int},x=y->(x==y)=true:=λh=>by simp[h]
 have ss:mh n=mh (mh n):=by unfold mh;split<;>split<;>omega
 rcases Ur with rfl|rfl|rfl|rfl|rfl|rfl|rfl|rfl|rfl|rfl|rfl|rfl|rfl|rfl
 ·exact q ss
 ·rfl
 ·exact q (show n%4294967296=n%4294967296%4294967296 by omega)
 ·rfl
 ·refine q (show Co (n%4294967296)=mh (Co (n%4294967296))from ?_);unfold Co mh
  split<;>split<;>omega
 ·rfl
 ·refine q (show(if 0<n then(1:Int)else 0)=(if(0:Int)<(if 0<n then 1 else 0)then 1 else 0)from ?_)
  split<;>rfl
 ·have:=h5 rfl;exact q (show n=n%4294967296 by omega)
 ·rfl
 ·exact q ss
 ·rfl
 ·have:=h5 rfl;exact q (show n=n%4294967296 by omega)
 ·rfl
 ·exact q ss
def rh:Nat->PM->Prop
 |0,_=>False
 |k+1,m=>∀x∈m.fs,∀v∈x.2,0<=v.1/\v.1<18446744073709551616/\rh k v.2.2
abbrev GN (k:Nat)(v:PV):Prop:=0<=v.1/\v.1<18446744073709551616/\rh k v.2.2
def rh.none (k:Nat):rh (k+1) PM.none:=λx hx=>by simp[PM.none,PM.fs]at hx
def rh.put {k:Nat}{m:PM}(h:rh (k+1) m){n:Int}{vs:List PV}(hv:∀v∈vs,GN k v):rh (k+1) (m.put n vs):=λx hx v Us=>by
 rcases nj hx with⟨rfl,_⟩|⟨hx,_⟩
 ·simp_all
 ·exact h x hx v Us
def rh.get {k:Nat}{m:PM}(h:rh (k+1) m){n:Int}{v:PV}(hv:v∈m.get n):GN k v:=by
 have⟨x,hx,_,h2⟩:=mx hv;exact h x hx v (by rw[h2];exact hv)
def Aw {S:d8}{d:MT}(k:Nat):dP S (k+1) d PM.none=true:=by
 rfl
def Oq:om eS=true:=Ui
def Ot:yF PM.none=true:=Ui
def D8 {S:d8}{R:MT->PM->Bool}{f:eT}{n:Int}(hk:eO (fB S f)=true)(h0:0<=n)(h1:n<18446744073709551616)(h5:ee (fB S f)=5->n<4294967296):er S R f (kD (fB S f) n,eS,PM.none)=true:=by
 have Ut:=hk;unfold eO at Ut;simp only[ci,dF]at Ut;unfold er;rw[dD Ue,dD Ue,dD Ue,Oo h0 h1 h5 hk];show(om eS&&yF PM.none&&true)=true;rw[Oq,Ot];rfl
section
variable {S:d8} {R:MT->PM->Bool} {b:am} {f:eT} {r:oj} {a e:Nat}
def SY (hr:fD b a e= .ok r)(he:e<=b.size)(h:r.kind=5):r.n<4294967296:=by
 unfold fD at hr
 split at hr
 ·cases hr
 ·split at hr
  ·cases hr
  ·split at hr
   ·grind
   ·split at hr
    ·grind
    ·split at hr
     ·split at hr
      ·cases hr
       exact Tr Ue
      ·cases hr
     grind
def LR (hr:fD b a e= .ok r)(he:e<=b.size)(hS:Oe S f)(hs:eV S f=none)(hk:r.kind=fG S f){v:PV}(h:mQ S b f r= .ok v)(k:Nat):er S R f v=true/\GN (k+1) v:=by
 have Uu:fB S f≠16:=λq=>by
  have:=hS.1 q
  simp_all
 have hM:f.isMap=false:=by
  cases hm:f.isMap with
  |false=>rfl
  |true=>exact absurd (yr hm) Uu
 have hb:fB S f=S.base f.ty:=kZ hM;have⟨_,_,_,_,_,n0,n1,_⟩:=iA hr;rw[kB]at hk;have hle:=td S f;unfold mQ at h
 split at h
 ·rename_i h2
  split at h
  ·cases h
  ·rename_i hu
   cases h
   refine⟨?_,Ue,Ue,rh.none k⟩;have Uq:fB S f=13\/fB S f=14:=Ba Ue Ue;unfold er;rw[dD Uu]
   rcases Uq with q|q
   ·rw[dE q]
    have:RZ (b.extract r.fr r.e)=true:=by
     simp only[aJ,cn,not_and,Bool.not_eq_false]at hu;exact hu (lx.1 (hb▸q))
    rw[tI]at this;simp only[aJ,decide_true,true_and];exact⟨Ot,this⟩
   ·rw[dD Ue,dE q];show(decide ((0:Int)=0)&&yF PM.none)=true;rw[Ot];rfl
 ·rename_i h2
  cases h
  have Ur:eO (fB S f)=true:=by
   unfold eO;simp only[ci,dF];have:fB S f≠13:=λq=>h2 (by rw[hk,q];rfl)
   have:fB S f≠14:=λq=>h2 (by rw[hk,q];rfl)
   omega
  rw[<-hb];have rg:=iu (k:=fB S f) n0 n1;exact⟨D8 Ur n0 n1 λq=>SY hr he (by rw[hk,q]),rg.1,rg.2,rh.none k⟩
def qz {k:Nat}{P:PV->Prop}(hP:∀n:Int,0<=n->n<18446744073709551616->(ee k=5->n<4294967296)->P (kD k n,eS,PM.none))(he:e<=b.size):∀(F:Nat) (l:List PV) (a:Nat) (l':List PV),fw b k e F l a= .ok l'->(∀v∈l,P v)->∀v∈l',P v
 |0,l,a,l',h,hl=>by cases h;exact hl
 |F+1,l,a,l',h,hl=>by
  rw[fw]at h
  split at h
  ·split at h
   ·rename_i h0
    split at h
    ·cases h
    ·rename_i n z hv
     have⟨n0,n1,_⟩:=iG hv;refine qz hP he F _ _ l' h λv hv=> ?_
     grind
   ·simp only at h
    by_cases h5:ee k=5
    ·rw[dE h5]at h
     split at h
     ·have q:=Ci (b.extract a (a+4)) (b.extract a (a+4)).size 0;have q4:=Tr (b:=b) (a:=a) Ue;refine qz hP he F _ _ l' h λv hv=> ?_
      rcases aR.1 hv with hv|hv
      ·simp_all
      ·simp only[bn]at hv;subst hv;exact hP _ q.1 Ue λ_=>q4
     ·cases h
    ·rw[dD h5]at h
     split at h
     ·have q:=Ci (b.extract a (a+8)) (b.extract a (a+8)).size 0;have e8:(b.extract a (a+8)).size=8:=by(simp;omega)
      have q8:wJ (b.extract a (a+8))<18446744073709551616:=by
       have:=q.2;rw[e8]at this;unfold wJ
       simp_all
      refine qz hP he F _ _ l' h λv hv=> ?_
      rcases aR.1 hv with hv|hv
      ·simp_all
      ·simp only[bn]at hv;subst hv;exact hP _ q.1 q8 λx=>absurd x h5
     ·cases h
  simp_all
end
section
variable {S:d8}
def Ou (f g:eT)(h:g=mT f\/g=qN f):kL (et f) g= []:=by
 have hh:jh g.how=false:=by
  rcases h with rfl|rfl<;>exact(by rfl:jh kI=false)
 cases hr:kL (et f) g with
 |nil=>rfl
 |cons k l=>
  have⟨_,_,_,_,h3,_⟩:=wh.1 (show k∈kL (et f) g by simp_all)
  simp_all
def LS {R:MT->PM->Bool}{f:eT}{x y:PV}(hx:er S R (mT f) x=true)(hy:er S R (qN f) y=true):gE S R (et f) [] [(1,[x]),(2,[y])]=true:=by
 have f1:dR (et f).fs 1=some (mT f):=rfl;have f2:dR (et f).fs 2=some (qN f):=rfl
 have one:∀g z,g=mT f\/g=qN f->er S R g z=true->fy S R g [z]=true:=λg z hg hz=>by
  have e1:g.isMap=false:=by rcases hg with rfl|rfl<;>exact kY.1
  have e2:gG g.how eS=false:=by rcases hg with rfl|rfl<;>exact kY.2.2
  unfold fy oG kz
  simp_all
 refine pX.2 ⟨λz hz=> ?_,?_,λy hy=>by simp at hy⟩
 ·simp only[aN,bH,or_false]at hz
  rcases hz with rfl|rfl
  ·exact⟨_,f1,one _ _ (.inl rfl) hx⟩
  ·exact⟨_,f2,one _ _ (.inr rfl) hy⟩
 ·simp only[bg,bn,forall_eq,bH,false_implies,implies_true,List.Pairwise.nil,and_true];refine⟨Ue,λg hg=> ?_⟩;have hg:dR (et f).fs 2=some g:=hg;rw[f2]at hg
  cases hg
  rw[Ou f _ (.inr rfl)];simp
def IC {R:MT->PM->Bool}{f:eT}{k:Nat}{m:PM}(h:gE S R (et f) [] m.fs=true)(hr:rh (k+2) m)(hk:er S R (mT f) PV.none=true)(hv:er S R (qN f) PV.none=true):
  ∃x y,fZ m= .mk [(1,[x]),(2,[y])] eS/\er S R (mT f) x=true/\er S R (qN f) y=true/\GN (k+1) x/\GN (k+1) y:=by
 obtain⟨fs,u⟩:=m;have⟨h1,h2,_⟩:=pX.1 h;have h1:∀x∈fs,kn S R (et f) x:=h1;have h2:fs.Pairwise (RM (et f)):=h2;have rn:GN (k+1) PV.none:=⟨by show(0:Int)<=0;omega,by show(0:Int)<_;omega,rh.none k⟩
 have one:∀z∈fs,∃v,(z=(1,[v])/\er S R (mT f) v=true\/z=(2,[v])/\er S R (qN f) v=true)/\GN (k+1) v:=λz hz=>by
  have⟨g,hg,hL⟩:=h1 z hz;have Uw:=mJ hg
  have Uv:g.isRep=false/\g.isMap=false:=by
   rcases Uw with⟨_,rfl⟩|⟨_,rfl⟩<;>exact⟨kY.2.1,kY.1⟩
  unfold fy oG at hL;rw[Uv.1,Uv.2]at hL;simp only[cF,cA,aJ,beq_iff_eq,bS]at hL;obtain⟨⟨q1,q2⟩,_⟩:=hL;obtain⟨n,l⟩:=z
  match l,q1 with
  | [v],_=>
   refine⟨v,?_,hr (n,[v]) hz v aV⟩
   grind
 have hl:fs.length<=2:=by
  match fs,h2,one with
  | [],_,_=>simp
  | [_],_,_=>simp
  | [_,_],_,_=>simp
  |p::q::s::l,h2,one=>
   exfalso;simp only[bg,aN]at h2;have a1:=(h2.1 q (.inl rfl)).1;have a2:=(h2.2.1 s (.inl rfl)).1;have⟨_,hp,_⟩:=one p Uf;have⟨_,hs,_⟩:=one s Uf
   grind
 match fs,h2,one,hl with
 | [],_,_,_=>exact⟨PV.none,PV.none,rfl,hk,hv,rn,rn⟩
 | [p],_,one,_=>
  have⟨v,hp,rv⟩:=one p Uf
  rcases hp with⟨rfl,hp⟩|⟨rfl,hp⟩
  ·exact⟨v,PV.none,rfl,hp,hv,rv,rn⟩
  ·exact⟨PV.none,v,rfl,hk,hp,rn,rv⟩
 | [p,q],h2,one,_=>
  simp only[bg,bn,forall_eq]at h2;have hlt:=h2.1.1;have⟨v,hp,rv⟩:=one p Uf;have⟨v',hq,Ux⟩:=one q Uf
  rcases hp with⟨rfl,hp⟩|⟨rfl,hp⟩<;>rcases hq with⟨rfl,hq⟩|⟨rfl,hq⟩
  ·omega
  ·exact⟨v,v',D6 v v',hp,hq,rv,Ux⟩
  ·omega
  omega
end
def oh {t:am}{v:PV}:∀{l:List PV} {done:Bool} {x:PV},x∈fY t v done l->(x=v/\done=false)\/(x∈l/\gZ (fE v) (fE x)=false)
 | [],done,x,h=>by
  cases done with
  |true=>simp[fY]at h
  |false=>simp[fY]at h;(simp;omega)
 |y::l,done,x,h=>by
  rw[fY]at h
  rcases aR.1 h with h|h
  ·simp_all
  ·rcases aR.1 h with h|h
   ·simp_all
   ·rcases oh h with⟨h1,h2⟩|⟨h1,h2⟩
    ·simp_all
    simp_all
def D9 {t:am}{v:PV}{Q:PV->PV->Prop}(hT:∀a b c,Q a b->Q b c->Q a c):∀{l:List PV} {done:Bool},l.Pairwise Q->(∀x∈l,(jW t (fE v) (fE x)=true->Q v x)/\(jW t (fE v) (fE x)=false->gZ (fE v) (fE x)=false->Q x v)/\(gZ (fE v) (fE x)=true->∀y∈l,Q x y->Q v y))->(fY t v done l).Pairwise Q
 | [],done,_,_=>by cases done<;>simp[fY]
 |y::l,done,h,hv=>by
  rw[bg]at h;obtain⟨h1,h2⟩:=h;have⟨v1,v2,v3⟩:=hv y aV
  have Us:∀x∈l,(jW t (fE v) (fE x)=true->Q v x)/\(jW t (fE v) (fE x)=false->gZ (fE v) (fE x)=false->Q x v)/\(gZ (fE v) (fE x)=true->∀y∈l,Q x y->Q v y):=λx hx=>
   let q:=hv x (aT _ hx)
   ⟨q.1,q.2.1,λe z hz=>q.2.2 e z (aT _ hz)⟩
  have ih:=λdn=>D9 (t:=t) (v:=v) (l:=l) (done:=dn) hT h2 Us
  rw[fY]
  have hx:∀z∈((if gZ (fE v) (fE y)=true then []else [y]):List PV),z=y/\gZ (fE v) (fE y)=false:=λz hz=>by
   simp_all
  have rest:((if gZ (fE v) (fE y)=true then []else [y])++fY t v (done||(jW t (fE v) (fE y)||gZ (fE v) (fE y))) l).Pairwise Q:=by
   rw[bU];refine⟨by split<;>simp,ih _,λp hp q hq=> ?_⟩;obtain⟨rfl,hs⟩:=hx p hp
   rcases oh hq with⟨rfl,hd⟩|⟨hq,_⟩
   ·grind
   grind
  by_cases hc:(!done&&(jW t (fE v) (fE y)||gZ (fE v) (fE y)))=true
  ·rw[dE hc,List.singleton_append,bg];refine⟨λz hz=> ?_,rest⟩;simp only[aJ,cn,ci]at hc
   have hb:∀z∈l,Q v z:=λz hz=>by
    grind
   rcases aR.1 hz with hz|hz
   ·grind
   ·rcases oh hz with⟨_,hd⟩|⟨hz,_⟩
    ·grind
    grind
  grind
def GO {sg:Bool}:∀{l:List PV} {last:Option LV},(∀e∈l,(e.2.2.fs.length==2)=true/\om e.2.2.unk=true)->l.Pairwise (λx y=>lN (tw sg x) (tw sg y))->(∀k,last=some k->∀e∈l,lN k (tw sg e))->jc sg last l=true
 | [],_,_,_,_=>Uk
 |x::l,last,h1,h2,h3=>by
  rw[bg]at h2;unfold jc;simp only[aJ];refine⟨⟨h1 x aV,?_⟩,GO (λe he=>h1 e (aT _ he)) h2.2 λk hk e he=>by simp_all⟩
  cases last with
  |none=>rfl
  |some k=>exact decide_eq_true ((Bo _ _).2 (h3 k rfl x aV))
end Go.Proofs.YtfebdimolnobaaaGreatDoor
