import Derived.Test.YtfebdimolnobaaaGreatDoorKsA
import Derived.Test.YtfebdimolnobaaaGreatDoorEpI
import Derived.Test.YtfebdimolnobaaaGreatDoorRows
import Derived.Deep.Strs
import Derived.ProofKit
set_option maxRecDepth 100000
set_option maxHeartbeats 8000000
set_option linter.all false
namespace Go.Proofs.YtfebdimolnobaaaGreatDoor
open Go.RowKit
def kU:Nat->PM->Nat
 |0,_=>0
 |k+1,m=>1+(m.fs.map fun f=>1+(f.2.map fun v=>kU k v.2.2).sum).sum
def mK (k:Nat)(l:List PV):Nat:=(l.map fun v=>kU k v.2.2).sum
def yk (k:Nat)(fs:List PF):Nat:=(fs.map fun f=>1+mK k f.2).sum
theorem lY (k:Nat)(m:PM):kU (k+1) m=1+yk k m.fs:=rfl
theorem nM (k:Nat)(f:PF)(fs:List PF):yk k (f::fs)=1+mK k f.2+yk k fs:=rfl
theorem lZ (k:Nat)(v:PV)(l:List PV):mK k (v::l)=kU k v.2.2+mK k l:=rfl
theorem CO (k:Nat)(a b:List PF):yk k (a++b)=yk k a+yk k b:=by unfold yk;rw[bH,List.sum_append]
theorem qm (k:Nat)(a b:List PV):mK k (a++b)=mK k a+mK k b:=by unfold mK;rw[bH,List.sum_append]
theorem me (k:Nat):kU k PM.none<=1:=by cases k<;>simp[kU,PM.none,PM.fs]
theorem Gy {k:Nat}{m m':PM}(h:m.fs=m'.fs):kU k m=kU k m':=by cases k<;>simp[kU,h]
theorem Gz (k:Nat)(n:Int)(l:List PV):∀(fs:List PF) (done:Bool),yk k (iG n l done fs)+mK k (fU fs n)<=yk k fs+(if done then 0 else 1+mK k l)
 | [],done=>by
  cases done<;>simp[iG,fU,yk,mK]
 |x::r,done=>by
  rw[iG,CO,CO,fU,nM]
  by_cases hx:x.1=n
  ·have ih:=Gz k n l r true;have hn:decide (n<=x.1)=true:=by simp;omega
   rw[hn,cj,if_pos hx,if_pos hx];simp only[if_true]at ih
   cases done<;>simp[yk]at ih⊢<;>omega
  ·rw[if_neg hx,if_neg hx]
   cases hn:decide (n<=x.1)
   ·have ih:=Gz k n l r done;rw[cE];simp only[cg,aK,if_false];rw[nM];have e:yk k []=0:=rfl;omega
   ·have ih:=Gz k n l r true;rw[cj];simp only[if_true]at ih;have e:yk k []=0:=rfl;have e1:=nM k x [];have e2:yk k [(n,l)]=1+mK k l:=rfl
    cases done
    ·simp only[cm,cu,if_true,aK,if_false];omega
    ·simp only[cr,cl,aK,if_false,if_true];omega
theorem qo (k:Nat)(m:PM)(n:Int)(l:List PV):kU (k+1) (m.put n l)+mK k (m.get n)<=kU (k+1) m+(1+mK k l):=by
 have h:=Gz k n l m.fs l.isEmpty;rw[lY,lY];have h2:(if l.isEmpty then 0 else 1+mK k l)<=1+mK k l:=by split<;>omega
 show 1+yk k (iG n l l.isEmpty m.fs)+mK k (fU m.fs n)<=_;omega
theorem Ak (k:Nat)(m:PM)(n:Int):kU k (m.put n [])<=kU k m:=by
 cases k with
 |zero=>exact ay _
 |succ k=>
  have h:=Gz k n [] m.fs true;rw[lY,lY];show 1+yk k (iG n [] true m.fs)<=_;simp only[if_true]at h;omega
theorem BE (k:Nat)(t:am)(v:PV):∀(l:List PV) (done:Bool),mK k (gM t v done l)<=mK k l+(if done then 0 else kU k v.2.2)
 | [],done=>by cases done<;>simp[gM,mK]
 |x::r,done=>by
  rw[gM,qm,qm,lZ];generalize(sN t (gr v) (gr x)||mG (gr v) (gr x))=c;have e:mK k []=0:=rfl;have e1:=lZ k v [];have e2:=lZ k x [];have h0:=BE k t v r done;have h1:=BE k t v r true;simp only[if_true]at h1;have hB:mK k (if mG (gr v) (gr x)then []else [x])<=kU k x.2.2:=by split<;>omega
  cases c
  ·simp only[cg,cE,aK,if_false];omega
  ·rw[cj]
   cases done
   ·simp only[cm,cu,if_true,aK,if_false];omega
   ·simp only[cr,cl,aK,if_false,if_true];omega
theorem GA (k:Nat)(f:ek):∀(l:List ek) (m:PM),kU k (jx f l m)<=kU k m/\(jx f l m).get f.num=m.get f.num
 | [],m=>⟨ay _,rfl⟩
 |o::l,m=>by
  rw[jx]
  split
  ·rename_i hc
   obtain⟨h1,h2⟩:=GA k f l (m.put o.num []);refine⟨aG h1 (Ak k m o.num),h2.trans (PM.get_put_ne _ _ _ _ ?_)⟩;simp only[aT,decide_eq_true_eq]at hc;exact fun e=>hc.2 e.symm
  ·exact GA k f l m
theorem Mf (k:Nat)(m:PM):kU k (gH m)<=kU k m+4:=by
 have h1:∀(m:PM) (n:Int),kU k (et m n)<=kU k m+2:=fun m n=>by
  unfold et
  split
  ·cases k with
   |zero=>simp[kU]
   |succ k=>
    have h:=qo k m n [PV.none];have h2:=me k;have h3:mK k [PV.none]=kU k PM.none:=by simp[mK,PV.none]
    omega
  ·omega
 have h2:kU k (gH m)=kU k (et (et m 1) 2):=Gy rfl;have h3:=h1 (et m 1) 2;have h4:=h1 m 1;omega
theorem KH {k:Nat}{f:ek}{m:PM}(h:¬(f.isRep||f.isMap)=true):kU k (eA f m).2.2<=mK k (m.get f.num)+1:=by
 unfold eA;rw[if_neg h]
 cases m.get f.num with
 |nil=>have:=me k;simp[PV.none];omega
 |cons v l=>simp[lZ];omega
theorem GB (S:dG)(d:MT)(f:ek)(m:PM)(v:PV)(k:Nat)(c:Nat)(hv:kU k v.2.2<=kU k (eA f m).2.2+c):kU (k+1) (iw S d f m v)<=kU (k+1) m+6+c:=by
 have hN:=me k;have hS:(f.isRep||f.isMap)=true->kU k (eA f m).2.2<=1:=fun q=>by unfold eA;rw[if_pos q];exact hN
 unfold iw
 split
 ·rename_i hm
  have h1:=qo k m f.num (kj f.key (m.get f.num) (v.1,v.2.1,gH v.2.2));have h2:=BE k f.key (v.1,v.2.1,gH v.2.2) (m.get f.num) false;have h3:=Mf k v.2.2;have h4:=hS (by rw[hm,cj]);unfold kj at*;simp only[aK,if_false]at h2;omega
 ·rename_i hm
  split
  ·rename_i hr
   have h1:=qo k m f.num (m.get f.num++ [v]);have h2:=qm k (m.get f.num) [v];have h3:mK k [v]=kU k v.2.2:=by simp[mK]
   have h4:=hS (by rw[hr,cp]);omega
  ·rename_i hr
   split
   ·have:=Ak (k+1) m f.num;omega
   ·obtain⟨h1,h2⟩:=GA (k+1) f d.fs m;have h3:=qo k (jx f d.fs m) f.num [v];have h4:mK k [v]=kU k v.2.2:=by simp[mK]
    have h5:=KH (k:=k) (f:=f) (m:=m) (by simp[hm,hr]);rw[h2]at h3;omega
theorem GC (b:am)(kd e k:Nat):∀(F:Nat) (l:List PV) (a:Nat) (l':List PV),e7 b kd e F l a= .ok l'->mK k l'<=mK k l+(e-a)
 |0,l,a,l',h=>by
  cases h
  omega
 |F+1,l,a,l',h=>by
  rw[e7]at h;have hN:=me k
  split at h
  ·rename_i ha
   split at h
   ·cases hv:fA b a e with
    |error x=>rw[hv]at h;cases h
    |ok nz=>
     obtain⟨n,z⟩:=nz;rw[hv]at h;obtain⟨_,_,h1,h2⟩:=fW hv;have ih:=GC b kd e k F _ z l' h;rw[qm]at ih;have h3:mK k [(eW kd n,eS,PM.none)]=kU k PM.none:=by simp[mK]
     omega
   ·have h4:4<=(if dL kd=5 then 4 else 8):=by split<;>omega
    simp only at h;generalize(if dL kd=5 then 4 else 8)=z at h h4
    split at h
    ·have ih:=GC b kd e k F _ _ l' h;rw[qm]at ih;have h3:mK k [(eW kd (Au (b.extract a (a+z))),eS,PM.none)]=kU k PM.none:=by simp[mK]
     omega
    ·cases h
  ·cases h
   omega
theorem uw (S:dG)(b:am):∀(F k:Nat) (d:MT) (m:PM) (a e deep:Nat) (m':PM),dQ S b F d m a e deep= .ok m'->kU k m'<=kU k m+8*(e-a)
 |0,k,d,m,a,e,deep,m',h=>by
  cases h
  omega
 |F+1,0,d,m,a,e,deep,m',h=>by simp[kU]
 |F+1,k+1,d,m,a,e,deep,m',h=>by
  rw[dQ]at h
  split at h
  ·cases hr:fF b a e with
   |error x=>rw[hr]at h;cases h
   |ok r=>
    rw[hr]at h;obtain⟨r1,r2,r3,r4,r5,_⟩:=mz hr;have N2:∀s,kU (k+1) (m.keep s)=kU (k+1) m:=fun s=>Gy rfl
    simp only at h
    split at h
    ·have ih:=uw S b F (k+1) d _ _ e deep m' h;rw[N2]at ih;omega
    ·rename_i f hf
     split at h
     ·split at h
      ·rename_i sub hsub
       split at h
       ·cases h
       ·cases hs:dQ S b F sub (eA f m).2.2 r.fr r.e (deep+1)with
        |error x=>rw[hs]at h;cases h
        |ok sm=>
         rw[hs]at h;have i1:=uw S b F k sub _ _ _ _ sm hs;have i2:=uw S b F (k+1) d _ _ e deep m' h;have i3:=GB S d f m ((eA f m).1,(eA f m).2.1,sm) k (8*(r.e-r.fr)) i1;omega
      ·cases hv:pJ S b f r with
       |error x=>rw[hv]at h;cases h
       |ok v=>
        rw[hv]at h;have i2:=uw S b F (k+1) d _ _ e deep m' h
        have hn:v.2.2=PM.none:=by
         unfold pJ at hv
         split at hv
         ·split at hv
          ·cases hv
          ·cases hv;rfl
         ·cases hv;rfl
        have i3:=GB S d f m v k 1 (by rw[hn];have:=me k;omega);omega
     ·split at h
      ·cases hp:mH S b f (m.get f.num) r.fr r.e with
       |error x=>rw[hp]at h;cases h
       |ok l=>
        rw[hp]at h;have i1:=GC b _ _ k _ _ _ l hp;have i2:=uw S b F (k+1) d _ _ e deep m' h;have i3:=qo k m f.num l;omega
      ·have ih:=uw S b F (k+1) d _ _ e deep m' h;rw[N2]at ih;omega
  ·cases h
   omega
theorem M7 (S:dG)(nm b:am)(k:Nat)(m:PM)(h:gN S nm b= .ok m):kU k m<=8*b.size+1:=by
 unfold gN at h
 split at h
 ·cases h
 ·have h1:=uw S b _ k _ _ _ _ _ m h;have h2:=me k;omega
theorem GD {k:Nat}{f:PF}:∀{fs:List PF},f∈fs->mK k f.2<=yk k fs
 |x::fs,h=>by
  rw[nM]
  rcases aL.1 h with rfl|h
  ·omega
  ·have:=GD (k:=k) h;omega
theorem GE {k:Nat}:∀(fs:List PF),fs.length<=yk k fs
 | []=>aM _
 |x::fs=>by have:=GE (k:=k) fs;rw[nM,bn];omega
theorem GG {k:Nat}{v:PV}:∀{l:List PV},v∈l->kU k v.2.2<=mK k l
 |x::l,h=>by
  rw[lZ]
  rcases aL.1 h with rfl|h
  ·omega
  ·have:=GG (k:=k) h;omega
theorem GH {k:Nat}:∀(l:List PV),l.length<=mK (k+1) l
 | []=>aM _
 |x::l=>by have:=GH (k:=k) l;rw[lZ,lY,bn];omega
theorem Je:∀{k:Nat} {w:an} {Z:ap} {v:Value} {m:PM},fR k w Z v m->kU k m<=1099511627776->Me k m
 |0,_,_,_,_,_,_=>trivial
 |k+1,w,Z,v,m,⟨cs,hr,hf⟩,h=>by
  rw[lY]at h;have h1:=GE (k:=k) m.fs;refine⟨by omega,fun x hx=> ?_⟩;have h2:=GD (k:=k) hx;obtain⟨i,hi⟩:=List.mem_iff_getElem?.1 hx;obtain⟨vv,⟨vcs,_,hv⟩,_⟩:=hf.get hi
  have hM:∀y∈x.2,∃mv,fR k w Z mv y.2.2:=fun y hy=>by
   obtain⟨j,hj⟩:=List.mem_iff_getElem?.1 hy;obtain⟨mv,q,_⟩:=hv.get hj;exact⟨mv,q⟩
  refine⟨?_,fun y hy=> ?_⟩
  ·cases k with
   |zero=>
    cases hl:x.2 with
    |nil=>simp
    |cons y l=>
     obtain⟨mv,q⟩:=hM y (by rw[hl];exact bg);exact q.elim
   |succ k=>
    have:=GH (k:=k) x.2;omega
  ·obtain⟨mv,q⟩:=hM y hy;have:=GG (k:=k) hy;exact Je q (by omega)
def Pl (a e:Nat)(x:Int×Int):Prop:=(a:Int)<=x.2/\x.2<=(e:Int)
theorem Pl.up {a a' e e':Nat}{x:Int×Int}(h:Pl a' e' x)(h1:a<=a')(h2:e'<=e):Pl a e x:=by
 unfold Pl at*;omega
theorem qp {b:am}{a e:Nat}{x:Int×Int}(h:fA b a e= .error x)(ha:a<=e):Pl a e x:=by
 obtain⟨c,p⟩:=x;have:=(wX 10 0 0 c p h).2;unfold Pl;simp only;omega
theorem D9 {b:am}{a e:Nat}{x:Int×Int}(h:fF b a e= .error x)(ha:a<=e):Pl a e x:=by
 unfold fF at h
 cases h1:fA b a e with
 |error y=>rw[h1]at h;obtain rfl:=Except.error.inj h;exact qp h1 ha
 |ok y=>
  obtain⟨t,fr⟩:=y;rw[h1]at h;obtain⟨_,_,h3,h4⟩:=fW h1;simp only at h;have N2:∀c:Int,Pl a e (c,(fr:Int)):=fun c=>by unfold Pl;simp only;omega
  have N3:∀c:Int,Pl a e (c,(a:Int)):=fun c=>by unfold Pl;simp only;omega
  split at h
  ·obtain rfl:=Except.error.inj h;exact N3 _
  ·split at h
   ·cases h2:fA b fr e with
    |error y=>rw[h2]at h;obtain rfl:=Except.error.inj h;exact(qp h2 h4).up (by omega) (ay _)
    |ok y=>rw[h2]at h;cases h
   ·split at h
    ·split at h
     ·cases h
     ·obtain rfl:=Except.error.inj h;exact N2 _
    ·split at h
     ·split at h
      ·cases h
      ·obtain rfl:=Except.error.inj h;exact N2 _
     ·split at h
      ·cases h2:fA b fr e with
       |error y=>rw[h2]at h;obtain rfl:=Except.error.inj h;exact(qp h2 h4).up (by omega) (ay _)
       |ok y=>
        obtain⟨n,bh⟩:=y;rw[h2]at h;obtain⟨_,_,h5,h6⟩:=fW h2;simp only at h
        split at h
        ·cases h
        ·obtain rfl:=Except.error.inj h;unfold Pl;simp only;omega
      ·obtain rfl:=Except.error.inj h;exact N3 _
theorem pz {b:am}{k e:Nat}{x:Int×Int}:∀(F:Nat) (l:List PV) (a:Nat),e7 b k e F l a= .error x->a<=e->Pl a e x
 |0,_,_,h,_=>by cases h
 |F+1,l,a,h,ha=>by
  rw[e7]at h
  split at h
  ·split at h
   ·cases h2:fA b a e with
    |error y=>rw[h2]at h;obtain rfl:=Except.error.inj h;exact qp h2 ha
    |ok y=>
     obtain⟨n,z⟩:=y;rw[h2]at h;obtain⟨_,_,h5,h6⟩:=fW h2;exact(pz F _ z h h6).up (by omega) (ay _)
   ·simp only at h;generalize(if dL k=5 then 4 else 8)=z at h
    split at h
    ·exact(pz F _ (a+z) h (by omega)).up (by omega) (ay _)
    ·obtain rfl:=Except.error.inj h;unfold Pl;simp only;omega
  ·cases h
theorem pA {S:dG}{b:am}{x:Int×Int}:∀(F:Nat) (d:MT) (m:PM) (a e deep:Nat),dQ S b F d m a e deep= .error x->a<=e->Pl a e x
 |0,_,_,_,_,_,h,_=>by cases h
 |F+1,d,m,a,e,deep,h,ha=>by
  rw[dQ]at h
  split at h
  ·cases hr:fF b a e with
   |error y=>rw[hr]at h;obtain rfl:=Except.error.inj h;exact D9 hr ha
   |ok r=>
    rw[hr]at h;obtain⟨_,q1,q2,q3,q4,_⟩:=mz hr;simp only at h;have go:∀m',dQ S b F d m' r.e e deep= .error x->Pl a e x:=fun m' h'=>(pA F d m' r.e e deep h' q4).up (by omega) (ay _)
    have N2:∀c:Int,Pl a e (c,(r.fr:Int)):=fun c=>by unfold Pl;simp only;omega
    split at h
    ·exact go _ h
    ·split at h
     ·split at h
      ·split at h
       ·obtain rfl:=Except.error.inj h;exact N2 _
       ·split at h
        ·rename_i h2
         obtain rfl:=Except.error.inj h;exact(pA F _ _ r.fr r.e (deep+1) h2 q3).up (by omega) q4
        ·exact go _ h
      ·split at h
       ·rename_i h2
        obtain rfl:=Except.error.inj h;unfold pJ at h2
        split at h2
        ·split at h2
         ·obtain rfl:=Except.error.inj h2;exact N2 _
         ·cases h2
        ·cases h2
       ·exact go _ h
     ·split at h
      ·split at h
       ·rename_i h2
        obtain rfl:=Except.error.inj h;unfold mH at h2;exact(pz _ _ r.fr h2 q3).up (by omega) q4
       ·exact go _ h
      ·exact go _ h
  ·cases h
theorem Ea {S:dG}{nm b:am}{x:Int×Int}(h:gN S nm b= .error x):0<=x.2/\x.2<=(b.size:Int):=by
 unfold gN at h
 split at h
 ·obtain rfl:=Except.error.inj h;simp only;omega
 ·have:=pA _ _ _ 0 b.size 1 h (aM _);unfold Pl at this;omega
section
open Go.Maps
def q9:Fx PM->PM
 | .error _=>PM.none
 | .ok m=>m
def sd:Fx PM->Int×Int
 | .error x=>x
 | .ok _=>(0,0)
theorem jp.one {ks:au}{K:(ap)->an->Prop}{w:an}{R:Fx PM}{e:Ending}{w':an}(h:jp ks K w R e w'):
  ∃v Z,e= .returned (.tuple #[.agg #[v,ae (q9 R).unk],aa (sd R).1,aa (sd R).2])/\nE 9 w' v (q9 R) Z/\(∀b,Z b->w.heap.size<=b/\b<w'.heap.size)/\dl ks w w'/\K Z w':=by
 cases R with
 |error x=>exact⟨_,fun _=>False,h.1,nE.none 8 w' _,fun _ q=>q.elim,h.2.1,h.2.2⟩
 |ok m=>
  obtain⟨v,Z,h1,h2,h3,h4,h5⟩:=h;exact⟨v,Z,h1,h2,h3,h4,h5⟩
theorem KJ {S:dG}{nm b:am}{w:an}{Z:ap}{v:Value}(hb:b.size<=4000000)(h:fR 9 w Z v (q9 (gN S nm b))):Me 9 (q9 (gN S nm b)):=by
 refine Je h ?_
 cases hd:gN S nm b with
 |error x=>show kU 9 PM.none<=_;decide
 |ok m=>
  have:=M7 S nm b 9 m hd;show kU 9 m<=_;omega
theorem KL {S:dG}{nm b:am}:0<=(sd (gN S nm b)).2/\(sd (gN S nm b)).2<=(b.size:Int):=by
 cases hd:gN S nm b with
 |error x=>exact Ea hd
 |ok m=>exact⟨cH _,Int.natCast_nonneg _⟩
theorem IQ {S:dG}{nm:am}{m:PM}:oF S nm m=(((kK S nm m).1.size:Int),(kK S nm m).2):=by
 unfold oF kK
 split
 ·rfl
 ·split<;>simp[ByteArray.size]
theorem Al {t:am}{k:Int}{p:Nat}(h:gi t= .error (k,p)):k≠0:=by
 unfold gi at h
 split at h
 ·cases h;decide
 ·split at h
  ·cases h;decide
  ·split at h
   ·cases h;decide
   ·cases h
structure nN (w:an)(sb kp mk:Nat)(bs:List dh)(R:ap)(W:an):Prop where
 bel:aj w W
 low:∀b,b<w.heap.size->R b
 lt:∀b,R b->b<W.heap.size
 sch:∃P,jq W sb kp mk bs P/\∀b,R b->¬P b
structure mf (R:ap)(W W':an):Prop where
 size:W.heap.size<=W'.heap.size
 block:∀b,R b->W'.heap[b]?=W.heap[b]?
section
variable {w W W':an} {sb kp mk:Nat} {bs:List dh} {R R':ap}
theorem mf.blk (h:mf R W W'){b:Nat}{cs:Array Value}{T:TypeId}(hb:de W b cs T)(hR:R b):de W' b cs T:=(h.block b hR).trans hb
theorem mf.trans {W2:an}(h:mf R W W')(h2:mf R W' W2):mf R W W2:=⟨aG h.size h2.size,fun b q=>(h2.block b q).trans (h.block b q)⟩
theorem mf.less (h:mf R W W')(hi:∀b,R' b->R b):mf R' W W':=⟨h.size,fun b q=>h.block b (hi b q)⟩
theorem nN.less (h:nN w sb kp mk bs R W)(hi:∀b,R' b->R b)(hl:∀b,b<w.heap.size->R' b):nN w sb kp mk bs R' W:=by
 obtain⟨P,hs,hP⟩:=h.sch;exact⟨h.bel,hl,fun b q=>h.lt b (hi b q),P,hs,fun b q=>hP b (hi b q)⟩
theorem mf.mrn (h:mf R W W'){k:Nat}{Z:ap}{v:Value}{m:PM}(hm:fR k W Z v m)(hZ:∀b,Z b->R b):fR k W' Z v m:=hm.keep fun b q _=>h.block b (hZ b q)
theorem nN.uok (h:nN w sb kp mk bs R W)(hu:UOK w):UOK W:=hu.keep (h.bel.block _ hu.lt1) (h.bel.block _ hu.lt2)
theorem nN.step (h:nN w sb kp mk bs R W){P P':ap}(hk:dl [mk,kp] W W')(hs:jq W sb kp mk bs P)(hP:∀b,R b->¬P b)(hs':jq W' sb kp mk bs P')(hP':∀b,R' b->¬P' b)(hi:∀b,R b->R' b)(hlt:∀b,R' b->b<W'.heap.size):
  nN w sb kp mk bs R' W'/\mf R W W':=by
 obtain⟨pm,pk,_,_⟩:=hs.lt;refine⟨⟨h.bel.trans (hk.to_below h.bel.size fun x hx=> ?_),fun b hb=>hi b (h.low b hb),hlt,P',hs',hP'⟩,hk.size,fun b hR=>hk.block b (h.lt b hR) fun hx=> ?_⟩
 ·refine Nat.le_of_not_lt fun hl=>hP x (h.low x hl) ?_
  simp only[aL,bG,or_false]at hx
  rcases hx with rfl|rfl<;>assumption
 ·refine hP b hR ?_;simp only[aL,bG,or_false]at hx
  rcases hx with rfl|rfl<;>assumption
theorem nN.on (h:nN w sb kp mk bs R W)(hb:Below W.heap.size W W'):nN w sb kp mk bs (fun x=>R x\/(W.heap.size<=x/\x<W'.heap.size)) W'/\mf R W W':=by
 obtain⟨P,hs,hP⟩:=h.sch;have hl:=hb.size;refine⟨⟨cY h.bel hb,fun b q=> .inl (h.low b q),fun b q=> ?_,_,(hs.less (P':=fun x=>P x/\x<W.heap.size) fun x q hl=>⟨q,hl⟩).keep (w':=W') fun b _ hl=>hb.block b hl,fun b q p=> ?_⟩,hl,fun b q=>hb.block b (h.lt b q)⟩
 ·rcases q with q|q
  ·have:=h.lt b q;omega
  ·exact q.2
 ·rcases q with q|q
  ·exact hP b q p.1
  ·omega
theorem nN.dec (h:nN w sb kp mk bs R W)(hsb:ix bs)(hu:UOK w)(nm b:am)(hb:b.size<=4000000)(way:Int)(hw:way=1\/way=2):
  Calls Tryz.prog 21 #[ag sb,aa way,ae nm,ae b] W fun e W'=>
   ∃v Z,e= .returned (.tuple #[.agg #[v,ae (q9 (gN (dt bs) nm b)).unk],aa (sd (gN (dt bs) nm b)).1,aa (sd (gN (dt bs) nm b)).2])/\fR 9 W' Z v (q9 (gN (dt bs) nm b))/\nN w sb kp mk bs (fun x=>R x\/Z x) W'/\mf R W W':=by
 obtain⟨P,hs,hP⟩:=h.sch;refine(wz q8 W sb kp mk bs P nm b way hs hsb (h.uok hu) hb hw (hP _ (h.low _ hu.lt1)) (hP _ (h.low _ hu.lt2))).mono ?_;intro e W' q;obtain⟨v,Z,h1,h2,h3,h4,h5⟩:=q.one;have hl:=h4.size
 obtain⟨a1,a2⟩:=h.step h4 hs hP h5 (R':=fun x=>R x\/Z x) (fun x q p=>by
  rcases q with q|q<;>rcases p with⟨p,p2⟩|⟨p,p2⟩
  ·exact hP x q p
  ·have:=h.lt x q;omega
  ·have:=h3 x q;omega
  ·exact p2 q) (fun x q=> .inl q) (fun x q=>by
  rcases q with q|q
  ·have:=h.lt x q;omega
  ·exact(h3 x q).2)
 exact⟨v,Z,h1,h2.toIn.rn,a1,a2⟩
theorem nN.aft (h:nN w sb kp mk bs R W){P:ap}(hs:jq W sb kp mk bs P)(hP:∀b,R b->¬P b)(hk:dl [mk,kp] W W')(hs':jq W' sb kp mk bs fun x=>(P x/\x<W.heap.size)\/W.heap.size<=x):nN w sb kp mk bs R W'/\mf R W W':=
 h.step hk hs hP hs' (fun x q p=>by
  have:=h.lt x q
  rcases p with p|p
  ·exact hP x q p.1
  ·omega) (fun _ q=>q) (fun x q=>aC (h.lt x q) hk.size)
theorem nN.enc (h:nN w sb kp mk bs R W)(hsb:ix bs)(hu:UOK w)(nm:am)(way:Int)(hw:way=1\/way=2){k:Nat}{Z:ap}{mv:Value}{m:PM}(hM:fR k W Z mv m)(hZ:∀b,Z b->R b)(hO:kT k m)(hwt:uq k m<=140737488355328):
  Calls Tryz.prog 24 #[ag sb,aa way,ae nm,.agg #[mv,ae m.unk]] W fun e W'=>e= .returned (.tuple #[ae (kK (dt bs) nm m).1,aa (kK (dt bs) nm m).2])/\nN w sb kp mk bs R W'/\mf R W W':=by
 obtain⟨P,hs,hP⟩:=h.sch;refine(wC q8 W sb kp mk bs P nm way Z k mv m hs hsb (h.uok hu) hw (hP _ (h.low _ hu.lt1)) (hP _ (h.low _ hu.lt2)) hM (fun b q=>hP b (hZ b q)) hO fun d _=>aG (xX 8 k d m hO) hwt).mono ?_;rintro e W' ⟨h1,h2,h3⟩;exact⟨h1,h.aft hs hP h2 h3⟩
theorem nN.siz (h:nN w sb kp mk bs R W)(hsb:ix bs)(hu:UOK w)(nm:am)(way:Int)(hw:way=1\/way=2){k:Nat}{Z:ap}{mv:Value}{m:PM}(hM:fR k W Z mv m)(hZ:∀b,Z b->R b)(hO:kT k m)(hwt:uq k m<=140737488355328):
  Calls Tryz.prog 25 #[ag sb,aa way,ae nm,.agg #[mv,ae m.unk]] W fun e W'=>e= .returned (.tuple #[aa (kK (dt bs) nm m).1.size,aa (kK (dt bs) nm m).2])/\nN w sb kp mk bs R W'/\mf R W W':=by
 obtain⟨P,hs,hP⟩:=h.sch;refine(Gq q8 W sb kp mk bs P nm way Z k mv m hs hsb (h.uok hu) hw (hP _ (h.low _ hu.lt1)) (hP _ (h.low _ hu.lt2)) hM (fun b q=>hP b (hZ b q)) hO fun d _=>aG (xX 8 k d m hO) hwt).mono ?_;rintro e W' ⟨h1,h2,h3⟩;rw[IQ]at h1;exact⟨h1,h.aft hs hP h2 h3⟩
theorem nN.new {w1:an}(hb:aj w W)(hl:w.heap.size<=w1.heap.size)(hl2:w1.heap.size<=W.heap.size)(hs:zF W sb kp mk bs w1.heap.size)(hsb:ix bs):nN w sb kp mk bs (fun b=>b<w1.heap.size) W:=
 ⟨hb,fun b q=>by omega,fun b q=>by omega,_,hs.toP hsb,fun b q p=>by omega⟩
end
end
section
open Go.ChangeShapes Go.WideShapes Go.RowKit Go.Deep Go.Proofs.YtfebdimolnobaaaGreatDoor.Rows
theorem eo {s:am}{l:List UInt8}(h:s.data.toList=l):s=⟨l.toArray⟩:=by
 cases s
 simp only at h;subst h;rfl
theorem ou:Tryz.prog.cellsOf 9=1:=by kernel_rfl
theorem GI:Tryz.prog.cellsOf 3=1:=by kernel_rfl
theorem Am:Tryz.prog.cellsOf 49=2:=by kernel_rfl
theorem GJ:Tryz.prog.cellsOf 47=1:=by kernel_rfl
section
variable {H:Type}
theorem An (d:DataW H):1<=uptoBulk d:=by
 cases d with
 |lit l=>cases l<;>simp[uptoBulk]
 |_=>simp[uptoBulk]
theorem ux:∀l:List (DataW H),l.length<=uptoBulkAll l
 | []=>aM _
 |d::l=>by have:=ux l;have:=An d;rw[uptoBulkAll,bn];omega
theorem uy {d:DataW H}:∀{l:List (DataW H)},d∈l->uptoBulk d<=uptoBulkAll l
 |x::l,h=>by
  rw[uptoBulkAll]
  rcases aL.1 h with rfl|h
  ·omega
  ·have:=uy h;omega
theorem uz {s:am}:uptoBulk (.lit (.string s.data.toList):DataW H)=s.size+1:=by rw[uptoBulk,cC];rfl
theorem mF {enc:TypeId×Value->H}{w:an}{v:Value}{d:DataW H}{ps:List MemPlace}(hv:∃s,v=ae s)(h:DataW.Trod enc Tryz.prog w 0 (fun _=>true) true 9 v d ps):∃s,v=ae s/\uptoBulk d=s.size+1:=by
 obtain⟨fuel,hf⟩:=h;obtain⟨s,rfl⟩:=hv;obtain⟨s',e,hx,_⟩:=DataW.trod_string Tryz.underlying9 hf
 obtain rfl:s=s':=by
  have:Value.string s=ae s':=List.cons.inj e|>.1
  cases this
  rfl
 exact⟨s,rfl,by rw[show d=_ from congrArg Prod.fst hx,uz]⟩
end
end
structure Ag (b c:am)(e:Nat):Prop where
 at_:∀i,i<e->eB c i=eB b i
 ext:∀i j,j<=e->c.extract i j=b.extract i j
theorem Ag.refl (b:am)(e:Nat):Ag b b e:=⟨fun _ _=>rfl,fun _ _ _=>rfl⟩
theorem Ag.less {b c:am}{e f:Nat}(h:Ag b c e)(hf:f<=e):Ag b c f:=⟨fun i hi=>h.at_ i (by omega),fun i j hj=>h.ext i j (by omega)⟩
theorem qs (b:am)(i:Nat):eB b i=((b.data.toList[i]?).map fun x=>(x.toNat:Int)).getD 0:=by
 unfold eB
 split
 ·rename_i h
  rw[bi,bo (show i<b.data.size from h)];rfl
 ·rename_i h
  rw[bi,bX (show b.data.size<=i from by have:b.data.size=b.size:=rfl;omega)];rfl
theorem uG (b t:am):(b++t).data.toList=b.data.toList++t.data.toList:=by simp
theorem IW (b t:am)(i:Nat):eB (b++t) (b.size+i)=eB t i:=by
 rw[qs,qs,uG,ck (by simp)];simp
theorem Ag.app (b t:am):Ag b (b++t) b.size:=by
 refine⟨fun i hi=> ?_,fun i j hj=> ?_⟩
 ·rw[qs,qs,uG,cn (by simpa using hi)]
 ·have h1:∀c:am,(c.extract i j).data.toList=(c.data.toList.take j).drop i:=fun c=>by
   rw[cG,Array.toList_extract,List.extract_eq_take_drop,List.drop_take]
  have h2:((b++t).extract i j).data.toList=(b.extract i j).data.toList:=by
   rw[h1,h1,uG,List.take_append_of_le_length (by simpa using hj)]
  exact cF (Array.toList_inj.1 h2)
theorem GP {b c:am}{a e:Nat}(h:Ag b c e):∀f i n,lD c a e f i n=lD b a e f i n
 |0,_,_=>rfl
 |f+1,i,n=>by
  rw[lD,lD]
  split
  ·rename_i hl
   rw[h.at_ _ hl,GP h f]
  ·rfl
theorem La {b c:am}{a e:Nat}(h:Ag b c e):fF c a e=fF b a e:=by
 have hv:∀a,fA c a e=fA b a e:=fun a=>GP h 10 0 0
 unfold fF;rw[hv a]
 split
 ·rfl
 ·rename_i t fr _
  rw[hv fr];have e8:fr+8<=e->c.extract fr (fr+8)=b.extract fr (fr+8):=fun q=>h.ext _ _ q
  have e4:fr+4<=e->c.extract fr (fr+4)=b.extract fr (fr+4):=fun q=>h.ext _ _ q
  split
  ·rfl
  ·split
   ·rfl
   ·split
    ·split
     ·rw[e8 ‹_›]
     ·rfl
    ·split
     ·split
      ·rw[e4 ‹_›]
      ·rfl
     ·rfl
theorem ye {b c:am}{k e:Nat}(h:Ag b c e):∀F l a,e7 c k e F l a=e7 b k e F l a
 |0,_,_=>rfl
 |F+1,l,a=>by
  rw[e7,e7];have hv:fA c a e=fA b a e:=GP h 10 0 0;rw[hv]
  split
  ·split
   ·split
    ·rfl
    ·rw[ye h F]
   ·simp only;generalize(if dL k=5 then 4 else 8)=z
    split
    ·rw[h.ext _ _ ‹_›,ye h F]
    ·rfl
  ·rfl
def nR (S:dG)(b:am)(F:Nat)(d:MT)(m:PM)(r:rK)(deep:Nat):Fx PM:=
 match dv d.fs r.num with
 |none=> .ok (m.keep (b.extract r.a r.e))
 |some f=>if r.kind=eZ S f then rP S b F d f m r deep
  else if r.kind=2/\f.isRep=true then(match mH S b f (m.get f.num) r.fr r.e with| .error x=> .error x| .ok l=> .ok (m.put f.num l))
  else .ok (m.keep (b.extract r.a r.e))
theorem kL {S:dG}{b:am}{F a e deep:Nat}{d:MT}{m:PM}{r:rK}(h:a<e)(hr:fF b a e= .ok r):dQ S b (F+1) d m a e deep=EQ S b F d r.e e deep (nR S b F d m r deep):=by
 unfold nR
 split
 ·rename_i hf
  exact po h hr fun f q=>by rw[hf]at q;cases q
 ·rename_i f hf
  split
  ·exact vE h hr hf ‹_›
  ·split
   ·rename_i hk hp
    exact tf h hr hf hk hp.1 hp.2
   ·rename_i hk hp
    exact po h hr fun g q=>by
     rw[hf]at q
     cases q
     exact⟨hk,hp⟩
theorem ov {S:dG}{b c:am}:∀(F G:Nat) (d:MT) (m:PM) (a e deep:Nat),Ag b c e->e-a<F->e-a<G->dQ S c G d m a e deep=dQ S b F d m a e deep
 |0,_,_,_,_,_,_,_,h,_=>absurd h (by omega)
 |_+1,0,_,_,_,_,_,_,_,h=>absurd h (by omega)
 |F+1,G+1,d,m,a,e,deep,hA,hF,hG=>by
  by_cases hl:a<e
  ·have N3:=La (a:=a) hA
   cases hr:fF b a e with
   |error x=>rw[io hl hr,io hl (N3.trans hr)]
   |ok r=>
    rw[kL hl hr,kL hl (N3.trans hr)];obtain⟨r1,r2,r3,r4,r5,_⟩:=mz hr;have N7:=hA.less r5
    have hs:nR S c G d m r deep=nR S b F d m r deep:=by
     have hx:c.extract r.a r.e=b.extract r.a r.e:=hA.ext _ _ r5;have hy:c.extract r.fr r.e=b.extract r.fr r.e:=hA.ext _ _ r5;unfold nR;rw[hx]
     split
     ·rfl
     ·rename_i f _
      split
      ·have:rO S c G f m r deep=rO S b F f m r deep:=by
        unfold rO AJ pJ;rw[hy]
        split
        ·rename_i sub _
         rw[ov F G sub _ r.fr r.e (deep+1) N7 (by omega) (by omega)]
        ·rfl
       unfold rP;rw[this]
      ·unfold mH;rw[ye N7]
    rw[hs];unfold EQ
    split
    ·rfl
    ·exact ov F G d _ r.e e deep hA (by omega) (by omega)
  ·rw[j7 hl,j7 hl]
theorem GQ {b:am}{a e e':Nat}(he:e<=e'):∀f i n,(∀x,lD b a e f i n= .ok x->lD b a e' f i n= .ok x)/\∀c p,lD b a e f i n= .error (c,p)->c≠6->lD b a e' f i n= .error (c,p)
 |0,_,_=>⟨fun _ h=>h,fun _ _ h _=>h⟩
 |f+1,i,n=>by
  rw[lD,lD]
  by_cases hl:a+i<e
  ·rw[if_pos hl,if_pos (show a+i<e' by omega)]
   split
   ·exact⟨fun _ h=>h,fun _ _ h _=>h⟩
   ·split
    ·exact⟨fun _ h=>h,fun _ _ h _=>h⟩
    ·exact GQ he f _ _
  ·rw[if_neg hl]
   exact⟨fun x h=>(by cases h),fun c p h hc=>by
    simp only[Except.error.injEq,Prod.mk.injEq]at h
    omega⟩
theorem CR {b:am}{a e e':Nat}(he:e<=e'):(∀x,fA b a e= .ok x->fA b a e'= .ok x)/\∀c p,fA b a e= .error (c,p)->c≠6->fA b a e'= .error (c,p):=GQ he 10 0 0
theorem CS {b:am}{a e e':Nat}(he:e<=e'):(∀r,fF b a e= .ok r->fF b a e'= .ok r)/\∀c p,fF b a e= .error (c,p)->c≠6->fF b a e'= .error (c,p):=by
 have N2:∀{α:Type} {c p:Int} {k:Nat} {X:Fx α},(Except.error ((6:Int),(k:Int)):Fx α)= .error (c,p)->c≠6->X= .error (c,p):=fun h hc=>by
  simp only[Except.error.injEq,Prod.mk.injEq]at h;omega
 obtain⟨v1,v2⟩:=CR (b:=b) (a:=a) he;unfold fF
 cases hv:fA b a e with
 |error x=>
  refine⟨fun r h=>(by cases h),fun c p h hc=> ?_⟩;have h:Except.error x=Except.error (c,p):=h
  cases h
  rw[v2 c p hv hc]
 |ok x=>
  obtain⟨t,fr⟩:=x;rw[v1 _ hv];simp only;obtain⟨u1,u2⟩:=CR (b:=b) (a:=fr) he
  split
  ·exact⟨fun r h=>(by cases h),fun c p h _=>h⟩
  ·split
   ·cases hw:fA b fr e with
    |error x=>
     refine⟨fun r h=>(by cases h),fun c p h hc=> ?_⟩;have h:Except.error x=Except.error (c,p):=h
     cases h
     rw[u2 c p hw hc]
    |ok x=>rw[u1 _ hw];exact⟨fun _ h=>h,fun _ _ h _=>h⟩
   ·split
    ·by_cases h8:fr+8<=e
     ·rw[if_pos h8,if_pos (by omega)];exact⟨fun _ h=>h,fun _ _ h _=>h⟩
     ·rw[if_neg h8];exact⟨fun r h=>(by cases h),fun c p h hc=>N2 h hc⟩
    ·split
     ·by_cases h4:fr+4<=e
      ·rw[if_pos h4,if_pos (by omega)];exact⟨fun _ h=>h,fun _ _ h _=>h⟩
      ·rw[if_neg h4];exact⟨fun r h=>(by cases h),fun c p h hc=>N2 h hc⟩
     ·split
      ·cases hw:fA b fr e with
       |error x=>
        refine⟨fun r h=>(by cases h),fun c p h hc=> ?_⟩;have h:Except.error x=Except.error (c,p):=h
        cases h
        rw[u2 c p hw hc]
       |ok x=>
        obtain⟨n,bh⟩:=x;rw[u1 _ hw];simp only
        by_cases hn:(bh:Int)+n<=e
        ·rw[if_pos hn,if_pos (by omega)];exact⟨fun _ h=>h,fun _ _ h _=>h⟩
        ·rw[if_neg hn];exact⟨fun r h=>(by cases h),fun c p h hc=>N2 h hc⟩
      ·exact⟨fun r h=>(by cases h),fun c p h _=>h⟩
theorem rg {S:dG}{b:am}{e e' deep:Nat}(he:e<=e'):∀(F G:Nat) (d:MT) (m:PM) (a:Nat),a<=e->e-a<F->e'-a<G->
  (∀c p,dQ S b F d m a e deep= .error (c,p)->c≠6->dQ S b G d m a e' deep= .error (c,p))/\
  ∀m',dQ S b F d m a e deep= .ok m'->∀K,e'-e<K->dQ S b G d m a e' deep=dQ S b K d m' e e' deep
 |0,_,_,_,_,_,h,_=>absurd h (by omega)
 |_+1,0,_,_,_,_,_,h=>absurd h (by omega)
 |F+1,G+1,d,m,a,ha,hF,hG=>by
  by_cases hl:a<e
  ·cases hr:fF b a e with
   |error x=>
    rw[io hl hr];refine⟨fun c p h hc=> ?_,fun m' h=>(by cases h)⟩
    cases h
    exact io (by omega) ((CS he).2 c p hr hc)
   |ok r=>
    obtain⟨r1,r2,r3,r4,r5,_⟩:=mz hr;rw[kL hl hr,kL (by omega) ((CS he).1 r hr)]
    have hs:nR S b G d m r deep=nR S b F d m r deep:=by
     unfold nR rP rO AJ
     split
     ·rfl
     ·split
      ·split
       ·rename_i sub _
        rw[ov F G sub _ r.fr r.e (deep+1) (Ag.refl _ _) (by omega) (by omega)]
       ·rfl
      ·rfl
    rw[hs]
    cases hq:nR S b F d m r deep with
    |error x=>exact⟨fun c p h _=>h,fun m' h=>(by cases h)⟩
    |ok m1=>exact rg he F G d m1 r.e r5 (by omega) (by omega)
  ·rw[j7 hl];obtain rfl:a=e:=by omega
   refine⟨fun c p h=>(by cases h),fun m' h K hK=> ?_⟩
   cases h
   exact ov K (G+1) d m a e' deep (Ag.refl _ _) hK (by omega)
theorem yf {b:am}{k e:Nat}{c p:Int}:∀F l a,e7 b k e F l a= .error (c,p)->c≠0
 |0,_,_,h=>by cases h
 |F+1,l,a,h=>by
  rw[e7]at h
  split at h
  ·split at h
   ·split at h
    ·rename_i x hv
     cases h
     have:=(BS hv).1;omega
    ·exact yf F _ _ h
   ·simp only at h;generalize(if dL k=5 then 4 else 8)=z at h
    split at h
    ·exact yf F _ _ h
    ·cases h
     decide
  ·cases h
theorem yg {S:dG}{b:am}{c p:Int}:∀(F:Nat) (d:MT) (m:PM) (a e deep:Nat),dQ S b F d m a e deep= .error (c,p)->c≠0
 |0,_,_,_,_,_,h=>by cases h
 |F+1,d,m,a,e,deep,h=>by
  by_cases hl:a<e
  ·cases hr:fF b a e with
   |error x=>rw[io hl hr]at h;cases h;exact ER hr
   |ok r=>
    rw[kL hl hr]at h
    cases hs:nR S b F d m r deep with
    |ok m1=>rw[hs]at h;exact yg F d m1 r.e e deep h
    |error x=>
     rw[hs]at h
     cases h
     unfold nR at hs
     split at hs
     ·cases hs
     ·rename_i f _
      split at hs
      ·unfold rP at hs
       cases hv:rO S b F f m r deep with
       |ok v=>rw[hv]at hs;cases hs
       |error x=>
        rw[hv]at hs
        cases hs
        unfold rO AJ at hv
        split at hv
        ·rename_i sub _
         split at hv
         ·rename_i x hx
          cases hv
          split at hx
          ·cases hx;decide
          ·exact yg F _ _ _ _ _ hx
         ·cases hv
        ·unfold pJ at hv
         split at hv
         ·split at hv
          ·cases hv;decide
          ·cases hv
         ·cases hv
      ·split at hs
       ·split at hs
        ·rename_i x hx
         cases hs
         exact yf _ _ _ hx
        ·cases hs
       ·cases hs
  ·rw[j7 hl]at h
   cases h
theorem Lb {S:dG}{nm b:am}{c p:Int}(h:gN S nm b= .error (c,p)):c≠0:=by
 unfold gN at h
 split at h
 ·cases h;decide
 ·exact yg _ _ _ _ _ _ h
theorem GR {S:dG}{nm b t:am}{c p:Int}(h:gN S nm b= .error (c,p))(hc:c≠6):gN S nm (b++t)= .error (c,p):=by
 unfold gN at*
 cases hm:S.msg nm with
 |none=>rw[hm]at h;exact h
 |some d=>
  rw[hm]at h;simp only at*;have hz:(b++t).size=b.size+t.size:=by simp
  rw[<-ov (b.size+1) (b.size+1) d PM.none 0 b.size 1 (Ag.app b t) (by omega) (by omega)]at h;exact(rg (by omega) _ _ d PM.none 0 (aM _) (by omega) (by omega)).1 c p h hc
theorem Lc {S:dG}{nm b t:am}{m:PM}(h:gN S nm b= .ok m):∃d,S.msg nm=some d/\gN S nm (b++t)=dQ S (b++t) (t.size+1) d m b.size (b.size+t.size) 1:=by
 unfold gN at*
 cases hm:S.msg nm with
 |none=>rw[hm]at h;cases h
 |some d=>
  rw[hm]at h;simp only at*;have hz:(b++t).size=b.size+t.size:=by simp
  rw[<-ov (b.size+1) (b.size+1) d PM.none 0 b.size 1 (Ag.app b t) (by omega) (by omega)]at h;refine⟨d,rfl,?_⟩;rw[(rg (by omega) _ _ d PM.none 0 (aM _) (by omega) (by omega)).2 m h (t.size+1) (by omega),hz]
theorem Ap {b t:am}{a e:Nat}:∀f i n,(∀m z,lD t a e f i n= .ok (m,z)->lD (b++t) (b.size+a) (b.size+e) f i n= .ok (m,b.size+z))/\∀c p,lD t a e f i n= .error (c,p)->lD (b++t) (b.size+a) (b.size+e) f i n= .error (c,b.size+p)
 |0,_,_=>by
  refine⟨fun m z h=>(by cases h),fun c p h=> ?_⟩
  cases h
  simp[lD]
 |f+1,i,n=>by
  rw[lD,lD,show b.size+a+i=b.size+(a+i)by omega,IW]
  by_cases hl:a+i<e
  ·rw[if_pos hl,if_pos (show b.size+(a+i)<b.size+e by omega)]
   split
   ·refine⟨fun m z h=>(by cases h),fun c p h=> ?_⟩
    cases h
    simp
   ·split
    ·refine⟨fun m z h=> ?_,fun c p h=>(by cases h)⟩
     cases h
     simp[Nat.add_assoc]
    ·exact Ap f _ _
  ·rw[if_neg hl,if_neg (show¬b.size+(a+i)<b.size+e by omega)];refine⟨fun m z h=>(by cases h),fun c p h=> ?_⟩
   cases h
   simp
theorem Eb {b t:am}{a e:Nat}{c p:Int}(h:fF t a e= .error (c,p)):fF (b++t) (b.size+a) (b.size+e)= .error (c,b.size+p):=by
 have hv:∀a,(∀m z,fA t a e= .ok (m,z)->fA (b++t) (b.size+a) (b.size+e)= .ok (m,b.size+z))/\∀c p,fA t a e= .error (c,p)->fA (b++t) (b.size+a) (b.size+e)= .error (c,b.size+p):=fun a=>Ap 10 0 0
 unfold fF at*
 cases h1:fA t a e with
 |error x=>
  rw[h1]at h;have h:Except.error x=Except.error (c,p):=h
  cases h
  rw[(hv a).2 c p h1]
 |ok x=>
  obtain⟨n,fr⟩:=x;rw[h1]at h;rw[(hv a).1 n fr h1];simp only at*
  split at h
  ·rw[if_pos ‹_›];cases h;simp
  ·rw[if_neg ‹_›]
   split at h
   ·rw[if_pos ‹_›]
    cases h2:fA t fr e with
    |error x=>
     rw[h2]at h;have h:Except.error x=Except.error (c,p):=h
     cases h
     rw[(hv fr).2 c p h2]
    |ok x=>rw[h2]at h;cases h
   ·rw[if_neg ‹_›]
    split at h
    ·rw[if_pos ‹_›]
     split at h
     ·cases h
     ·rw[if_neg (by omega)];cases h;simp
    ·rw[if_neg ‹_›]
     split at h
     ·rw[if_pos ‹_›]
      split at h
      ·cases h
      ·rw[if_neg (by omega)];cases h;simp
     ·rw[if_neg ‹_›]
      split at h
      ·rw[if_pos ‹_›]
       cases h2:fA t fr e with
       |error x=>
        rw[h2]at h;have h:Except.error x=Except.error (c,p):=h
        cases h
        rw[(hv fr).2 c p h2]
       |ok x=>
        obtain⟨q,bh⟩:=x;rw[h2]at h;rw[(hv fr).1 q bh h2];simp only at*
        split at h
        ·cases h
        ·rw[if_neg (by omega)];cases h;simp
      ·rw[if_neg ‹_›];cases h;simp
theorem GS {S:dG}{nm b t:am}{m:PM}{c p:Int}(h:gN S nm b= .ok m)(ht:0<t.size)(hr:fF t 0 t.size= .error (c,p)):gN S nm (b++t)= .error (c,b.size+p):=by
 obtain⟨d,_,h2⟩:=Lc (t:=t) h;rw[h2];have:=Eb (b:=b) hr;exact io (by omega) this
end Go.Proofs.YtfebdimolnobaaaGreatDoor
