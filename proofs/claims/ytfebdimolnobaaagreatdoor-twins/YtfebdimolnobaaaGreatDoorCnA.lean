import Derived.Test.YtfebdimolnobaaaGreatDoorKsA
import Derived.Test.YtfebdimolnobaaaGreatDoorEpI
import Derived.Test.YtfebdimolnobaaaGreatDoorRows
import Derived.Deep.Strs
import Derived.ProofKit
set_option maxRecDepth 100000
set_option maxHeartbeats 8000000
set_option linter.all false
namespace Go.Proofs.YtfebdimolnobaaaGreatDoor
open Go.RowKit
def kU:Nat->PM->Nat
 |0,_=>0
 |k+1,m=>1+(m.fs.map fun f=>1+(f.2.map fun v=>kU k v.2.2).sum).sum
def mK (k:Nat)(l:List PV):Nat:=(l.map fun v=>kU k v.2.2).sum
def yk (k:Nat)(fs:List PF):Nat:=(fs.map fun f=>1+mK k f.2).sum
theorem lY (k:Nat)(m:PM):kU (k+1) m=1+yk k m.fs:=rfl
theorem nM (k:Nat)(f:PF)(fs:List PF):yk k (f::fs)=1+mK k f.2+yk k fs:=rfl
theorem lZ (k:Nat)(v:PV)(l:List PV):mK k (v::l)=kU k v.2.2+mK k l:=rfl
theorem CO (k:Nat)(a b:List PF):yk k (a++b)=yk k a+yk k b:=by unfold yk;rw[bH,List.sum_append]
theorem qm (k:Nat)(a b:List PV):mK k (a++b)=mK k a+mK k b:=by unfold mK;rw[bH,List.sum_append]
theorem me (k:Nat):kU k PM.none<=1:=by cases k<;>simp[kU,PM.none,PM.fs]
theorem Gy {k:Nat}{m m':PM}(h:m.fs=m'.fs):kU k m=kU k m':=by cases k<;>simp[kU,h]
theorem Gz (k:Nat)(n:Int)(l:List PV):∀(fs:List PF) (done:Bool),yk k (iG n l done fs)+mK k (fU fs n)<=yk k fs+(if done then 0 else 1+mK k l)
 | [],done=>by
  cases done<;>simp[iG,fU,yk,mK]
 |x::r,done=>by
  rw[iG,CO,CO,fU,nM]
  by_cases hx:x.1=n
  ·have ih:=Gz k n l r true;have hn:decide (n<=x.1)=true:=by simp;omega
   rw[hn,cj,if_pos hx,if_pos hx];simp only[if_true]at ih
   cases done<;>simp[yk]at ih⊢<;>omega
  ·rw[if_neg hx,if_neg hx]
   cases hn:decide (n<=x.1)
   ·have ih:=Gz k n l r done;rw[cE];simp only[cg,aK,if_false];rw[nM];have e:yk k []=0:=rfl;omega
   ·have ih:=Gz k n l r true;rw[cj];simp only[if_true]at ih;have e:yk k []=0:=rfl;have e1:=nM k x [];have e2:yk k [(n,l)]=1+mK k l:=rfl
    cases done
    ·simp only[cm,cu,if_true,aK,if_false];omega
    ·simp only[cr,cl,aK,if_false,if_true];omega
theorem qo (k:Nat)(m:PM)(n:Int)(l:List PV):kU (k+1) (m.put n l)+mK k (m.get n)<=kU (k+1) m+(1+mK k l):=by
 have h:=Gz k n l m.fs l.isEmpty;rw[lY,lY];have h2:(if l.isEmpty then 0 else 1+mK k l)<=1+mK k l:=by split<;>omega
 show 1+yk k (iG n l l.isEmpty m.fs)+mK k (fU m.fs n)<=_;omega
theorem Ak (k:Nat)(m:PM)(n:Int):kU k (m.put n [])<=kU k m:=by
 cases k with
 |zero=>exact ay _
 |succ k=>
  have h:=Gz k n [] m.fs true;rw[lY,lY];show 1+yk k (iG n [] true m.fs)<=_;simp only[if_true]at h;omega
theorem BE (k:Nat)(t:am)(v:PV):∀(l:List PV) (done:Bool),mK k (gM t v done l)<=mK k l+(if done then 0 else kU k v.2.2)
 | [],done=>by cases done<;>simp[gM,mK]
 |x::r,done=>by
  rw[gM,qm,qm,lZ];generalize(sN t (gr v) (gr x)||mG (gr v) (gr x))=c;have e:mK k []=0:=rfl;have e1:=lZ k v [];have e2:=lZ k x [];have h0:=BE k t v r done;have h1:=BE k t v r true;simp only[if_true]at h1;have hB:mK k (if mG (gr v) (gr x)then []else [x])<=kU k x.2.2:=by split<;>omega
  cases c
  ·simp only[cg,cE,aK,if_false];omega
  ·rw[cj]
   cases done
   ·simp only[cm,cu,if_true,aK,if_false];omega
   ·simp only[cr,cl,aK,if_false,if_true];omega
theorem GA (k:Nat)(f:ek):∀(l:List ek) (m:PM),kU k (jx f l m)<=kU k m/\(jx f l m).get f.num=m.get f.num
 | [],m=>⟨ay _,rfl⟩
 |o::l,m=>by
  rw[jx]
  split
  ·rename_i hc
   obtain⟨h1,h2⟩:=GA k f l (m.put o.num []);refine⟨aG h1 (Ak k m o.num),h2.trans (PM.get_put_ne _ _ _ _ ?_)⟩;simp only[aT,decide_eq_true_eq]at hc;exact fun e=>hc.2 e.symm
  ·exact GA k f l m
theorem Mf (k:Nat)(m:PM):kU k (gH m)<=kU k m+4:=by
 have h1:∀(m:PM) (n:Int),kU k (et m n)<=kU k m+2:=fun m n=>by
  unfold et
  split
  ·cases k with
   |zero=>simp[kU]
   |succ k=>
    have h:=qo k m n [PV.none];have h2:=me k;have h3:mK k [PV.none]=kU k PM.none:=by simp[mK,PV.none]
    omega
  ·omega
 have h2:kU k (gH m)=kU k (et (et m 1) 2):=Gy rfl;have h3:=h1 (et m 1) 2;have h4:=h1 m 1;omega
theorem KH {k:Nat}{f:ek}{m:PM}(h:¬(f.isRep||f.isMap)=true):kU k (eA f m).2.2<=mK k (m.get f.num)+1:=by
 unfold eA;rw[if_neg h]
 cases m.get f.num with
 |nil=>have:=me k;simp[PV.none];omega
 |cons v l=>simp[lZ];omega
theorem GB (S:dG)(d:MT)(f:ek)(m:PM)(v:PV)(k:Nat)(c:Nat)(hv:kU k v.2.2<=kU k (eA f m).2.2+c):kU (k+1) (iw S d f m v)<=kU (k+1) m+6+c:=by
 have hN:=me k;have hS:(f.isRep||f.isMap)=true->kU k (eA f m).2.2<=1:=fun q=>by unfold eA;rw[if_pos q];exact hN
 unfold iw
 split
 ·rename_i hm
  have h1:=qo k m f.num (kj f.key (m.get f.num) (v.1,v.2.1,gH v.2.2));have h2:=BE k f.key (v.1,v.2.1,gH v.2.2) (m.get f.num) false;have h3:=Mf k v.2.2;have h4:=hS (by rw[hm,cj]);unfold kj at*;simp only[aK,if_false]at h2;omega
 ·rename_i hm
  split
  ·rename_i hr
   have h1:=qo k m f.num (m.get f.num++ [v]);have h2:=qm k (m.get f.num) [v];have h3:mK k [v]=kU k v.2.2:=by simp[mK]
   have h4:=hS (by rw[hr,cp]);omega
  ·rename_i hr
   split
   ·have:=Ak (k+1) m f.num;omega
   ·obtain⟨h1,h2⟩:=GA (k+1) f d.fs m;have h3:=qo k (jx f d.fs m) f.num [v];have h4:mK k [v]=kU k v.2.2:=by simp[mK]
    have h5:=KH (k:=k) (f:=f) (m:=m) (by simp[hm,hr]);rw[h2]at h3;omega
theorem GC (b:am)(kd e k:Nat):∀(F:Nat) (l:List PV) (a:Nat) (l':List PV),e7 b kd e F l a= .ok l'->mK k l'<=mK k l+(e-a)
 |0,l,a,l',h=>by
  cases h
  omega
 |F+1,l,a,l',h=>by
  rw[e7]at h;have hN:=me k
  split at h
  ·rename_i ha
   split at h
   ·cases hv:fA b a e with
    |error x=>rw[hv]at h;cases h
    |ok nz=>
     obtain⟨n,z⟩:=nz;rw[hv]at h;obtain⟨_,_,h1,h2⟩:=fW hv;have ih:=GC b kd e k F _ z l' h;rw[qm]at ih;have h3:mK k [(eW kd n,eS,PM.none)]=kU k PM.none:=by simp[mK]
     omega
   ·have h4:4<=(if dL kd=5 then 4 else 8):=by split<;>omega
    simp only at h;generalize(if dL kd=5 then 4 else 8)=z at h h4
    split at h
    ·have ih:=GC b kd e k F _ _ l' h;rw[qm]at ih;have h3:mK k [(eW kd (Au (b.extract a (a+z))),eS,PM.none)]=kU k PM.none:=by simp[mK]
     omega
    ·cases h
  ·cases h
   omega
theorem uw (S:dG)(b:am):∀(F k:Nat) (d:MT) (m:PM) (a e deep:Nat) (m':PM),dQ S b F d m a e deep= .ok m'->kU k m'<=kU k m+8*(e-a)
 |0,k,d,m,a,e,deep,m',h=>by
  cases h
  omega
 |F+1,0,d,m,a,e,deep,m',h=>by simp[kU]
 |F+1,k+1,d,m,a,e,deep,m',h=>by
  rw[dQ]at h
  split at h
  ·cases hr:fF b a e with
   |error x=>rw[hr]at h;cases h
   |ok r=>
    rw[hr]at h;obtain⟨r1,r2,r3,r4,r5,_⟩:=mz hr;have N2:∀s,kU (k+1) (m.keep s)=kU (k+1) m:=fun s=>Gy rfl
    simp only at h
    split at h
    ·have ih:=uw S b F (k+1) d _ _ e deep m' h;rw[N2]at ih;omega
    ·rename_i f hf
     split at h
     ·split at h
      ·rename_i sub hsub
       split at h
       ·cases h
       ·cases hs:dQ S b F sub (eA f m).2.2 r.fr r.e (deep+1)with
        |error x=>rw[hs]at h;cases h
        |ok sm=>
         rw[hs]at h;have i1:=uw S b F k sub _ _ _ _ sm hs;have i2:=uw S b F (k+1) d _ _ e deep m' h;have i3:=GB S d f m ((eA f m).1,(eA f m).2.1,sm) k (8*(r.e-r.fr)) i1;omega
      ·cases hv:pJ S b f r with
       |error x=>rw[hv]at h;cases h
       |ok v=>
        rw[hv]at h;have i2:=uw S b F (k+1) d _ _ e deep m' h
        have hn:v.2.2=PM.none:=by
         unfold pJ at hv
         split at hv
         ·split at hv
          ·cases hv
          ·cases hv;rfl
         ·cases hv;rfl
        have i3:=GB S d f m v k 1 (by rw[hn];have:=me k;omega);omega
     ·split at h
      ·cases hp:mH S b f (m.get f.num) r.fr r.e with
       |error x=>rw[hp]at h;cases h
       |ok l=>
        rw[hp]at h;have i1:=GC b _ _ k _ _ _ l hp;have i2:=uw S b F (k+1) d _ _ e deep m' h;have i3:=qo k m f.num l;omega
      ·have ih:=uw S b F (k+1) d _ _ e deep m' h;rw[N2]at ih;omega
  ·cases h
   omega
theorem M7 (S:dG)(nm b:am)(k:Nat)(m:PM)(h:gN S nm b= .ok m):kU k m<=8*b.size+1:=by
 unfold gN at h
 split at h
 ·cases h
 ·have h1:=uw S b _ k _ _ _ _ _ m h;have h2:=me k;omega
theorem GD {k:Nat}{f:PF}:∀{fs:List PF},f∈fs->mK k f.2<=yk k fs
 |x::fs,h=>by
  rw[nM]
  rcases aL.1 h with rfl|h
  ·omega
  ·have:=GD (k:=k) h;omega
theorem GE {k:Nat}:∀(fs:List PF),fs.length<=yk k fs
 | []=>aM _
 |x::fs=>by have:=GE (k:=k) fs;rw[nM,bn];omega
theorem GG {k:Nat}{v:PV}:∀{l:List PV},v∈l->kU k v.2.2<=mK k l
 |x::l,h=>by
  rw[lZ]
  rcases aL.1 h with rfl|h
  ·omega
  ·have:=GG (k:=k) h;omega
theorem GH {k:Nat}:∀(l:List PV),l.length<=mK (k+1) l
 | []=>aM _
 |x::l=>by have:=GH (k:=k) l;rw[lZ,lY,bn];omega
theorem Je:∀{k:Nat} {w:an} {Z:ap} {v:Value} {m:PM},fR k w Z v m->kU k m<=1099511627776->Me k m
 |0,_,_,_,_,_,_=>trivial
 |k+1,w,Z,v,m,⟨cs,hr,hf⟩,h=>by
  rw[lY]at h;have h1:=GE (k:=k) m.fs;refine⟨by omega,fun x hx=> ?_⟩;have h2:=GD (k:=k) hx;obtain⟨i,hi⟩:=List.mem_iff_getElem?.1 hx;obtain⟨vv,⟨vcs,_,hv⟩,_⟩:=hf.get hi
  have hM:∀y∈x.2,∃mv,fR k w Z mv y.2.2:=fun y hy=>by
   obtain⟨j,hj⟩:=List.mem_iff_getElem?.1 hy;obtain⟨mv,q,_⟩:=hv.get hj;exact⟨mv,q⟩
  refine⟨?_,fun y hy=> ?_⟩
  ·cases k with
   |zero=>
    cases hl:x.2 with
    |nil=>simp
    |cons y l=>
     obtain⟨mv,q⟩:=hM y (by rw[hl];exact bg);exact q.elim
   |succ k=>
    have:=GH (k:=k) x.2;omega
  ·obtain⟨mv,q⟩:=hM y hy;have:=GG (k:=k) hy;exact Je q (by omega)
def Pl (a e:Nat)(x:Int×Int):Prop:=(a:Int)<=x.2/\x.2<=(e:Int)
theorem Pl.up {a a' e e':Nat}{x:Int×Int}(h:Pl a' e' x)(h1:a<=a')(h2:e'<=e):Pl a e x:=by
 unfold Pl at*;omega
theorem qp {b:am}{a e:Nat}{x:Int×Int}(h:fA b a e= .error x)(ha:a<=e):Pl a e x:=by
 obtain⟨c,p⟩:=x;have:=(wX 10 0 0 c p h).2;unfold Pl;simp only;omega
theorem D9 {b:am}{a e:Nat}{x:Int×Int}(h:fF b a e= .error x)(ha:a<=e):Pl a e x:=by
 unfold fF at h
 cases h1:fA b a e with
 |error y=>rw[h1]at h;obtain rfl:=Except.error.inj h;exact qp h1 ha
 |ok y=>
  obtain⟨t,fr⟩:=y;rw[h1]at h;obtain⟨_,_,h3,h4⟩:=fW h1;simp only at h;have N2:∀c:Int,Pl a e (c,(fr:Int)):=fun c=>by unfold Pl;simp only;omega
  have N3:∀c:Int,Pl a e (c,(a:Int)):=fun c=>by unfold Pl;simp only;omega
  split at h
  ·obtain rfl:=Except.error.inj h;exact N3 _
  ·split at h
   ·cases h2:fA b fr e with
    |error y=>rw[h2]at h;obtain rfl:=Except.error.inj h;exact(qp h2 h4).up (by omega) (ay _)
    |ok y=>rw[h2]at h;cases h
   ·split at h
    ·split at h
     ·cases h
     ·obtain rfl:=Except.error.inj h;exact N2 _
    ·split at h
     ·split at h
      ·cases h
      ·obtain rfl:=Except.error.inj h;exact N2 _
     ·split at h
      ·cases h2:fA b fr e with
       |error y=>rw[h2]at h;obtain rfl:=Except.error.inj h;exact(qp h2 h4).up (by omega) (ay _)
       |ok y=>
        obtain⟨n,bh⟩:=y;rw[h2]at h;obtain⟨_,_,h5,h6⟩:=fW h2;simp only at h
        split at h
        ·cases h
        ·obtain rfl:=Except.error.inj h;unfold Pl;simp only;omega
      ·obtain rfl:=Except.error.inj h;exact N3 _
theorem pz {b:am}{k e:Nat}{x:Int×Int}:∀(F:Nat) (l:List PV) (a:Nat),e7 b k e F l a= .error x->a<=e->Pl a e x
 |0,_,_,h,_=>by cases h
 |F+1,l,a,h,ha=>by
  rw[e7]at h
  split at h
  ·split at h
   ·cases h2:fA b a e with
    |error y=>rw[h2]at h;obtain rfl:=Except.error.inj h;exact qp h2 ha
    |ok y=>
     obtain⟨n,z⟩:=y;rw[h2]at h;obtain⟨_,_,h5,h6⟩:=fW h2;exact(pz F _ z h h6).up (by omega) (ay _)
   ·simp only at h;generalize(if dL k=5 then 4 else 8)=z at h
    split at h
    ·exact(pz F _ (a+z) h (by omega)).up (by omega) (ay _)
    ·obtain rfl:=Except.error.inj h;unfold Pl;simp only;omega
  ·cases h
theorem pA {S:dG}{b:am}{x:Int×Int}:∀(F:Nat) (d:MT) (m:PM) (a e deep:Nat),dQ S b F d m a e deep= .error x->a<=e->Pl a e x
 |0,_,_,_,_,_,h,_=>by cases h
 |F+1,d,m,a,e,deep,h,ha=>by
  rw[dQ]at h
  split at h
  ·cases hr:fF b a e with
   |error y=>rw[hr]at h;obtain rfl:=Except.error.inj h;exact D9 hr ha
   |ok r=>
    rw[hr]at h;obtain⟨_,q1,q2,q3,q4,_⟩:=mz hr;simp only at h;have go:∀m',dQ S b F d m' r.e e deep= .error x->Pl a e x:=fun m' h'=>(pA F d m' r.e e deep h' q4).up (by omega) (ay _)
    have N2:∀c:Int,Pl a e (c,(r.fr:Int)):=fun c=>by unfold Pl;simp only;omega
    split at h
    ·exact go _ h
    ·split at h
     ·split at h
      ·split at h
       ·obtain rfl:=Except.error.inj h;exact N2 _
       ·split at h
        ·rename_i h2
         obtain rfl:=Except.error.inj h;exact(pA F _ _ r.fr r.e (deep+1) h2 q3).up (by omega) q4
        ·exact go _ h
      ·split at h
       ·rename_i h2
        obtain rfl:=Except.error.inj h;unfold pJ at h2
        split at h2
        ·split at h2
         ·obtain rfl:=Except.error.inj h2;exact N2 _
         ·cases h2
        ·cases h2
       ·exact go _ h
     ·split at h
      ·split at h
       ·rename_i h2
        obtain rfl:=Except.error.inj h;unfold mH at h2;exact(pz _ _ r.fr h2 q3).up (by omega) q4
       ·exact go _ h
      ·exact go _ h
  ·cases h
theorem Ea {S:dG}{nm b:am}{x:Int×Int}(h:gN S nm b= .error x):0<=x.2/\x.2<=(b.size:Int):=by
 unfold gN at h
 split at h
 ·obtain rfl:=Except.error.inj h;simp only;omega
 ·have:=pA _ _ _ 0 b.size 1 h (aM _);unfold Pl at this;omega
section
open Go.Maps
def q9:Fx PM->PM
 | .error _=>PM.none
 | .ok m=>m
def sd:Fx PM->Int×Int
 | .error x=>x
 | .ok _=>(0,0)
theorem jp.one {ks:au}{K:(ap)->an->Prop}{w:an}{R:Fx PM}{e:Ending}{w':an}(h:jp ks K w R e w'):
  ∃v Z,e= .returned (.tuple #[.agg #[v,ae (q9 R).unk],aa (sd R).1,aa (sd R).2])/\nE 9 w' v (q9 R) Z/\(∀b,Z b->w.heap.size<=b/\b<w'.heap.size)/\dl ks w w'/\K Z w':=by
 cases R with
 |error x=>exact⟨_,fun _=>False,h.1,nE.none 8 w' _,fun _ q=>q.elim,h.2.1,h.2.2⟩
 |ok m=>
  obtain⟨v,Z,h1,h2,h3,h4,h5⟩:=h;exact⟨v,Z,h1,h2,h3,h4,h5⟩
theorem KJ {S:dG}{nm b:am}{w:an}{Z:ap}{v:Value}(hb:b.size<=4000000)(h:fR 9 w Z v (q9 (gN S nm b))):Me 9 (q9 (gN S nm b)):=by
 refine Je h ?_
 cases hd:gN S nm b with
 |error x=>show kU 9 PM.none<=_;decide
 |ok m=>
  have:=M7 S nm b 9 m hd;show kU 9 m<=_;omega
theorem KL {S:dG}{nm b:am}:0<=(sd (gN S nm b)).2/\(sd (gN S nm b)).2<=(b.size:Int):=by
 cases hd:gN S nm b with
 |error x=>exact Ea hd
 |ok m=>exact⟨cH _,Int.natCast_nonneg _⟩
theorem IQ {S:dG}{nm:am}{m:PM}:oF S nm m=(((kK S nm m).1.size:Int),(kK S nm m).2):=by
 unfold oF kK
 split
 ·rfl
 ·split<;>simp[ByteArray.size]
theorem Al {t:am}{k:Int}{p:Nat}(h:gi t= .error (k,p)):k≠0:=by
 unfold gi at h
 split at h
 ·cases h;decide
 ·split at h
  ·cases h;decide
  ·split at h
   ·cases h;decide
   ·cases h
structure nN (w:an)(sb kp mk:Nat)(bs:List dh)(R:ap)(W:an):Prop where
 bel:aj w W
 low:∀b,b<w.heap.size->R b
 lt:∀b,R b->b<W.heap.size
 sch:∃P,jq W sb kp mk bs P/\∀b,R b->¬P b
structure mf (R:ap)(W W':an):Prop where
 size:W.heap.size<=W'.heap.size
 block:∀b,R b->W'.heap[b]?=W.heap[b]?
section
variable {w W W':an} {sb kp mk:Nat} {bs:List dh} {R R':ap}
theorem mf.blk (h:mf R W W'){b:Nat}{cs:Array Value}{T:TypeId}(hb:de W b cs T)(hR:R b):de W' b cs T:=(h.block b hR).trans hb
theorem mf.trans {W2:an}(h:mf R W W')(h2:mf R W' W2):mf R W W2:=⟨aG h.size h2.size,fun b q=>(h2.block b q).trans (h.block b q)⟩
theorem mf.less (h:mf R W W')(hi:∀b,R' b->R b):mf R' W W':=⟨h.size,fun b q=>h.block b (hi b q)⟩
theorem nN.less (h:nN w sb kp mk bs R W)(hi:∀b,R' b->R b)(hl:∀b,b<w.heap.size->R' b):nN w sb kp mk bs R' W:=by
 obtain⟨P,hs,hP⟩:=h.sch;exact⟨h.bel,hl,fun b q=>h.lt b (hi b q),P,hs,fun b q=>hP b (hi b q)⟩
theorem mf.mrn (h:mf R W W'){k:Nat}{Z:ap}{v:Value}{m:PM}(hm:fR k W Z v m)(hZ:∀b,Z b->R b):fR k W' Z v m:=hm.keep fun b q _=>h.block b (hZ b q)
theorem nN.uok (h:nN w sb kp mk bs R W)(hu:UOK w):UOK W:=hu.keep (h.bel.block _ hu.lt1) (h.bel.block _ hu.lt2)
theorem nN.step (h:nN w sb kp mk bs R W){P P':ap}(hk:dl [mk,kp] W W')(hs:jq W sb kp mk bs P)(hP:∀b,R b->¬P b)(hs':jq W' sb kp mk bs P')(hP':∀b,R' b->¬P' b)(hi:∀b,R b->R' b)(hlt:∀b,R' b->b<W'.heap.size):
  nN w sb kp mk bs R' W'/\mf R W W':=by
 obtain⟨pm,pk,_,_⟩:=hs.lt;refine⟨⟨h.bel.trans (hk.to_below h.bel.size fun x hx=> ?_),fun b hb=>hi b (h.low b hb),hlt,P',hs',hP'⟩,hk.size,fun b hR=>hk.block b (h.lt b hR) fun hx=> ?_⟩
 ·refine Nat.le_of_not_lt fun hl=>hP x (h.low x hl) ?_
  simp only[aL,bG,or_false]at hx
  rcases hx with rfl|rfl<;>assumption
 ·refine hP b hR ?_;simp only[aL,bG,or_false]at hx
  rcases hx with rfl|rfl<;>assumption
theorem nN.on (h:nN w sb kp mk bs R W)(hb:Below W.heap.size W W'):nN w sb kp mk bs (fun x=>R x\/(W.heap.size<=x/\x<W'.heap.size)) W'/\mf R W W':=by
 obtain⟨P,hs,hP⟩:=h.sch;have hl:=hb.size;refine⟨⟨cY h.bel hb,fun b q=> .inl (h.low b q),fun b q=> ?_,_,(hs.less (P':=fun x=>P x/\x<W.heap.size) fun x q hl=>⟨q,hl⟩).keep (w':=W') fun b _ hl=>hb.block b hl,fun b q p=> ?_⟩,hl,fun b q=>hb.block b (h.lt b q)⟩
 ·rcases q with q|q
  ·have:=h.lt b q;omega
  ·exact q.2
 ·rcases q with q|q
  ·exact hP b q p.1
  ·omega
theorem nN.dec (h:nN w sb kp mk bs R W)(hsb:ix bs)(hu:UOK w)(nm b:am)(hb:b.size<=4000000)(way:Int)(hw:way=1\/way=2):
  Calls Tryz.prog 21 #[ag sb,aa way,ae nm,ae b] W fun e W'=>
   ∃v Z,e= .returned (.tuple #[.agg #[v,ae (q9 (gN (dt bs) nm b)).unk],aa (sd (gN (dt bs) nm b)).1,aa (sd (gN (dt bs) nm b)).2])/\fR 9 W' Z v (q9 (gN (dt bs) nm b))/\nN w sb kp mk bs (fun x=>R x\/Z x) W'/\mf R W W':=by
 obtain⟨P,hs,hP⟩:=h.sch;refine(wz q8 W sb kp mk bs P nm b way hs hsb (h.uok hu) hb hw (hP _ (h.low _ hu.lt1)) (hP _ (h.low _ hu.lt2))).mono ?_;intro e W' q;obtain⟨v,Z,h1,h2,h3,h4,h5⟩:=q.one;have hl:=h4.size
 obtain⟨a1,a2⟩:=h.step h4 hs hP h5 (R':=fun x=>R x\/Z x) (fun x q p=>by
  rcases q with q|q<;>rcases p with⟨p,p2⟩|⟨p,p2⟩
  ·exact hP x q p
  ·have:=h.lt x q;omega
  ·have:=h3 x q;omega
  ·exact p2 q) (fun x q=> .inl q) (fun x q=>by
  rcases q with q|q
  ·have:=h.lt x q;omega
  ·exact(h3 x q).2)
 exact⟨v,Z,h1,h2.toIn.rn,a1,a2⟩
theorem nN.aft (h:nN w sb kp mk bs R W){P:ap}(hs:jq W sb kp mk bs P)(hP:∀b,R b->¬P b)(hk:dl [mk,kp] W W')(hs':jq W' sb kp mk bs fun x=>(P x/\x<W.heap.size)\/W.heap.size<=x):nN w sb kp mk bs R W'/\mf R W W':=
 h.step hk hs hP hs' (fun x q p=>by
  have:=h.lt x q
  rcases p with p|p
  ·exact hP x q p.1
  ·omega) (fun _ q=>q) (fun x q=>aC (h.lt x q) hk.size)
theorem nN.enc (h:nN w sb kp mk bs R W)(hsb:ix bs)(hu:UOK w)(nm:am)(way:Int)(hw:way=1\/way=2){k:Nat}{Z:ap}{mv:Value}{m:PM}(hM:fR k W Z mv m)(hZ:∀b,Z b->R b)(hO:kT k m)(hwt:uq k m<=140737488355328):
  Calls Tryz.prog 24 #[ag sb,aa way,ae nm,.agg #[mv,ae m.unk]] W fun e W'=>e= .returned (.tuple #[ae (kK (dt bs) nm m).1,aa (kK (dt bs) nm m).2])/\nN w sb kp mk bs R W'/\mf R W W':=by
 obtain⟨P,hs,hP⟩:=h.sch;refine(wC q8 W sb kp mk bs P nm way Z k mv m hs hsb (h.uok hu) hw (hP _ (h.low _ hu.lt1)) (hP _ (h.low _ hu.lt2)) hM (fun b q=>hP b (hZ b q)) hO fun d _=>aG (xX 8 k d m hO) hwt).mono ?_;rintro e W' ⟨h1,h2,h3⟩;exact⟨h1,h.aft hs hP h2 h3⟩
theorem nN.siz (h:nN w sb kp mk bs R W)(hsb:ix bs)(hu:UOK w)(nm:am)(way:Int)(hw:way=1\/way=2){k:Nat}{Z:ap}{mv:Value}{m:PM}(hM:fR k W Z mv m)(hZ:∀b,Z b->R b)(hO:kT k m)(hwt:uq k m<=140737488355328):
  Calls Tryz.prog 25 #[ag sb,aa way,ae nm,.agg #[mv,ae m.unk]] W fun e W'=>e= .returned (.tuple #[aa (kK (dt bs) nm m).1.size,aa (kK (dt bs) nm m).2])/\nN w sb kp mk bs R W'/\mf R W W':=by
 obtain⟨P,hs,hP⟩:=h.sch;refine(Gq q8 W sb kp mk bs P nm way Z k mv m hs hsb (h.uok hu) hw (hP _ (h.low _ hu.lt1)) (hP _ (h.low _ hu.lt2)) hM (fun b q=>hP b (hZ b q)) hO fun d _=>aG (xX 8 k d m hO) hwt).mono ?_;rintro e W' ⟨h1,h2,h3⟩;rw[IQ]at h1;exact⟨h1,h.aft hs hP h2 h3⟩
theorem nN.new {w1:an}(hb:aj w W)(hl:w.heap.size<=w1.heap.size)(hl2:w1.heap.size<=W.heap.size)(hs:zF W sb kp mk bs w1.heap.size)(hsb:ix bs):nN w sb kp mk bs (fun b=>b<w1.heap.size) W:=
 ⟨hb,fun b q=>by omega,fun b q=>by omega,_,hs.toP hsb,fun b q p=>by omega⟩
end
end
section
open Go.Maps
attribute [local go_sem↓] Go.wp_at_zero Go.wp_at_succ
theorem IR (w:an)(text nm b:am)(mv:Value)(m:PM)(k:Nat)(hg:GOK w)(hbo:BOK w)(hu:UOK w)(ht:text.size<=140737488355328)(hb:b.size<=4000000)(hM:fR k w (fun b=>b<w.heap.size) mv m)(hO:kT k m)(hwt:uq k m<=140737488355328):
  Calls Tryz.prog 6 #[ae text,ae nm,ae b,.agg #[mv,ae m.unk]] w fun e w'=>e= .returned (.bool true)/\aj w w':=by
 obtain⟨ma,mc,rfl⟩:=hM.form;obtain⟨B0,K0⟩:=di w #[.slice ma m.fs.length mc,ae m.unk] 49;have HB:=CN (w.alloc (ak #[.slice ma m.fs.length mc,ae m.unk] 49)) (hg.keep (B0.block _ hg.lt)) (hbo.keep (B0.block _ hbo.lt)) (hu.keep (B0.block _ hu.lt1) (B0.block _ hu.lt2));go_enter Tryz.func6,Tryz.ntmps6
 go_wp2_with fail
 refine HB.mono ?_;rintro e w1 ⟨rfl,b1⟩;have N3:=cY B0 b1;have s1:w.heap.size<w1.heap.size:=by have:=b1.size;simp at this;omega
 have K1:=K0.below b1 (by simp);have HP:=c5 w1 text ht (hg.keep (N3.block _ hg.lt)) (hbo.keep (N3.block _ hbo.lt));clear HB;go_wp2_with fail
 refine HP.mono ?_;rintro e w2 ⟨hp,b2⟩;have N7:=cY N3 b2;have K2:=K1.below b2 s1;clear HP
 cases hr:gi text with
 |error x=>
  obtain⟨k0,p⟩:=x;rw[hr]at hp;have hk:=Al hr;obtain rfl:e=_:=hp;clear hr;go_wp2;go_ret;exact⟨rfl,N7⟩
 |ok bs=>
  rw[hr]at hp;obtain⟨sb,kp,mk,rfl,hS⟩:=hp;have N2:=tB hr;clear hr;have L2:=nN.new N7 (bw s1) b2.size hS N2;have N8:=fun W Z v h=> @KJ (dt bs) nm b W Z v hb h
  obtain⟨hp0,hp1⟩:= @KL (dt bs) nm b;have Oa:=fun R W (h:nN w sb kp mk bs R W)=>h.dec N2 hu nm b hb
  have Ob:=fun R W (h:nN w sb kp mk bs R W) (way:Int) hw=>h.enc N2 hu nm way hw (hM.keep fun b q _=>h.bel.block b q) (fun b q=>h.low b q) hO hwt
  have Oc:=fun R W (h:nN w sb kp mk bs R W) (way:Int) hw=>h.siz N2 hu nm way hw (hM.keep fun b q _=>h.bel.block b q) (fun b q=>h.low b q) hO hwt
  have HD:Hid _:=Oa;have HE:Hid _:=Ob;have HZ:Hid _:=Oc;clear Oa Ob Oc;generalize gN (dt bs) nm b=D at*;generalize(sd D).1=f at*;generalize(sd D).2=place at*;generalize q9 D=M at*;generalize(kK (dt bs) nm m).1=E at*;generalize(kK (dt bs) nm m).2=c at*;have hq0:¬place<0:=by omega
  have hq1:¬(b.size:Int)<place:=by omega
  have hEE:(E.toList==E.toList)=true:=by simp
  have Od:=HD.out _ _ L2 1 (.inl rfl);go_wp2_with fail
  refine Od.mono ?_;rintro e w3 ⟨v3,Z3,rfl,Oj,L3,S3⟩;clear Od;obtain⟨va,vc,rfl⟩:=Oj.form;have K3:=S3.blk K2 s1;obtain⟨B4,N4⟩:=di w3 #[.slice va M.fs.length vc,ae M.unk] 49;obtain⟨L4,S4⟩:=L3.on B4;have K4:=S4.blk K3 (.inl s1);have Ol:=S4.mrn Oj fun b q=> .inr q
  have Oe:=HD.out _ _ L4 2 (.inr rfl);go_wp2_with fail
  generalize w3.alloc (ak #[.slice va M.fs.length vc,ae M.unk] 49)=w4 at*;refine Oe.mono ?_;rintro e w5 ⟨v5,Z5,rfl,Ok,L5,S5⟩;clear Oe;obtain⟨ua,uc,rfl⟩:=Ok.form;have K5:=S5.blk K4 (.inl (.inl s1));have N5:=S5.blk N4 (.inr ⟨ay _,N4.lt⟩);have x5:=S5.mrn Ol fun b q=> .inl (.inr q)
  obtain⟨B6,N6⟩:=di w5 #[.slice ua M.fs.length uc,ae M.unk] 49;obtain⟨L6,S6⟩:=L5.on B6;have K6:=S6.blk K5 (.inl (.inl (.inl s1)));have M6:=S6.blk N5 (.inl (.inr ⟨ay _,N4.lt⟩));have x6:=S6.mrn x5 fun b q=> .inl (.inl (.inr q))
  have y6:=S6.mrn Ok fun b q=> .inr q
  have HS:=BD 9 _ _ _ _ _ _ x6 y6 (N8 _ _ _ x6);obtain⟨r1,r2⟩:=M6.rules;obtain⟨r3,r4⟩:=N6.rules;go_wp2_with fail
  generalize w5.alloc (ak #[.slice ua M.fs.length uc,ae M.unk] 49)=w6 at*;refine HS.mono ?_;rintro e w7 ⟨rfl,b7⟩;clear HS r1 r2 r3 r4;obtain⟨L7,S7⟩:=L6.on b7;have K7:=S7.blk K6 (.inl (.inl (.inl (.inl s1))));have Of:=HE.out _ _ L7 1 (.inl rfl);obtain⟨r1,r2⟩:=K7.rules;go_wp2_with fail
  refine Of.mono ?_;rintro e w8 ⟨rfl,L8,S8⟩;clear Of r1 r2;have K8:=S8.blk K7 (.inl (.inl (.inl (.inl (.inl s1)))));have Og:=HE.out _ _ L8 2 (.inr rfl);obtain⟨r1,r2⟩:=K8.rules;go_wp2_with fail
  refine Og.mono ?_;rintro e w9 ⟨rfl,L9,S9⟩;clear Og r1 r2;have K9:=S9.blk K8 (.inl (.inl (.inl (.inl (.inl s1)))));have Oh:=HZ.out _ _ L9 1 (.inl rfl);obtain⟨r1,r2⟩:=K9.rules;go_wp2_with fail
  refine Oh.mono ?_;rintro e wA ⟨rfl,LA,SA⟩;clear Oh r1 r2;have KA:=SA.blk K9 (.inl (.inl (.inl (.inl (.inl s1)))));have Oi:=HZ.out _ _ LA 2 (.inr rfl);obtain⟨r1,r2⟩:=KA.rules;go_wp2_with fail
  refine Oi.mono ?_;rintro e wB ⟨rfl,LB,_⟩;clear Oi r1 r2;have bel:=LB.bel;clear HD HE HZ N8;go_wp2;go_ret;exact⟨rfl,bel⟩
end
section
open Go.ChangeShapes Go.WideShapes Go.RowKit Go.Deep Go.Proofs.YtfebdimolnobaaaGreatDoor.Rows
theorem eo {s:am}{l:List UInt8}(h:s.data.toList=l):s=⟨l.toArray⟩:=by
 cases s
 simp only at h;subst h;rfl
theorem ou:Tryz.prog.cellsOf 9=1:=by kernel_rfl
theorem GI:Tryz.prog.cellsOf 3=1:=by kernel_rfl
theorem Am:Tryz.prog.cellsOf 49=2:=by kernel_rfl
theorem GJ:Tryz.prog.cellsOf 47=1:=by kernel_rfl
section
variable {H:Type}
theorem An (d:DataW H):1<=uptoBulk d:=by
 cases d with
 |lit l=>cases l<;>simp[uptoBulk]
 |_=>simp[uptoBulk]
theorem ux:∀l:List (DataW H),l.length<=uptoBulkAll l
 | []=>aM _
 |d::l=>by have:=ux l;have:=An d;rw[uptoBulkAll,bn];omega
theorem uy {d:DataW H}:∀{l:List (DataW H)},d∈l->uptoBulk d<=uptoBulkAll l
 |x::l,h=>by
  rw[uptoBulkAll]
  rcases aL.1 h with rfl|h
  ·omega
  ·have:=uy h;omega
theorem uz {s:am}:uptoBulk (.lit (.string s.data.toList):DataW H)=s.size+1:=by rw[uptoBulk,cC];rfl
theorem mF {enc:TypeId×Value->H}{w:an}{v:Value}{d:DataW H}{ps:List MemPlace}(hv:∃s,v=ae s)(h:DataW.Trod enc Tryz.prog w 0 (fun _=>true) true 9 v d ps):∃s,v=ae s/\uptoBulk d=s.size+1:=by
 obtain⟨fuel,hf⟩:=h;obtain⟨s,rfl⟩:=hv;obtain⟨s',e,hx,_⟩:=DataW.trod_string Tryz.underlying9 hf
 obtain rfl:s=s':=by
  have:Value.string s=ae s':=List.cons.inj e|>.1
  cases this
  rfl
 exact⟨s,rfl,by rw[show d=_ from congrArg Prod.fst hx,uz]⟩
end
end
end Go.Proofs.YtfebdimolnobaaaGreatDoor
