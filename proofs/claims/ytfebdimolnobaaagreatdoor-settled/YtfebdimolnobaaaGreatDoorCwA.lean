import Derived.Test.YtfebdimolnobaaaGreatDoorCnA
import Derived.Test.YtfebdimolnobaaaGreatDoorRows
import Derived.Deep.Strs
import Derived.ProofKit
import Derived.LaidMore
import Derived.OpenShut
import Derived.SizedLaws
import Derived.Carry
import Derived.Stop.Joined
import Derived.Stop.LaidErr
import Derived.Lib.LaidU8T
import Derived.Deep.DeepHandedRow
import Derived.Deep.DeepWitnessRowRef
set_option maxRecDepth 100000
set_option maxHeartbeats 8000000
set_option linter.all false
namespace Go.Proofs.YtfebdimolnobaaaGreatDoor
open Go.RowKit Go.Proofs.Tryz
def wK:Nat->PM->Nat
 |0,_=>0
 |k+1,m=>1+m.unk.size+(m.fs.map λf=>1+(f.2.map λv=>v.2.1.size+wK k v.2.2).sum).sum
def wV (k:Nat)(l:List PV):Nat:=(l.map λv=>v.2.1.size+wK k v.2.2).sum
def wF (k:Nat)(fs:List PF):Nat:=(fs.map λf=>1+wV k f.2).sum
def jL (k:Nat)(m:PM):wK (k+1) m=1+m.unk.size+wF k m.fs:=rfl
def pX (k:Nat)(f:PF)(fs:List PF):wF k (f::fs)=1+wV k f.2+wF k fs:=rfl
def ol (k:Nat)(v:PV)(l:List PV):wV k (v::l)=v.2.1.size+wK k v.2.2+wV k l:=rfl
def Ja (k:Nat)(a b:List PF):wF k (a++b)=wF k a+wF k b:=by unfold wF;rw[bM,List.sum_append]
def wM (k:Nat)(a b:List PV):wV k (a++b)=wV k a+wV k b:=by unfold wV;rw[bM,List.sum_append]
def L1:eS.size=0:=rfl
def pY (k:Nat):wK k PM.none<=1:=by cases k<;>simp[wK,PM.none,PM.fs,PM.unk,L1]
def OI {k:Nat}{m m':PM}(h:m.fs=m'.fs)(hu:m.unk.size<=m'.unk.size):wK k m<=wK k m':=by
 cases k with
 |zero=>exact ay _
 |succ k=>rw[jL,jL,h];omega
def Jb (k:Nat)(n:Int)(l:List PV):∀(fs:List PF) (done:Bool),wF k (gH n l done fs)+wV k (gm fs n)<=wF k fs+(if done then 0 else 1+wV k l)
 | [],done=>by
  cases done<;>simp[gH,gm,wF,wV]
 |x::r,done=>by
  rw[gH,Ja,Ja,gm,pX]
  by_cases hx:x.1=n
  ·have ih:=Jb k n l r true;have hn:decide (n<=x.1)=true:=QF;rw[hn,cA,dB hx,dB hx];simp only[if_true]at ih
   cases done<;>simp[wF]at ih⊢<;>omega
  ·rw[dA hx,dA hx]
   cases hn:decide (n<=x.1)
   ·have ih:=Jb k n l r done;rw[cC];simp only[cr,aL,if_false];rw[pX];have e:wF k []=0:=rfl;omega
   ·have ih:=Jb k n l r true;rw[cA];simp only[if_true]at ih;have e:wF k []=0:=rfl;have e1:=pX k x [];have e2:wF k [(n,l)]=1+wV k l:=rfl
    cases done
    ·simp only[cG,cq,if_true,aL,if_false];omega
    ·simp only[cF,cl,aL,if_false,if_true];omega
def wN (k:Nat)(m:PM)(n:Int)(l:List PV):wK (k+1) (m.put n l)+wV k (m.get n)<=wK (k+1) m+(1+wV k l):=by
 have h:=Jb k n l m.fs l.isEmpty;rw[jL,jL];have h2:(if l.isEmpty then 0 else 1+wV k l)<=1+wV k l:=by split<;>omega
 show 1+m.unk.size+wF k (gH n l l.isEmpty m.fs)+wV k (gm m.fs n)<=_;omega
def EU (k:Nat)(m:PM)(n:Int):wK k (m.put n [])<=wK k m:=by
 cases k with
 |zero=>exact ay _
 |succ k=>
  have h:=Jb k n [] m.fs true;rw[jL,jL];show 1+m.unk.size+wF k (gH n [] true m.fs)<=_;simp only[if_true]at h;omega
def DO (k:Nat)(t:am)(v:PV):∀(l:List PV) (done:Bool),wV k (fU t v done l)<=wV k l+(if done then 0 else v.2.1.size+wK k v.2.2)
 | [],done=>by cases done<;>simp[fU,wV]
 |x::r,done=>by
  rw[fU,wM,wM,ol];generalize(jO t (fo v) (fo x)||gW (fo v) (fo x))=c;have e:wV k []=0:=rfl;have e1:=ol k v [];have e2:=ol k x [];have h0:=DO k t v r done;have h1:=DO k t v r true;simp only[if_true]at h1;have hB:wV k (if gW (fo v) (fo x)then []else [x])<=x.2.1.size+wK k x.2.2:=by split<;>omega
  cases c
  ·simp only[cr,cC,aL,if_false];omega
  ·rw[cA]
   cases done
   ·simp only[cG,cq,if_true,aL,if_false];omega
   ·simp only[cF,cl,aL,if_false,if_true];omega
def Jc (k:Nat)(f:eP):∀(l:List eP) (m:PM),wK k (ik f l m)<=wK k m/\(ik f l m).get f.num=m.get f.num
 | [],m=>⟨ay _,rfl⟩
 |o::l,m=>by
  rw[ik]
  split
  ·rename_i hc
   obtain⟨h1,h2⟩:=Jc k f l (m.put o.num []);refine⟨aH h1 (EU k m o.num),h2.trans (PM.get_put_ne _ _ _ _ ?_)⟩;simp only[aJ,dD]at hc;exact λe=>hc.2 e.symm
  ·exact Jc k f l m
def OJ (k:Nat)(m:PM):wK k (fO m)<=wK k m+4:=by
 have h1:∀(m:PM) (n:Int),wK k (ft m n)<=wK k m+2:=λm n=>by
  unfold ft
  split
  ·cases k with
   |zero=>simp[wK]
   |succ k=>
    have h:=wN k m n [PV.none];have h2:=pY k;have h3:wV k [PV.none]=wK k PM.none:=by simp[wV,PV.none,L1]
    omega
  ·omega
 have h2:wK k (fO m)<=wK k (ft (ft m 1) 2):=OI rfl (by show eS.size<=_;rw[L1];omega);have h3:=h1 (ft m 1) 2;have h4:=h1 m 1;omega
def ND {k:Nat}{f:eP}{m:PM}(h:¬(f.isRep||f.isMap)=true):(eH f m).2.1.size+wK k (eH f m).2.2<=wV k (m.get f.num)+1:=by
 unfold eH;rw[dA h]
 cases m.get f.num with
 |nil=>have:=pY k;simp[PV.none,L1];omega
 |cons v l=>simp[ol];omega
def Jd (S:d8)(d:MT)(f:eP)(m:PM)(v:PV)(k:Nat)(c:Nat)(hv:v.2.1.size+wK k v.2.2<=(eH f m).2.1.size+wK k (eH f m).2.2+c):wK (k+1) (gB S d f m v)<=wK (k+1) m+6+c:=by
 have hN:=pY k;have hS:(f.isRep||f.isMap)=true->(eH f m).2.1.size+wK k (eH f m).2.2<=1:=λq=>by unfold eH;rw[dB q];show eS.size+wK k PM.none<=1;rw[L1];omega
 unfold gB
 split
 ·rename_i hm
  have h1:=wN k m f.num (jn f.key (m.get f.num) (v.1,v.2.1,fO v.2.2));have h2:=DO k f.key (v.1,v.2.1,fO v.2.2) (m.get f.num) false;have h3:=OJ k v.2.2;have h4:=hS (by rw[hm,cA]);unfold jn at*;simp only[aL,if_false]at h2;omega
 ·rename_i hm
  split
  ·rename_i hr
   have h1:=wN k m f.num (m.get f.num++ [v]);have h2:=wM k (m.get f.num) [v];have h3:wV k [v]=v.2.1.size+wK k v.2.2:=by simp[wV]
   have h4:=hS (by rw[hr,cz]);omega
  ·rename_i hr
   split
   ·have:=EU (k+1) m f.num;omega
   ·obtain⟨h1,h2⟩:=Jc (k+1) f d.fs m;have h3:=wN k (ik f d.fs m) f.num [v];have h4:wV k [v]=v.2.1.size+wK k v.2.2:=by simp[wV]
    have h5:=ND (k:=k) (f:=f) (m:=m) (by simp[hm,hr]);rw[h2]at h3;omega
def Je (b:am)(kd e k:Nat):∀(F:Nat) (l:List PV) (a:Nat) (l':List PV),fy b kd e F l a= .ok l'->wV k l'<=wV k l+(e-a)
 |0,l,a,l',h=>by
  cases h
  omega
 |F+1,l,a,l',h=>by
  rw[fy]at h;have hN:=pY k
  split at h
  ·rename_i ha
   split at h
   ·cases hv:gy b a e with
    |error x=>rw[hv]at h;cases h
    |ok nz=>
     obtain⟨n,z⟩:=nz;rw[hv]at h;obtain⟨_,_,h1,h2⟩:=gM hv;have ih:=Je b kd e k F _ z l' h;rw[wM]at ih;have h3:wV k [(fN kd n,eS,PM.none)]=wK k PM.none:=by simp[wV,L1]
     omega
   ·have h4:4<=(if ei kd=5 then 4 else 8):=by split<;>omega
    simp only at h;generalize(if ei kd=5 then 4 else 8)=z at h h4
    split at h
    ·have ih:=Je b kd e k F _ _ l' h;rw[wM]at ih;have h3:wV k [(fN kd (uU (b.extract a (a+z))),eS,PM.none)]=wK k PM.none:=by simp[wV,L1]
     omega
    ·cases h
  ·cases h
   omega
def wO (S:d8)(b:am):∀(F k:Nat) (d:MT) (m:PM) (a e deep:Nat) (m':PM),ew S b F d m a e deep= .ok m'->wK k m'<=wK k m+8*(e-a)
 |0,k,d,m,a,e,deep,m',h=>by
  cases h
  omega
 |F+1,0,d,m,a,e,deep,m',h=>by simp[wK]
 |F+1,k+1,d,m,a,e,deep,m',h=>by
  rw[ew]at h
  split at h
  ·cases hr:fw b a e with
   |error x=>rw[hr]at h;cases h
   |ok r=>
    rw[hr]at h;obtain⟨r1,r2,r3,r4,r5,_⟩:=iC hr
    have hkeep:wK (k+1) (m.keep (b.extract r.a r.e))<=wK (k+1) m+(r.e-a):=by
     rw[jL,jL];show 1+(m.unk++b.extract r.a r.e).size+wF k m.fs<=_;rw[ByteArray.size_append,aS];omega
    simp only at h
    split at h
    ·have ih:=wO S b F (k+1) d _ _ e deep m' h;omega
    ·rename_i f hf
     split at h
     ·split at h
      ·rename_i sub hsub
       split at h
       ·cases h
       ·cases hs:ew S b F sub (eH f m).2.2 r.fr r.e (deep+1)with
        |error x=>rw[hs]at h;cases h
        |ok sm=>
         rw[hs]at h;have i1:=wO S b F k sub _ _ _ _ sm hs;have i2:=wO S b F (k+1) d _ _ e deep m' h;have i3:=Jd S d f m ((eH f m).1,(eH f m).2.1,sm) k (8*(r.e-r.fr)) (by show(eH f m).2.1.size+wK k sm<=_;omega);omega
      ·cases hv:mR S b f r with
       |error x=>rw[hv]at h;cases h
       |ok v=>
        rw[hv]at h;have i2:=wO S b F (k+1) d _ _ e deep m' h
        have hn:v.2.2=PM.none/\v.2.1.size<=r.e-r.fr:=by
         unfold mR at hv
         split at hv
         ·split at hv
          ·cases hv
          ·cases hv;exact⟨rfl,by show(b.extract r.fr r.e).size<=_;rw[aS];omega⟩
         ·cases hv;exact⟨rfl,by show eS.size<=_;rw[L1];omega⟩
        have i3:=Jd S d f m v k (1+(r.e-r.fr)) (by rw[hn.1];have:=pY k;omega);omega
     ·split at h
      ·cases hp:lA S b f (m.get f.num) r.fr r.e with
       |error x=>rw[hp]at h;cases h
       |ok l=>
        rw[hp]at h;have i1:=Je b _ _ k _ _ _ l hp;have i2:=wO S b F (k+1) d _ _ e deep m' h;have i3:=wN k m f.num l;omega
      ·have ih:=wO S b F (k+1) d _ _ e deep m' h;omega
  ·cases h
   omega
def PA (S:d8)(nm b:am)(k:Nat)(m:PM)(h:il S nm b= .ok m):wK k m<=8*b.size+1:=by
 unfold il at h
 split at h
 ·cases h
 ·have h1:=wO S b _ k _ _ _ _ _ m h;have h2:=pY k;omega
def Ma:∀(k:Nat) (m:PM),wz k m+30<=30*wK (k+1) m
 |0,m=>by rw[jL];show 0+30<=_;omega
 |k+1,m=>by
  have hv:∀l:List PV,(l.map λv=>30+v.2.1.size+wz k v.2.2).sum<=30*wV (k+1) l:=λl=>by
   induction l with
   |nil=>exact aM _
   |cons v l ih=>
    have:=Ma k v.2.2;rw[ch,List.sum_cons,ol];omega
  have hf:∀l:List PF,(l.map λx=>30+(x.2.map λv=>30+v.2.1.size+wz k v.2.2).sum).sum<=30*wF (k+1) l:=λl=>by
   induction l with
   |nil=>exact aM _
   |cons x l ih=>
    have:=hv x.2;rw[ch,List.sum_cons,pX];omega
  have:=hf m.fs;rw[wz,jL];omega
def Jf {k:Nat}{x:PF}:∀{l:List PF},x∈l->1+wV k x.2<=wF k l
 |y::l,h=>by
  rw[pX]
  rcases aN.1 h with rfl|h
  ·omega
  ·have:=Jf (k:=k) h;omega
def Jg {k:Nat}{v:PV}:∀{l:List PV},v∈l->v.2.1.size+wK k v.2.2<=wV k l
 |y::l,h=>by
  rw[ol]
  rcases aN.1 h with rfl|h
  ·omega
  ·have:=Jg (k:=k) h;omega
def Jh (k:Nat):∀l:List PF,l.length<=wF k l
 | []=>aM _
 |x::l=>by have:=Jh k l;rw[pX,bE];omega
def Ji (k:Nat):∀l:List PV,l.length<=wV (k+1) l
 | []=>aM _
 |v::l=>by have:=Ji k l;rw[ol,bE,jL];omega
def Mb:∀(k:Nat) (m:PM),qw k m->wK (k+1) m<=1099511627776->nR k m
 |0,_,h,_=>h
 |k+1,m,h,hw=>by
  rw[jL]at hw;have h1:=Jh (k+1) m.fs;refine⟨QD,QD,λx hx=> ?_⟩;have h2:=Jf (k:=k+1) hx;have h3:=Ji k x.2;refine⟨QD,λv hv=> ?_⟩;have h4:=Jg (k:=k+1) hv;obtain⟨a1,a2,a3⟩:=h x hx v hv;exact⟨a1,a2,QD,Mb k v.2.2 a3 QD⟩
def LH {t:am}(h3:dH t=3)(hk:ii 3 t=true):eK (mS t)=true\/mS t=13:=by
 have hm:t.toList∈mz:=by have:=lS h3;simpa [jh]using this
 have:(eK (mS t)||decide (mS t=13))=true:=by
  unfold mS;unfold ii at hk;generalize t.toList=l at hm hk
  revert l;decide+kernel
 simp_all
def PB {bs:List dO}(h:jt bs):OG (dV bs)/\∀d∈(dV bs).ms,(d.fs.map (·.num)).Nodup:=by
 have QP:∀d∈(dV bs).ms,∃b,b∈bs/\b.enum=false/\d=nr b:=λd hd=>by
  obtain⟨b,hb,rfl⟩:=aQ.1 hd;have:=bN.1 hb
  grind
 refine⟨⟨(ME h).name,λd hd n f hf=> ?_,λd hd f hf=> ?_,λd hd f hf hM=> ?_⟩,λd hd=> ?_⟩
 ·obtain⟨b,hb,he,rfl⟩:=QP d hd;obtain⟨e,hm⟩:=eT hf;obtain⟨p,hp,fr,hr,rfl⟩:=sD.1 hm;have:=(h.ok.chk b hb he).flds p hp fr hr;have h1:=this.lo;have h2:=this.hi;have e:((gA fr.num.1:Nat):Int)=n:=e;omega
 ·obtain⟨b,hb,he,rfl⟩:=QP d hd;obtain⟨p,hp,fr,hr,rfl⟩:=sD.1 hf;exact sB h (zN bs) (LO h hb he hp hr)
 ·obtain⟨b,hb,he,rfl⟩:=QP d hd;obtain⟨p,hp,fr,hr,rfl⟩:=sD.1 hf;obtain⟨_,f2,_⟩:=sC (h.ok.shape b hb p hp) hr;rw[f2]at hM;obtain⟨k3,kg⟩:=vG h hb he hp hr (dC hM);have e:(dV bs).base (jm fr.key)=mS (jm fr.key):=qL h k3;refine⟨rD h k3,?_,?_⟩
  ·show eK ((dV bs).base (jm fr.key))=true\/(dV bs).base (jm fr.key)=13;rw[e];exact LH k3 kg
  ·show jD ((dV bs).base (jm fr.key))=eM iJ (jm fr.key);rw[e];exact Bv k3
 ·obtain⟨b,hb,he,rfl⟩:=QP d hd
  have e:(nr b).fs.map (·.num)=(b.parts.flatMap (λp=>p.fields.map (λf=>gA f.num.1))).map (λn:Nat=>(n:Int)):=by
   show(b.parts.flatMap λp=>p.fields.map (iL p.oneof)).map (·.num)=_;rw[List.map_flatMap,List.map_flatMap]
   congr 1
   funext p;rw[bC,bC];rfl
  rw[e];exact List.Pairwise.map _ (λa b QQ e=>QQ QD) (h.ok.chk b hb he).nums
def LI {bs:List dO}(h:jt bs){nm b:am}{m:PM}(hb:b.size<=1048576)(hd:il (dV bs) nm b= .ok m):
  nR 9 m/\wz 9 m<=251658300/\(kh (dV bs) nm m).2=0/\(kh (dV bs) nm m).1.size<=251658300/\il (dV bs) nm (kh (dV bs) nm m).1= .ok m:=by
 obtain⟨hS,hN⟩:=PB h;obtain⟨d,h1,h2,h3,h4⟩:=I9 hS hN hd;have hw:wK (9+1) m<=8*b.size+1:=PA (dV bs) nm b 10 m hd;have ht:=Ma 9 m;have hO:=Mb 9 m h4 QD;have hl:=qO (S:=dV bs) 8 9 d m hO
 have he:kh (dV bs) nm m=(bl (d9 (dV bs) 8 d m),0):=by
  unfold kh;rw[h1];simp only;rw[dB h3,dB h3];rfl
 rw[he];refine⟨hO,QD,rfl,?_,?_⟩
 ·show(bl (d9 (dV bs) 8 d m)).size<=_;rw[gL];omega
 ·rw[Ns,h1];exact EQ hS 8 1 d m 9 rfl (.inl h2) h3 hO QD
section
open Go.Maps
attribute [local go_sem↓] Go.wp_at_zero Go.wp_at_succ
def Gd (w:an)(text nm b:am)(hg:GOK w)(hbo:BOK w)(hu:UOK w)(ht:text.size<=140737488355328)(hb:b.size<=1048576):
  Calls prog 8 #[ae text,ae nm,ae b] w λe w'=>e= .returned (.bool true)/\aj w w':=by
 have HB:=Lm w hg hbo hu;go_enter func8,ntmps8;go_wp2_with fail;refine HB.mono ?_;rintro e w1 ⟨rfl,b1⟩;have HP:=c5 w1 text ht (hg.keep (b1.block _ hg.lt)) (hbo.keep (b1.block _ hbo.lt));clear HB;go_wp2_with fail;refine HP.mono ?_;rintro e w2 ⟨hp,b2⟩;have QU:=dG b1 b2;clear HP
 cases hr:iw text with
 |error x=>
  obtain⟨k0,p⟩:=x;rw[hr]at hp;have hk:=IU hr;obtain rfl:e=_:=hp;clear hr;go_wp2;go_ret;exact⟨by simp[hk],QU⟩
 |ok bs=>
  rw[hr]at hp;obtain⟨sb,kp,mk,rfl,hS⟩:=hp;have QR:=Bu hr;clear hr;have L2:=rN.new QU b1.size b2.size hS QR;have QV:=λR W (h:rN w sb kp mk bs R W) s hs=>h.dec QR hu nm s hs
  have HD:Hid _:=QV;clear QV;have QP:=HD.out _ _ L2 b QD 1 (.inl rfl)
  cases hD:il (dV bs) nm b with
  |error x=>
   obtain⟨c,p⟩:=x;have hc:=Nr hD;have e0:PM.none.unk=⟨#[]⟩:=rfl;rw[hD]at QP;simp only[Al,Ak]at QP;rw[e0]at QP;go_wp2_with fail;refine QP.mono ?_;rintro e w3 ⟨v3,Z3,rfl,QQ,L3,S3⟩;clear QP;obtain⟨ua,uc,hv⟩:=QQ.form;obtain rfl:v3= .slice ua 0 uc:=hv;obtain⟨B4,N4⟩:=dR w3 #[.slice ua 0 uc,ae ⟨#[]⟩] 49;obtain⟨L4,S4⟩:=L3.on B4;have y4:=S4.mrn QQ λb q=> .inr q
   have HS:Calls prog 27 #[.agg #[.slice ua 0 uc,ae ⟨#[]⟩],.agg #[ah,ae ⟨#[]⟩]] _ _:=DI 9 _ _ (λ_=>False) _ (ah) PM.none y4 ⟨[],⟨none,0,rfl,ay _,λh=>absurd h QG⟩,rfl⟩ ⟨QG,λx hx=>by cases hx⟩;obtain⟨k1,k2⟩:=N4.rules;go_wp2_with fail;refine HS.mono ?_;rintro e w5 ⟨rfl,b5⟩;have bel:=dG L4.bel b5;clear HS k1 k2;go_wp2;go_ret;exact⟨rfl,bel⟩
  |ok m=>
   obtain⟨hO,hwt,Q0,Q5,Q1⟩:=LI QR hb hD;have Q3:=hO.ln;rw[hD]at QP;simp only[Al,Ak]at QP;have QT:=λR W (h:rN w sb kp mk bs R W) (way:Int) hw Z mv (hM:iy 9 W Z mv m) hZ=>h.enc QR hu nm way hw hM hZ hO QD
   rw[Q0]at QT;have QS:=λR W (h:rN w sb kp mk bs R W)=>HD.out R W h (kh (dV bs) nm m).1 QD
   rw[Q1]at QS;simp only[Al,Ak]at QS;have HE:Hid _:=QT;have HF:Hid _:=QS;clear QT QS HD Q1 Q5 Q0 hD hO;generalize(kh (dV bs) nm m).1=E at*;have hEE:(E.toList==E.toList)=true:=QE;go_wp2_with fail;refine QP.mono ?_;rintro e w3 ⟨v3,Z3,rfl,QQ,L3,S3⟩;clear QP;obtain⟨va,vc,rfl⟩:=QQ.form;obtain⟨B4,N4⟩:=dR w3 #[.slice va m.fs.length vc,ae m.unk] 49;obtain⟨L4,S4⟩:=L3.on B4;have QW:=S4.mrn QQ λb q=> .inr q
   have QX:=HE.out _ _ L4 2 (.inr rfl) _ _ QW λb q=> .inl (.inr q)
   obtain⟨k1,k2⟩:=N4.rules;go_wp2_with fail;generalize w3.alloc (ak #[.slice va m.fs.length vc,ae m.unk] 49)=w4 at*;refine QX.mono ?_;rintro e w5 ⟨rfl,L5,S5⟩;clear QX k1 k2;have N5:=S5.blk N4 (.inr ⟨ay _,N4.lt⟩);have Q4:=S5.mrn QW λb q=> .inl (.inr q)
   have QY:=HF.out _ _ L5 2 (.inr rfl);go_wp2_with fail;refine QY.mono ?_;rintro e w6 ⟨v6,Z6,rfl,Q2,L6,S6⟩;clear QY;obtain⟨ua,uc,rfl⟩:=Q2.form;have N6:=S6.blk N5 (.inr ⟨ay _,N4.lt⟩);have x6:=S6.mrn Q4 λb q=> .inl (.inr q)
   obtain⟨B7,N7⟩:=dR w6 #[.slice ua m.fs.length uc,ae m.unk] 49;obtain⟨L7,S7⟩:=L6.on B7;have M7:=S7.blk N6 (.inl (.inr ⟨ay _,N4.lt⟩));have x7:=S7.mrn x6 λb q=> .inl (.inl (.inr q))
   have y7:=S7.mrn Q2 λb q=> .inr q
   have HS:=DI 9 _ _ _ _ _ _ y7 x7 Q3;obtain⟨k1,k2⟩:=M7.rules;obtain⟨k3,k4⟩:=N7.rules;go_wp2_with fail;generalize w6.alloc (ak #[.slice ua m.fs.length uc,ae m.unk] 49)=w7 at*;refine HS.mono ?_;rintro e w8 ⟨rfl,b8⟩;clear HS k1 k2 k3 k4;obtain⟨L8,S8⟩:=L7.on b8;have N8:=S8.blk N7 (.inr ⟨ay _,N7.lt⟩);have y8:=S8.mrn y7 λb q=> .inl (.inr q)
   have QZ:=HE.out _ _ L8 1 (.inl rfl) _ _ y8 λb q=> .inl (.inl (.inr q))
   obtain⟨k1,k2⟩:=N8.rules;go_wp2_with fail;refine QZ.mono ?_;rintro e w9 ⟨rfl,L9,_⟩;have bel:=L9.bel;clear QZ k1 k2 HE HF;go_wp2;go_ret;exact⟨rfl,bel⟩
end
section
open Go.ChangeShapes Go.WideShapes Go.RowKit Go.Deep Go.Proofs.YtfebdimolnobaaaGreatDoor.Rows
def iT {s:am}{l:List UInt8}(h:s.data.toList=l):s=⟨l.toArray⟩:=by
 cases s
 simp only at h;subst h;rfl
def EV:prog.cellsOf 9=1:=QI
section
variable {H:Type}
def Jj {s:am}:uptoBulk (.lit (.string s.data.toList):DataW H)=s.size+1:=by rw[uptoBulk,cT];rfl
def AD {enc:TypeId×Value->H}{w:an}{v:Value}{d:DataW H}{ps:List MemPlace}(hv:∃s,v=ae s)(h:DataW.Trod enc prog w 0 (λ_=>true) true 9 v d ps):∃s,v=ae s/\uptoBulk d=s.size+1:=by
 obtain⟨fuel,hf⟩:=h;obtain⟨s,rfl⟩:=hv;obtain⟨s',e,hx,_⟩:=DataW.trod_string underlying9 hf
 obtain rfl:s=s':=by
  have:Value.string s=ae s':=List.cons.inj e|>.1
  cases this
  rfl
 exact⟨s,rfl,by rw[show d=_ from dF Prod.fst hx,Jj]⟩
end
end
section
open Go.ChangeShapes Go.WideShapes Go.ChangeAt Go.RowKit
def own:ownKnob prog.godebug=none:=QI
def Jk:prog.globalNamed "strconv.ErrRange" =some 5:=QI
def LJ:(prog.globals[5]?).map (·.type)=some 354:=QI
def Jl:prog.globalNamed "twinwire/model.baseWords" =some 0:=QI
def LK:(prog.globals[0]?).map (·.type)=some 427:=QI
def NE:prog.cellsOf 493=1:=QI
def NF:prog.cellsOf 427=15:=QI
def OL: "*" ++ "errors.errorString" = "*errors.errorString" :=QG
def PC (u:TypeId)(h:prog.typeName? 3 u=some "*errors.errorString"):u=491:=
 typeName_ptr_named (nm:= "errors.errorString") (by rw[OL];kernel_rfl) QI QG u (by rw[OL];exact h)
def DP:Rows.laid_unicode_utf8_first=Lib.firstData:=QI
def CD:(Rows.laid_unicode_utf8_acceptRanges:DataW Unit)=Lib.acceptData:=QI
def fI {H:Type}{enc:TypeId×Value->H}{P:Program}{w:an}{base:Nat}{sp:Nat->Bool}{held:Bool}{fuel:Nat}{t:TypeId}{c:Value}{y:DataW H×List MemPlace}
  (ht:P.underlying t=some .string) (h:DataW.trod enc P w base sp held fuel t [c]=some y):∃s,c=ae s/\y=(.lit (.string s.data.toList),[]):=by
 obtain⟨s,h1,h2,_⟩:=DataW.trod_string ht h;exact⟨s,List.cons.inj h1|>.1,h2⟩
def Jm {W:an}(h:Lib.VarReads prog W "twinwire/model.baseWords" Rows.laid_twinwire_model_baseWords):BOK W:=by
 obtain⟨g,t,cs,fuel,p,hg,ht,QP,hd⟩:=h;obtain rfl:=Option.some.inj (Jl.symm.trans hg);obtain rfl:=Option.some.inj (LK.symm.trans ht)
 have hb:cs=(CJ.map Value.string).toArray:=by
  obtain⟨l⟩:=cs
  cases fuel with
  |zero=>simp[DataW.trod]at hd
  |succ fuel=>
   simp only[DataW.trod,underlying427,NF,EV]at hd
   split at hd
   ·rename_i hl
    obtain⟨c0,c1,c2,c3,c4,c5,c6,c7,c8,c9,c10,QQ,QR,NM,NL,rfl⟩:∃c0 c1 c2 c3 c4 c5 c6 c7 c8 c9 c10 QQ QR NM NL,l= [c0,c1,c2,c3,c4,c5,c6,c7,c8,c9,c10,QQ,QR,NM,NL]:=by
     match l,hl with
     | [a0,a1,a2,a3,a4,a5,a6,a7,a8,a9,a10,a11,a12,a13,a14],_=>exact⟨a0,a1,a2,a3,a4,a5,a6,a7,a8,a9,a10,a11,a12,a13,a14,rfl⟩
    have e:List.range 15= [0,1,2,3,4,5,6,7,8,9,10,11,12,13,14]:=rfl;rw[e]at hd;simp only[aX,List.mapM_cons,List.mapM_nil,Option.bind_eq_bind,Option.bind_eq_some_iff,Option.pure_def,Option.some.injEq]at hd;obtain⟨xs,⟨y0,h0,_,⟨y1,h1,_,⟨y2,h2,_,⟨y3,h3,_,⟨y4,h4,_,⟨y5,h5,_,⟨y6,h6,_,⟨y7,h7,_,⟨y8,h8,_,⟨y9,h9,_,⟨y10,QS,_,⟨y11,QT,_,⟨y12,QU,_,⟨y13,QV,_,⟨y14,QW,_,rfl,rfl⟩,rfl⟩,rfl⟩,rfl⟩,rfl⟩,rfl⟩,rfl⟩,rfl⟩,rfl⟩,rfl⟩,rfl⟩,rfl⟩,rfl⟩,rfl⟩,rfl⟩,hx⟩:=hd;obtain⟨n0,rfl,rfl⟩:=fI underlying9 h0;obtain⟨n1,rfl,rfl⟩:=fI underlying9 h1;obtain⟨n2,rfl,rfl⟩:=fI underlying9 h2;obtain⟨n3,rfl,rfl⟩:=fI underlying9 h3;obtain⟨n4,rfl,rfl⟩:=fI underlying9 h4;obtain⟨n5,rfl,rfl⟩:=fI underlying9 h5;obtain⟨n6,rfl,rfl⟩:=fI underlying9 h6;obtain⟨n7,rfl,rfl⟩:=fI underlying9 h7;obtain⟨n8,rfl,rfl⟩:=fI underlying9 h8;obtain⟨n9,rfl,rfl⟩:=fI underlying9 h9;obtain⟨n10,rfl,rfl⟩:=fI underlying9 QS;obtain⟨n11,rfl,rfl⟩:=fI underlying9 QT;obtain⟨n12,rfl,rfl⟩:=fI underlying9 QU;obtain⟨n13,rfl,rfl⟩:=fI underlying9 QV;obtain⟨n14,rfl,rfl⟩:=fI underlying9 QW;simp[Rows.laid_twinwire_model_baseWords]at hx;obtain⟨⟨x0,x1,x2,x3,x4,x5,x6,x7,x8,x9,x10,x11,x12,QX,x14⟩,_⟩:=hx;rw[iT x0,iT x1,iT x2,iT x3,iT x4,iT x5,iT x6,iT x7,iT x8,iT x9,iT x10,iT x11,iT x12,iT QX,iT x14];rfl
   ·cases hd
 intro i v hi;rw[World.var?_cell Jl (hb▸QP) i];simpa using hi
def CE {W:an}(h:laidMetH prog Rows.settledUptoRow.laid W):GOK W/\BOK W/\UOK W:=by
 rw[MakeChecks.laidMetH_plain _ _ _ QI]at h;have hr:∀n d,(n,d)∈Rows.settledUptoRow.laid->Lib.VarReads prog W n d:=λn d hm=>Lib.laidMet.reads h hm
 have h4:laidMet prog [("strconv.ErrRange",Rows.laid_strconv_ErrRange), ("strconv.ErrSyntax",Rows.laid_strconv_ErrSyntax), ("twinwire/model.baseWords",Rows.laid_twinwire_model_baseWords), ("unicode/utf8.first",Rows.laid_unicode_utf8_first)] W:=h.tail.tail.tail.tail;obtain⟨a,s,hv,_⟩:=laid_sentinel h4 Jk LJ underlying354 PC underlying491 underlying493 rfl rfl underlying9 NE EV;refine⟨⟨_,by simpa using World.var?_cell Jk hv 0,.inr ⟨_,_,rfl⟩⟩,Jm (hr _ _ (by simp[Rows.settledUptoRow])),?_⟩;have r1:=hr "unicode/utf8.first" _ (.tail _ (.tail _ (.tail _ (.tail _ (.tail _ (.tail _ (.tail _ (.head _))))))));have r2:=hr "unicode/utf8.acceptRanges" _ (.tail _ (.tail _ (.tail _ (.head _))));rw[DP]at r1;rw[CD]at r2;exact utf8Tabs_of_readsT (U8Types.of196 Tryz.laysVs) ⟨QI,QI,QI,QI,QI,QI,QI⟩ r1 r2
end
end Go.Proofs.YtfebdimolnobaaaGreatDoor
