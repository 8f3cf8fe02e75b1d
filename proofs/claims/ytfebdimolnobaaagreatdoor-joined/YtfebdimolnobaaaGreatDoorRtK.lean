import Derived.Test.YtfebdimolnobaaaGreatDoorCnA
set_option maxRecDepth 100000
set_option maxHeartbeats 8000000
set_option linter.all false
namespace Go.Proofs.YtfebdimolnobaaaGreatDoor
open Go.RowKit Go.Proofs.Tryz
def QC {S:d8}{R:MT->PM->Bool}{f:eT}(k2:eO (S.base f.key)=true\/S.base f.key=13){v x y:PV}(ev:v.2.2= .mk [(1,[x]),(2,[y])] eS)(hx:er S R (mT f) x=true)(h0:0<=x.1)(h1:x.1<18446744073709551616):
  tw (eM iL f.key) v=jF f.key (fE v)/\0<=(fE v).1/\(fE v).1<18446744073709551616/\(gG f.key kE=true->(fE v).1=0)/\(gG f.key kE=false->(fE v).2.1=eS):=by
 have Uv:fE v=x:=by unfold fE;rw[ev];rfl
 have UE:PX v=x:=by unfold PX;rw[ev];rfl
 have eb:fB S (mT f)=S.base f.key:=kZ (iY f).1;refine⟨by unfold tw II jF;rw[UE,Uv],by simp_all,by simp_all,λhs=> ?_,λhs=> ?_⟩
 ·rw[Uv];have h13:fB S (mT f)=13:=eb.trans (lx.2 hs);unfold er at hx
  grind
 ·rw[Uv]
  have Ur:eO (fB S (mT f))=true:=by
   rw[eb]
   rcases k2 with h|h
   ·exact h
   ·rw[lx.1 h]at hs;cases hs
  exact dH Prod.fst (qy Ur hx).1
def Ov {t:am}{x y:PV}(hx:0<=x.1/\x.1<18446744073709551616)(hy:0<=y.1/\y.1<18446744073709551616)(h:ji (jF t x) (jF t y)):gZ x y=true:=by
 unfold ji jF at h;unfold gZ;simp only[aJ,dF,gw];refine⟨?_,h.2⟩;have:=h.1
 split at this<;>omega
def Fr {d:MT}{f:eT}(h:jh f.how=false):kL d f= []:=by
 cases hr:kL d f with
 |nil=>rfl
 |cons k l=>
  have⟨_,_,_,_,h3,_⟩:=wh.1 (show k∈kL d f by simp_all)
  simp_all
def wi {f:eT}(h:f.isRep=true):jh f.how=false/\gG f.how eS=false:=by
 have e:f.how=IU:=Cg h;rw[e];decide+kernel
def Ow {f:eT}(h:f.isMap=true):jh f.how=false:=by
 have e:f.how=CE:=Cg h;rw[e];rfl
section
variable {S:d8} {R:MT->PM->Bool} {d:MT} (hd:(d.fs.map (·.num)).Nodup) {m:PM} {n:Int} {f:eT} {k:Nat} (hx:gE S R d [] m.fs=true) (hr:rh (k+1) m) (hf:dR d.fs n=some f)
include hx hf
def Ea:(m.get n≠ []->fy S R f (m.get n)=true)/\∀v∈m.get n,er S R f v=true:=by
 have h1:m.get n≠ []->fy S R f (m.get n)=true:=λUB=>by
  have⟨x,hm,e1,e2⟩:=Oi UB;have⟨g,hg,hL⟩:=(pX.1 hx).1 x hm;rw[e1,hf]at hg
  cases hg
  rw[e2]at hL;exact hL
 exact⟨h1,λv hv=>xO (h1 (List.ne_nil_of_mem hv)) hv⟩
include hd hr
def th {vs:List PV}(hL:vs≠ []->fy S R f vs=true)(hn:vs≠ []->∀y∈m.fs,y.1∉kL d f)(hv:∀v∈vs,GN k v):gE S R d [] (m.put n vs).fs=true/\rh (k+1) (m.put n vs)/\(m.put n vs).unk=m.unk:=
 ⟨QB hd hx hf hL hn,hr.put hv,rfl⟩
end
def yv {S:d8}(hS:RL S){d:MT}(hT:ux S d)(hd:(d.fs.map (·.num)).Nodup){m:PM}{n:Int}{f:eT}{k j:Nat}(hx:gE S (dP S k) d [] m.fs=true)(hr:rh (j+1) m)(hf:dR d.fs n=some f){v:PV}
  (hv:er S (dP S k) f v=true) (hg:GN j v) (hmap:f.isMap=true->∃x y,fZ v.2.2= .mk [(1,[x]),(2,[y])] eS/\er S (dP S (k-1)) (mT f) x=true/\er S (dP S (k-1)) (qN f) y=true/\GN (j-1) x/\GN (j-1) y):
  gE S (dP S k) d [] (gF S d f m v).fs=true/\rh (j+1) (gF S d f m v)/\(gF S d f m v).unk=m.unk:=by
 have UF:=hT.subF hS hf;have⟨Ur,Ux⟩:=eW hf;have⟨o1,o2⟩:=Ea hx hf;unfold gF;rw[Ur]
 by_cases hM:f.isMap=true
 ·rw[dE hM]
  have UG:d∈S.ms:=by
   rcases hT with h|⟨d',hd,g,hg,hm,rfl⟩
   ·exact h
   ·rcases mJ hf with⟨_,rfl⟩|⟨_,rfl⟩
    ·rw[(iY g).1]at hM;cases hM
    ·rw[(iY g).2.1]at hM;cases hM
  have⟨k1,k2,k3⟩:=hS.key d UG f Ux hM;have⟨x,y,Uq,UC,UD,UK,UL⟩:=hmap hM;have Us:=hv;unfold er at Us;rw[dE (yr hM),kC hM]at Us;simp only[aJ,dF]at Us
  have hk0:k≠0:=by
   rintro rfl
   cases Us.2
  have hj0:j≠0:=by
   rintro rfl;exact hg.2.2
  obtain⟨k',rfl⟩:∃k',k=k'+1:=⟨k-1,Ue⟩;obtain⟨j',rfl⟩:∃j',j=j'+1:=⟨j-1,Ue⟩;rw[show k'+1-1=k' by omega]at UC UD;rw[show j'+1-1=j' by omega]at UK UL;clear hmap
  have he:er S (dP S (k'+1)) f (v.1,v.2.1,fZ v.2.2)=true:=by
   unfold er;rw[dE (yr hM),kC hM];simp only[aJ,dF];refine⟨Us.1,?_⟩;rw[Uq,dP];simp only[aJ];exact⟨LS UC UD,rfl⟩
  have hge:GN (j'+1) (v.1,v.2.1,fZ v.2.2):=⟨hg.1,hg.2.1,by
   show rh (j'+1) (fZ v.2.2);rw[Uq];intro p hp u hu;simp only[PM.fs,aN,bH,or_false]at hp
   grind⟩
  have Ut:∀u∈jt f.key (m.get n) (v.1,v.2.1,fZ v.2.2),er S (dP S (k'+1)) f u=true/\GN (j'+1) u:=λu hu=>by
   rcases oh hu with⟨rfl,_⟩|⟨hu,_⟩
   ·grind
   ·exact⟨o2 u hu,hr.get hu⟩
  have Uy:∀u,u=(v.1,v.2.1,fZ v.2.2)\/u∈m.get n->∃x y,u.2.2= .mk [(1,[x]),(2,[y])] eS/\er S (dP S k') (mT f) x=true/\0<=x.1/\x.1<18446744073709551616:=λu hu=>by
   rcases hu with rfl|hu
   ·simp_all
   ·have hL:=o1 (List.ne_nil_of_mem hu);unfold fy kz at hL;rw[dE hM,k3]at hL;simp only[aJ]at hL;have⟨e1,_,_⟩:=tf hL.2;have Uu:=o2 u hu;unfold er at Uu;rw[dE (yr hM),kC hM]at Uu;simp only[aJ]at Uu;have⟨x,y,eu,hx,_⟩:=Au Uu.2 (e1 u hu).1 (e1 u hu).2;have Uz:=(hr.get hu).2.2;rw[eu]at Uz;have:=Uz (1,[x]) (by simp[PM.fs]) x aV
    simp_all
  have UA:∀u,u=(v.1,v.2.1,fZ v.2.2)\/u∈m.get n->tw (eM iL f.key) u=jF f.key (fE u)/\0<=(fE u).1/\(fE u).1<18446744073709551616/\(gG f.key kE=true->(fE u).1=0)/\(gG f.key kE=false->(fE u).2.1=eS):=λu hu=>by
   have⟨x,y,eu,hx,h0,h1⟩:=Uy u hu;exact QC k2 eu hx h0 h1
  have Uw:(m.get n).Pairwise λx y=>lN (tw (eM iL f.key) x) (tw (eM iL f.key) y):=by
   cases hl:m.get n with
   |nil=>simp
   |cons u l=>
    have hL:=o1 (by simp_all);unfold fy kz at hL;rw[dE hM,k3]at hL;simp only[aJ]at hL;rw[<-hl];exact(tf hL.2).2.1
  have UH:(jt f.key (m.get n) (v.1,v.2.1,fZ v.2.2)).Pairwise λx y=>lN (tw (eM iL f.key) x) (tw (eM iL f.key) y):=by
   refine D9 (Q:=λx y=>lN (tw (eM iL f.key) x) (tw (eM iL f.key) y)) (λ_ _ _=>jZ) Uw λu hu=> ?_
   have⟨ev,v0,v1,v2,v3⟩:=UA _ (.inl rfl);have⟨eu,u0,u1,u2,u3⟩:=UA u (.inr hu);have⟨q1,q2⟩:=GK ⟨v0,v1,v2,v3⟩ ⟨u0,u1,u2,u3⟩;refine⟨λh=> ?_,λh1 h2=> ?_,λh z hz hq=> ?_⟩
   ·simp_all
   ·rw[ev,eu]
    rcases vS (jF f.key (fE (v.1,v.2.1,fZ v.2.2))) (jF f.key (fE u))with q|q|q
    ·simp_all
    ·rw[Ov ⟨v0,v1⟩ ⟨u0,u1⟩ q]at h2;cases h2
    omega
   ·rw[ev];rw[eu]at hq;exact sD (q2 h) hq
  refine th hd hx hr hf (λUB=> ?_) (λ_ y _=>by rw[Fr (Ow hM)];simp) (λu hu=>(Ut u hu).2);unfold fy oG kz;rw[dE hM,k3,hM,cq,cz];simp only[aJ,bS];refine⟨⟨?_,λu hu=>(Ut u hu).1⟩,GO (λu hu=> ?_) UH (λk hk=>by cases hk)⟩
  ·cases hl:jt f.key (m.get n) (v.1,v.2.1,fZ v.2.2)with
   |nil=>simp_all
   |cons a l=>
    grind
  ·have:u=(v.1,v.2.1,fZ v.2.2)\/u∈m.get n:=by
    rcases oh hu with⟨h,_⟩|⟨h,_⟩
    ·simp_all
    simp_all
   have⟨x,y,eu,_⟩:=Uy u this;rw[eu];exact⟨rfl,Oq⟩
 ·rw[dD hM];have UI:f.isMap=false:=by simp_all
  by_cases hR:f.isRep=true
  ·rw[dE hR];refine th hd hx hr hf (λ_=> ?_) (λ_ y _=>by rw[Fr (wi hR).1];simp) (λu hu=> ?_)
   ·unfold fy oG kz;rw[UI,hR,(wi hR).2]
    grind
   ·rcases aR.1 hu with hu|hu
    ·exact hr.get hu
    grind
  ·rw[dD hR]
   split
   ·exact th hd hx hr hf (λh=>absurd rfl h) (λh=>absurd rfl h) (λu hu=>by simp at hu)
   ·rename_i UM
    have⟨d1,d2⟩:=Ch (f:=f) (l:=d.fs) hx;have d3:rh (j+1) (io f d.fs m):=λy hy u hu=>hr y (yt hy).1 u hu
    have:=th hd d1 d3 hf (vs:= [v]) (λ_=> ?_) (λ_ y hy hc=> ?_) (λu hu=>by
     grind)
    ·simp_all
    ·unfold fy oG kz;rw[dD hM];simp only[List.length_singleton,beq_self_eq_true,cJ,cz,List.all_cons,List.all_nil,dl,hv]
     split
     ·rename_i hc
      cases hz:(decide (v.1=0)&&om v.2.1)with
      |false=>rfl
      |true=>
       exfalso;simp only[aJ,dF]at hz;refine UM ?_
       have UJ:(eV S f).isNone=true:=by
        cases hs:eV S f with
        |none=>rfl
        |some t=>exact absurd (UF.2 (by simp_all)) hc.2
       simp only[aJ,dF];refine⟨⟨⟨hc.1,UJ⟩,hz.1⟩,?_⟩;rw[uw hz.2,gw]
     ·rfl
    ·unfold kL at hc;rw[aP]at hc;obtain⟨o,ho,e⟩:=hc;rw[bw]at ho;exact(yt hy).2 o ho.1 ho.2 e.symm
def SZ {k:Nat}(hk:eO k=true):Cr k 0=true:=by
 have UF:k=0\/k=1\/k=2\/k=3\/k=4\/k=5\/k=6\/k=7\/k=8\/k=9\/k=10\/k=11\/k=12\/k=15:=by
  unfold eO at hk
  grind
 rcases UF with rfl|rfl|rfl|rfl|rfl|rfl|rfl|rfl|rfl|rfl|rfl|rfl|rfl|rfl<;>decide+kernel
def Ax {S:d8}{R:MT->PM->Bool}{g:eT}(h:fB S g=16->∃t,eV S g=some t/\R t PM.none=true):er S R g PV.none=true:=by
 have e1:om PV.none.2.1=true:=Oq;have e2:yF PV.none.2.2=true:=Ot;have e3:decide (PV.none.1=0)=true:=rfl;unfold er;rw[e1,e2,e3]
 split
 ·rename_i Uv
  have⟨t,h1,h2⟩:=h Uv;rw[h1];exact h2
 ·split
  ·rfl
  ·split
   ·rfl
   ·show(true&&true&&Cr (fB S g) 0)=true;rw[SZ]
    ·rfl
    ·have:=td S g;unfold eO
     (simp;omega)
def QD {S:d8}(hN:∀d∈S.ms,(d.fs.map (·.num)).Nodup){d:MT}(h:ux S d):(d.fs.map (·.num)).Nodup:=by
 rcases h with h|⟨d',_,f,_,_,rfl⟩
 ·simp_all
 ·show [(1:Int),2].Nodup;decide
section
variable {S:d8} (hS:RL S) (hN:∀d∈S.ms,(d.fs.map (·.num)).Nodup) {b:am}
include hS hN
def uA:∀(F n deep:Nat) (d:MT) (m:PM) (a e:Nat) (m':PM),n+deep=9->ux S d->dP S n d m=true->rh (n+1) m->e<=b.size->eE S b F d m a e deep= .ok m'->dP S n d m'=true/\rh (n+1) m'
 |0,_,_,_,_,_,_,_,_,_,h1,h2,_,h=>by cases h;simp_all
 |_+1,0,_,_,_,_,_,_,_,_,h1,_,_,_=>by cases h1
 |F+1,k+1,deep,d,m,a,e,m',hn,hT,h1,h2,he,h=>by
  by_cases hl:a<e
  ·cases hr:fD b a e with
   |error x=>rw[gV hl hr]at h;cases h
   |ok r=>
    rw[g8 hl hr]at h
    cases hs:jn S b F d m r deep with
    |error x=>rw[hs]at h;cases h
    |ok m1=>
     rw[hs]at h;have⟨r1,r2,r3,r4,r5,rn0,rn1,_⟩:=iA hr;have hd:=QD hN hT;have Uu:=h1;rw[dP]at Uu;simp only[aJ]at Uu;obtain⟨hX,hU⟩:=Uu
     have fin:∀m2,gE S (dP S k) d [] m2.fs=true/\rh (k+1+1) m2/\m2.unk=m.unk->dP S (k+1) d m2=true/\rh (k+1+1) m2:=λm2 q=>by
      refine⟨?_,q.2.1⟩;rw[dP,q.2.2]
      simp_all
     have keep:(∀f,dR d.fs r.num=some f->r.kind≠fG S f/\¬(r.kind=2/\f.isRep=true))->dP S (k+1) d (m.keep (b.extract r.a r.e))=true/\rh (k+1+1) (m.keep (b.extract r.a r.e)):=λUH=>by
      refine⟨?_,h2⟩;rw[dP];simp only[aJ];have⟨q,q1,q2,q3,q4⟩:=Oj hr he;rw[r1];exact⟨hX,Ok hU (Ol q1 q4 (by rw[q2,q3];exact Om UH))⟩
     have Ux:dP S (k+1) d m1=true/\rh (k+1+1) m1:=by
      unfold jn at hs
      split at hs
      ·simp_all
      ·rename_i f hf
       have Uy:=hT.subF hS hf;have⟨o1,o2⟩:=Ea hX hf;have⟨Ur,Ut⟩:=eW hf
       split at hs
       ·rename_i hk
        unfold oW at hs
        cases hv:lU S b F f m r deep with
        |error x=>rw[hv]at hs;cases hs
        |ok v=>
         rw[hv]at hs
         cases hs
         unfold lU at hv
         cases hsub:eV S f with
         |none=>
          rw[hsub]at hv;have⟨q1,q2⟩:=LR (R:=dP S k) hr he Uy hsub hk hv k;exact fin _ (yv hS hT hd hX h2 hf q1 q2 λhM=>by rw[kC hM]at hsub;cases hsub)
         |some t=>
          rw[hsub]at hv;simp only at hv;unfold xg at hv;have Uv:fB S f=16:=Uy.2 (by simp_all)
          split at hv
          ·cases hv
          ·rename_i sm UD
           cases hv
           split at UD
           ·grind
           ·rename_i Uq
            have Uq:oz S t (deep+1)=false:=by simp_all
            have hle:=Pz Uq;obtain⟨k',rfl⟩:∃k',k=k'+1:=⟨k-1,Ue⟩
            have Uz:(eI f m).1=0/\om (eI f m).2.1=true/\dP S (k'+1) t (eI f m).2.2=true/\rh (k'+1+1) (eI f m).2.2:=by
             have z:(0:Int)=0/\om eS=true/\dP S (k'+1) t PM.none=true/\rh (k'+1+1) PM.none:=⟨rfl,Oq,Aw k',rh.none _⟩;unfold eI;rw[Ur]
             split
             ·exact z
             ·cases hg:m.get r.num with
              |nil=>exact z
              |cons v0 l=>
               have UA:v0∈m.get r.num:=by simp_all
               have UB:=o2 v0 UA;have:=h2.get UA;have hR:=uh UB Uv hsub;unfold er at UB
               simp_all
            have⟨i1,i2⟩:=uA F (k'+1) (deep+1) t _ r.fr r.e sm Ue (hT.sub hf hsub) Uz.2.2.1 Uz.2.2.2 Ue UD
            have hv:er S (dP S (k'+1)) f ((eI f m).1,(eI f m).2.1,sm)=true:=by
             unfold er
             simp_all
            refine fin _ (yv hS hT hd hX h2 hf hv ⟨Ue,Ue,i2⟩ λhM=> ?_);rw[kC hM]at hsub
            cases hsub
            rw[dP]at i1;simp only[aJ]at i1
            have UC:d∈S.ms:=by
             rcases hT with h|⟨d',hd,g,hg,hm,rfl⟩
             ·exact h
             ·rcases mJ hf with⟨_,rfl⟩|⟨_,rfl⟩
              ·rw[(iY g).1]at hM;cases hM
              ·rw[(iY g).2.1]at hM;cases hM
            have⟨_,k2,_⟩:=hS.key d UC f Ut hM;refine IC i1.1 i2 (Ax λq=> ?_) (Ax λq=> ?_)
            ·rw[kZ (iY f).1]at q;exact absurd q (O5 k2)
            ·rw[kZ (iY f).2.1]at q;have hs:=(hS.sub d UC f Ut).1 q;have⟨t,ht⟩:=bZ.1 hs;refine⟨t,by rw[mK (iY f).2.1];exact ht,?_⟩
             have hk0:k'≠0:=by
              rintro rfl;have e8:deep+1=8:=Ue;unfold oz at Uq;rw[e8]at Uq;have en:gG (et f).name eS=true:=by rw[gw];rfl
              rw[en]at Uq;have Uq:(S.msg f.ty).isSome=false:=Uq
              simp_all
             obtain⟨UE,rfl⟩:∃UE,k'=UE+1:=⟨k'-1,Ue⟩;rfl
       ·rename_i hk
        split at hs
        ·rename_i hp
         split at hs
         ·cases hs
         ·rename_i l' Uw
          cases hs
          have hM:=GH hp.2;have hb:fB S f=S.base f.ty:=kZ hM;rw[kB,hp.1]at hk
          have UG:eO (fB S f)=true:=by
           have:=td S f;unfold eO;simp only[ci,dF];have:fB S f≠13:=λq=>hk (by rw[q];rfl)
           have:fB S f≠14:=λq=>hk (by rw[q];rfl)
           have:fB S f≠16:=λq=>hk (by rw[q];rfl)
           omega
          unfold ko at Uw;rw[<-hb,Ur]at Uw;have Us:=qz (P:=λv=>er S (dP S k) f v=true/\GN (k+1) v) (λx x0 x1 x5=>⟨D8 UG x0 x1 x5,(iu x0 x1).1,(iu x0 x1).2,rh.none k⟩) Ue _ _ _ _ Uw λv hv=>⟨o2 v hv,h2.get hv⟩
          rw[Ur];refine fin _ (th hd hX h2 hf (λhne=> ?_) (λ_ y _=>by rw[Fr (wi hp.2).1];simp) λv hv=>(Us v hv).2);unfold fy oG kz;rw[hM,hp.2,(wi hp.2).2];simp only[aJ,bS];refine⟨⟨?_,λv hv=>(Us v hv).1⟩,rfl⟩
          cases l' with
          |nil=>simp_all
          |cons x l=>cases l<;>simp
        simp_all
     exact uA F (k+1) deep d m1 r.e e m' hn hT Ux.1 Ux.2 he h
  ·rw[gN hl]at h
   simp_all
def LT {nm:am}{m:PM}(h:fj S nm b= .ok m):∃d,S.msg nm=some d/\d∈S.ms/\dP S 8 d m=true/\rh 9 m:=by
 unfold fj at h
 cases hm:S.msg nm with
 |none=>simp_all
 |some d=>
  rw[hm]at h;have hd:d∈S.ms:=iV hm;have⟨h1,h2⟩:=uA hS hN _ 8 1 d PM.none 0 b.size m rfl (.inl hd) (Aw 7) (rh.none 8) (ay _) h
  simp_all
end
def wK:Nat->PM->Nat
 |0,_=>0
 |k+1,m=>1+m.unk.size+(m.fs.map λf=>1+(f.2.map λv=>v.2.1.size+wK k v.2.2).sum).sum
def wV (k:Nat)(l:List PV):Nat:=(l.map λv=>v.2.1.size+wK k v.2.2).sum
def wF (k:Nat)(fs:List PF):Nat:=(fs.map λf=>1+wV k f.2).sum
def jT (k:Nat)(m:PM):wK (k+1) m=1+m.unk.size+wF k m.fs:=rfl
def qA (k:Nat)(f:PF)(fs:List PF):wF k (f::fs)=1+wV k f.2+wF k fs:=rfl
def oL (k:Nat)(v:PV)(l:List PV):wV k (v::l)=v.2.1.size+wK k v.2.2+wV k l:=rfl
def LU (k:Nat)(a b:List PF):wF k (a++b)=wF k a+wF k b:=by unfold wF;rw[bI,List.sum_append]
def yw (k:Nat)(a b:List PV):wV k (a++b)=wV k a+wV k b:=by unfold wV;rw[bI,List.sum_append]
def O6:eS.size=0:=rfl
def qB (k:Nat):wK k PM.none<=1:=by cases k<;>simp[wK,PM.none,PM.fs,PM.unk,O6]
def RN {k:Nat}{m m':PM}(h:m.fs=m'.fs)(hu:m.unk.size<=m'.unk.size):wK k m<=wK k m':=by
 cases k with
 |zero=>exact ay _
 |succ k=>rw[jT,jT,h];omega
def LW (k:Nat)(n:Int)(l:List PV):∀(fs:List PF) (done:Bool),wF k (gK n l done fs)+wV k (gz fs n)<=wF k fs+(if done then 0 else 1+wV k l)
 | [],done=>by
  cases done<;>simp[gK,gz,wF,wV]
 |x::r,done=>by
  rw[gK,LU,LU,gz,qA]
  by_cases hx:x.1=n
  ·have ih:=LW k n l r true;have hn:decide (n<=x.1)=true:=Ug;rw[hn,cq,dE hx,dE hx];simp only[if_true]at ih
   cases done<;>simp[wF]at ih⊢<;>omega
  ·rw[dD hx,dD hx]
   cases hn:decide (n<=x.1)
   ·have ih:=LW k n l r done;rw[cF];simp only[cB,aM,if_false];rw[qA];have e:wF k []=0:=rfl;omega
   ·have ih:=LW k n l r true;rw[cq];simp only[if_true]at ih;have e:wF k []=0:=rfl;have e1:=qA k x [];have e2:wF k [(n,l)]=1+wV k l:=rfl
    cases done
    ·simp only[cS,cz,if_true,aM,if_false];omega
    ·simp only[cL,cA,aM,if_false,if_true];omega
def yx (k:Nat)(m:PM)(n:Int)(l:List PV):wK (k+1) (m.put n l)+wV k (m.get n)<=wK (k+1) m+(1+wV k l):=by
 have h:=LW k n l m.fs l.isEmpty;rw[jT,jT];have h2:(if l.isEmpty then 0 else 1+wV k l)<=1+wV k l:=by split<;>omega
 show 1+m.unk.size+wF k (gK n l l.isEmpty m.fs)+wV k (gz m.fs n)<=_;omega
def GP (k:Nat)(m:PM)(n:Int):wK k (m.put n [])<=wK k m:=by
 cases k with
 |zero=>exact ay _
 |succ k=>
  have h:=LW k n [] m.fs true;rw[jT,jT];show 1+m.unk.size+wF k (gK n [] true m.fs)<=_;simp only[if_true]at h;omega
def Fs (k:Nat)(t:am)(v:PV):∀(l:List PV) (done:Bool),wV k (fY t v done l)<=wV k l+(if done then 0 else v.2.1.size+wK k v.2.2)
 | [],done=>by cases done<;>simp[fY,wV]
 |x::r,done=>by
  rw[fY,yw,yw,oL];generalize(jW t (fE v) (fE x)||gZ (fE v) (fE x))=c;have e:wV k []=0:=rfl;have e1:=oL k v [];have e2:=oL k x [];have h0:=Fs k t v r done;have h1:=Fs k t v r true;simp only[if_true]at h1;have hB:wV k (if gZ (fE v) (fE x)then []else [x])<=x.2.1.size+wK k x.2.2:=by split<;>omega
  cases c
  ·simp only[cB,cF,aM,if_false];omega
  ·rw[cq]
   cases done
   ·simp only[cS,cz,if_true,aM,if_false];omega
   ·simp only[cL,cA,aM,if_false,if_true];omega
def LX (k:Nat)(f:eT):∀(l:List eT) (m:PM),wK k (io f l m)<=wK k m/\(io f l m).get f.num=m.get f.num
 | [],m=>⟨ay _,rfl⟩
 |o::l,m=>by
  rw[io]
  split
  ·rename_i hc
   have⟨h1,h2⟩:=LX k f l (m.put o.num []);refine⟨aG h1 (GP k m o.num),h2.trans (PM.get_put_ne _ _ _ _ ?_)⟩;simp only[aJ,dF]at hc;exact λe=>hc.2 e.symm
  ·exact LX k f l m
def RO (k:Nat)(m:PM):wK k (fZ m)<=wK k m+4:=by
 have h1:∀(m:PM) (n:Int),wK k (fH m n)<=wK k m+2:=λm n=>by
  unfold fH
  split
  ·cases k with
   |zero=>simp[wK]
   |succ k=>
    have h:=yx k m n [PV.none];have h2:=qB k;have h3:wV k [PV.none]=wK k PM.none:=by simp[wV,PV.none,O6]
    omega
  ·omega
 have h2:wK k (fZ m)<=wK k (fH (fH m 1) 2):=RN rfl (by show eS.size<=_;rw[O6];omega);have h3:=h1 (fH m 1) 2;have h4:=h1 m 1;omega
def QE {k:Nat}{f:eT}{m:PM}(h:¬(f.isRep||f.isMap)=true):(eI f m).2.1.size+wK k (eI f m).2.2<=wV k (m.get f.num)+1:=by
 unfold eI;rw[dD h]
 cases m.get f.num with
 |nil=>have:=qB k;simp[PV.none,O6];omega
 |cons v l=>simp[oL];omega
def LY (S:d8)(d:MT)(f:eT)(m:PM)(v:PV)(k:Nat)(c:Nat)(hv:v.2.1.size+wK k v.2.2<=(eI f m).2.1.size+wK k (eI f m).2.2+c):wK (k+1) (gF S d f m v)<=wK (k+1) m+6+c:=by
 have hN:=qB k;have hS:(f.isRep||f.isMap)=true->(eI f m).2.1.size+wK k (eI f m).2.2<=1:=λq=>by unfold eI;rw[dE q];show eS.size+wK k PM.none<=1;rw[O6];omega
 unfold gF
 split
 ·rename_i hm
  have h1:=yx k m f.num (jt f.key (m.get f.num) (v.1,v.2.1,fZ v.2.2));have h2:=Fs k f.key (v.1,v.2.1,fZ v.2.2) (m.get f.num) false;have h3:=RO k v.2.2;have h4:=hS (by rw[hm,cq]);unfold jt at*;simp only[aM,if_false]at h2;omega
 ·rename_i hm
  split
  ·rename_i hr
   have h1:=yx k m f.num (m.get f.num++ [v]);have h2:=yw k (m.get f.num) [v];have h3:wV k [v]=v.2.1.size+wK k v.2.2:=by simp[wV]
   have h4:=hS (by rw[hr,cJ]);omega
  ·rename_i hr
   split
   ·have:=GP (k+1) m f.num;omega
   ·have⟨h1,h2⟩:=LX (k+1) f d.fs m;have h3:=yx k (io f d.fs m) f.num [v];have h4:wV k [v]=v.2.1.size+wK k v.2.2:=by simp[wV]
    have h5:=QE (k:=k) (f:=f) (m:=m) (by simp[hm,hr]);rw[h2]at h3;omega
def LZ (b:am)(kd e k:Nat):∀(F:Nat) (l:List PV) (a:Nat) (l':List PV),fw b kd e F l a= .ok l'->wV k l'<=wV k l+(e-a)
 |0,l,a,l',h=>by
  cases h
  omega
 |F+1,l,a,l',h=>by
  rw[fw]at h;have hN:=qB k
  split at h
  ·rename_i ha
   split at h
   ·cases hv:g9 b a e with
    |error x=>rw[hv]at h;cases h
    |ok nz=>
     obtain⟨n,z⟩:=nz;rw[hv]at h;have⟨_,_,h1,h2⟩:=iG hv;have ih:=LZ b kd e k F _ z l' h;rw[yw]at ih;have h3:wV k [(kD kd n,eS,PM.none)]=wK k PM.none:=by simp[wV,O6]
     omega
   ·have h4:4<=(if ee kd=5 then 4 else 8):=by split<;>omega
    simp only at h;generalize(if ee kd=5 then 4 else 8)=z at h h4
    split at h
    ·have ih:=LZ b kd e k F _ _ l' h;rw[yw]at ih;have h3:wV k [(kD kd (wJ (b.extract a (a+z))),eS,PM.none)]=wK k PM.none:=by simp[wV,O6]
     omega
    ·cases h
  ·cases h
   omega
def yy (S:d8)(b:am):∀(F k:Nat) (d:MT) (m:PM) (a e deep:Nat) (m':PM),eE S b F d m a e deep= .ok m'->wK k m'<=wK k m+8*(e-a)
 |0,k,d,m,a,e,deep,m',h=>by
  cases h
  omega
 |F+1,0,d,m,a,e,deep,m',h=>by simp[wK]
 |F+1,k+1,d,m,a,e,deep,m',h=>by
  rw[eE]at h
  split at h
  ·cases hr:fD b a e with
   |error x=>rw[hr]at h;cases h
   |ok r=>
    rw[hr]at h;have⟨r1,r2,r3,r4,r5,_⟩:=iA hr
    have hkeep:wK (k+1) (m.keep (b.extract r.a r.e))<=wK (k+1) m+(r.e-a):=by
     rw[jT,jT];show 1+(m.unk++b.extract r.a r.e).size+wF k m.fs<=_;rw[bj,aU];omega
    simp only at h
    split at h
    ·have ih:=yy S b F (k+1) d _ _ e deep m' h;omega
    ·rename_i f hf
     split at h
     ·split at h
      ·rename_i sub hsub
       split at h
       ·cases h
       ·cases hs:eE S b F sub (eI f m).2.2 r.fr r.e (deep+1)with
        |error x=>rw[hs]at h;cases h
        |ok sm=>
         rw[hs]at h;have i1:=yy S b F k sub _ _ _ _ sm hs;have i2:=yy S b F (k+1) d _ _ e deep m' h;have i3:=LY S d f m ((eI f m).1,(eI f m).2.1,sm) k (8*(r.e-r.fr)) (by show(eI f m).2.1.size+wK k sm<=_;omega);omega
      ·cases hv:mQ S b f r with
       |error x=>rw[hv]at h;cases h
       |ok v=>
        rw[hv]at h;have i2:=yy S b F (k+1) d _ _ e deep m' h
        have hn:v.2.2=PM.none/\v.2.1.size<=r.e-r.fr:=by
         unfold mQ at hv
         split at hv
         ·split at hv
          ·cases hv
          ·cases hv;exact⟨rfl,by show(b.extract r.fr r.e).size<=_;rw[aU];omega⟩
         ·cases hv;exact⟨rfl,by show eS.size<=_;rw[O6];omega⟩
        have i3:=LY S d f m v k (1+(r.e-r.fr)) (by rw[hn.1];have:=qB k;omega);omega
     ·split at h
      ·cases hp:ko S b f (m.get f.num) r.fr r.e with
       |error x=>rw[hp]at h;cases h
       |ok l=>
        rw[hp]at h;have i1:=LZ b _ _ k _ _ _ l hp;have i2:=yy S b F (k+1) d _ _ e deep m' h;have i3:=yx k m f.num l;omega
      ·have ih:=yy S b F (k+1) d _ _ e deep m' h;omega
  ·cases h
   omega
def S0 (S:d8)(nm b:am)(k:Nat)(m:PM)(h:fj S nm b= .ok m):wK k m<=8*b.size+1:=by
 unfold fj at h
 split at h
 ·cases h
 ·have h1:=yy S b _ k _ _ _ _ _ m h;have h2:=qB k;omega
def O7:∀(k:Nat) (m:PM),vZ k m+30<=30*wK (k+1) m
 |0,m=>by rw[jT];show 0+30<=_;omega
 |k+1,m=>by
  have hv:∀l:List PV,(l.map λv=>30+v.2.1.size+vZ k v.2.2).sum<=30*wV (k+1) l:=λl=>by
   induction l with
   |nil=>exact aL _
   |cons v l ih=>
    have:=O7 k v.2.2;rw[bO,List.sum_cons,oL];omega
  have hf:∀l:List PF,(l.map λx=>30+(x.2.map λv=>30+v.2.1.size+vZ k v.2.2).sum).sum<=30*wF (k+1) l:=λl=>by
   induction l with
   |nil=>exact aL _
   |cons x l ih=>
    have:=hv x.2;rw[bO,List.sum_cons,qA];omega
  have:=hf m.fs;rw[vZ,jT];omega
def L0 {k:Nat}{x:PF}:∀{l:List PF},x∈l->1+wV k x.2<=wF k l
 |y::l,h=>by
  rw[qA]
  rcases aN.1 h with rfl|h
  ·omega
  ·have:=L0 (k:=k) h;omega
def L1 {k:Nat}{v:PV}:∀{l:List PV},v∈l->v.2.1.size+wK k v.2.2<=wV k l
 |y::l,h=>by
  rw[oL]
  rcases aN.1 h with rfl|h
  ·omega
  ·have:=L1 (k:=k) h;omega
def L2 (k:Nat):∀l:List PF,l.length<=wF k l
 | []=>aL _
 |x::l=>by have:=L2 k l;rw[qA,be];omega
def L3 (k:Nat):∀l:List PV,l.length<=wV (k+1) l
 | []=>aL _
 |v::l=>by have:=L3 k l;rw[oL,be,jT];omega
def O8:∀(k:Nat) (m:PM),rh k m->wK (k+1) m<=1099511627776->oT k m
 |0,_,h,_=>h
 |k+1,m,h,hw=>by
  rw[jT]at hw;have h1:=L2 (k+1) m.fs;refine⟨Ue,Ue,λx hx=> ?_⟩;have h2:=L0 (k:=k+1) hx;have h3:=L3 k x.2;refine⟨Ue,λv hv=> ?_⟩;have h4:=L1 (k:=k+1) hv;have⟨a1,a2,a3⟩:=h x hx v hv;exact⟨a1,a2,Ue,O8 k v.2.2 a3 Ue⟩
def Ox {t:am}(h3:dJ t=3)(hk:gM 3 t=true):eO (nw t)=true\/nw t=13:=by
 have hm:t.toList∈mN:=by have:=mm h3;simpa [je]using this
 have:(eO (nw t)||decide (nw t=13))=true:=by
  unfold nw;unfold gM at hk;generalize t.toList=l at hm hk
  revert l;decide+kernel
 simp_all
def S1 {bs:List dQ}(h:jK bs):RL (dU bs)/\∀d∈(dU bs).ms,(d.fs.map (·.num)).Nodup:=by
 have Uq:∀d∈(dU bs).ms,∃b,b∈bs/\b.enum=false/\d=nP b:=λd hd=>by
  obtain⟨b,hb,rfl⟩:=aP.1 hd;have:=bw.1 hb
  grind
 refine⟨⟨(PL h).name,λd hd n f hf=> ?_,λd hd f hf=> ?_,λd hd f hf hM=> ?_⟩,λd hd=> ?_⟩
 ·obtain⟨b,hb,he,rfl⟩:=Uq d hd;have⟨e,hm⟩:=eW hf;obtain⟨p,hp,fr,hr,rfl⟩:=tS.1 hm;have:=(h.ok.chk b hb he).flds p hp fr hr;have h1:=this.lo;have h2:=this.hi;have e:((iJ fr.num.1:Nat):Int)=n:=e;omega
 ·obtain⟨b,hb,he,rfl⟩:=Uq d hd;obtain⟨p,hp,fr,hr,rfl⟩:=tS.1 hf;exact tQ h (zN bs) (OS h hb he hp hr)
 ·obtain⟨b,hb,he,rfl⟩:=Uq d hd;obtain⟨p,hp,fr,hr,rfl⟩:=tS.1 hf;have⟨_,f2,_⟩:=tR (h.ok.shape b hb p hp) hr;rw[f2]at hM;have⟨k3,kg⟩:=xz h hb he hp hr (of_decide_eq_true hM);have e:(dU bs).base (jg fr.key)=nw (jg fr.key):=rD h k3;refine⟨sG h k3,?_,?_⟩
  ·show eO ((dU bs).base (jg fr.key))=true\/(dU bs).base (jg fr.key)=13;rw[e];exact Ox k3 kg
  ·show jI ((dU bs).base (jg fr.key))=eM iL (jg fr.key);rw[e];exact Db k3
 ·obtain⟨b,hb,he,rfl⟩:=Uq d hd
  have e:(nP b).fs.map (·.num)=(b.parts.flatMap (λp=>p.fields.map (λf=>iJ f.num.1))).map (λn:Nat=>(n:Int)):=by
   show(b.parts.flatMap λp=>p.fields.map (iM p.oneof)).map (·.num)=_;rw[List.map_flatMap,List.map_flatMap]
   congr 1
   funext p;rw[bB,bB];rfl
  rw[e];exact List.Pairwise.map _ (λa b Ur e=>Ur Ue) (h.ok.chk b hb he).nums
def Oy {bs:List dQ}(h:jK bs){nm b:am}{m:PM}(hb:b.size<=1048576)(hd:fj (dU bs) nm b= .ok m):
  oT 9 m/\vZ 9 m<=251658300/\(jM (dU bs) nm m).2=0/\(jM (dU bs) nm m).1.size<=251658300/\fj (dU bs) nm (jM (dU bs) nm m).1= .ok m:=by
 have⟨hS,hN⟩:=S1 h;have⟨d,h1,h2,h3,h4⟩:=LT hS hN hd;have hw:wK (9+1) m<=8*b.size+1:=S0 (dU bs) nm b 10 m hd;have ht:=O7 9 m;have hO:=O8 9 m h4 Ue;have hl:=rG (S:=dU bs) 8 9 d m hO
 have he:jM (dU bs) nm m=(bl (ed (dU bs) 8 d m),0):=by
  unfold jM;rw[h1];simp only;rw[dE h3,dE h3];rfl
 rw[he];refine⟨hO,Ue,rfl,?_,?_⟩
 ·show(bl (ed (dU bs) 8 d m)).size<=_;rw[fK];omega
 ·rw[Qt,h1];exact GL hS 8 1 d m 9 rfl (.inl h2) h3 hO Ue
def pA (c:UInt8):Bool:=ww c.toNat
def pD (c:UInt8):Bool:=lD c.toNat
def lC:Nat->List UInt8->List (List UInt8)
 |0,_=> []
 |_,[]=> []
 |n+1,c::r=>
  if Cu c.toNat then lC n r
  else if uY c.toNat then(c::r.takeWhile pA)::lC n (r.dropWhile pA)
  else if lD c.toNat&&(c.toNat:Int) !=48 then(c::r.takeWhile pD)::lC n (r.dropWhile pD)
  else [c]::lC n r
def Ay (p:Int->Bool)(t:am):∀n k,t.size-k<=n->k<=t.size->iy p t n k=k+((t.data.toList.drop k).takeWhile λc=>p c.toNat).length
 |0,k,h,hk=>by
  have:t.data.toList.length=t.size:=Uf;rw[iy,cl Ue];rfl
 |n+1,k,h,hk=>by
  have hl:t.data.toList.length=t.size:=Uf
  by_cases hs:k<t.size
  ·have hb:fL t k=((t.data.toList[k]'Ue).toNat:Int):=by
    rw[lB,aK Ue];rfl
   rw[iy,aX Ue,List.takeWhile_cons,hb]
   cases hp:p ((t.data.toList[k]'Ue).toNat:Int)with
   |true=>
    rw[dE (by grind),Ay p t n (k+1) Ue hs]
    (simp;omega)
   |false=>simp
  ·rw[jB (.inl hs),cl Ue];rfl
def Fu (t:am):∀n m a,t.size-a<=n->t.size-a<=m->a<=t.size->(j9 t n a).map (λx=>x.1.data.toList)=lC m (t.data.toList.drop a)
 |0,m,a,h,_,ha=>by
  have hl:t.data.toList.length=t.size:=Uf;rw[cl Ue]
  cases m<;>rfl
 |n+1,m,a,h,hm,ha=>by
  have hl:t.data.toList.length=t.size:=Uf
  by_cases hs:a<t.size
  ·obtain⟨m,rfl⟩:∃k,m=k+1:=⟨m-1,Ue⟩
   have hb:fL t a=((t.data.toList[a]'Ue).toNat:Int):=by
    rw[lB,aK Ue];rfl
   have hd:=aX (l:=t.data.toList) (i:=a) Ue
   have hx:∀j,(t.extract a j).data.toList=((t.data.toList.drop a).take (j-a)):=λj=>by
    rw[og,List.drop_take]
   have hw:=oo t a hs;rw[j9,dE hs,hd,lC,hb];generalize hc:(t.data.toList[a]'Ue)=c at*
   split
   ·exact Fu t n m (a+1) Ue Ue hs
   ·rw[bO,Fu t n m (gQ t a) Ue Ue hw.2];simp only;rw[hx]
    have key:∀p:Int->Bool,gQ t a=iy p t t.size (a+1)->(t.data.toList.drop a).take (gQ t a-a)=c::(t.data.toList.drop (a+1)).takeWhile (λc=>p c.toNat)/\t.data.toList.drop (gQ t a)=(t.data.toList.drop (a+1)).dropWhile (λc=>p c.toNat):=λp e=>by
     have h2:(t.data.toList.drop (a+1)).takeWhile (λc=>p c.toNat)++(t.data.toList.drop (a+1)).dropWhile (λc=>p c.toNat)=t.data.toList.drop (a+1):=List.takeWhile_append_dropWhile;rw[e,Ay p t _ _ Ue hs,hd,show a+1+((t.data.toList.drop (a+1)).takeWhile λc=>p c.toNat).length-a=((t.data.toList.drop (a+1)).takeWhile λc=>p c.toNat).length+1 by omega,List.take_succ_cons,show∀k,t.data.toList.drop (a+1+k)=(t.data.toList.drop (a+1)).drop k from λk=>by rw[List.drop_drop]]
     grind
    unfold gQ at key⊢;rw[hb]at key⊢
    split
    ·rename_i hL
     have⟨k1,k2⟩:=key ww (by rw[dE hL]);rw[dE hL]at k1 k2;rw[k1,k2];rfl
    ·rename_i hL
     split
     ·rename_i hD
      have⟨k1,k2⟩:=key lD (by rw[dD hL,dE hD]);rw[dD hL,dE hD]at k1 k2;rw[k1,k2];rfl
     ·rw[hd,show a+1-a=1 by omega];rfl
  ·rw[wy hs,cl Ue]
   cases m<;>rfl
def kS:∀n m (l:List UInt8),l.length<=n->l.length<=m->lC n l=lC m l
 |n,m,[],_,_=>by cases n<;>cases m<;>rfl
 |0,_,_::_,h,_=>by grind
 |_,0,_::_,_,h=>by grind
 |n+1,m+1,c::r,h,h'=>by
  have hd:∀p,(r.dropWhile p).length<=r.length:=λp=>(List.dropWhile_sublist p).length_le
  have h1:=hd pA;have h2:=hd pD;simp only[be]at h h';rw[lC,lC,kS n m r Ue Ue,kS n m _ Ue Ue,kS n m _ Ue Ue]
def Bd (s:List UInt8):Prop:=∀c,s.getLast?=some c->pA c=false
def Bd.tail {c:UInt8}{r:List UInt8}(h:Bd (c::r)):Bd r:=λx hx=>h x (by
 grind)
def RP {c:UInt8}(h:pA c=false):pD c=false:=by
 unfold pA ww at h;unfold pD
 simp_all
def Eb {p:UInt8->Bool}:∀{s r:List UInt8},s≠ []->(∀c,s.getLast?=some c->p c=false)->(s++r).takeWhile p=s.takeWhile p/\(s++r).dropWhile p=s.dropWhile p++r/\∀c,(s.dropWhile p).getLast?=some c->s.getLast?=some c
 | [],_,h,_=>absurd rfl h
 |c::s,r,_,h=>by
  rw[bf,List.takeWhile_cons,List.takeWhile_cons,List.dropWhile_cons,List.dropWhile_cons]
  cases hp:p c with
  |false=>simp
  |true=>
   cases s with
   |nil=>simp_all
   |cons d s=>
    have⟨h1,h2,h3⟩:=Eb (p:=p) (s:=d::s) (r:=r) Uf (λx hx=>h x (by simpa using hx))
    simp_all
def yA:∀n (s r:List UInt8),s.length+r.length<=n->Bd s->lC n (s++r)=lC n s++lC n r
 |n,[],r,_,_=>by cases n<;>rfl
 |0,_::_,_,h,_=>Uk
 |n+1,c::s,r,h,hb=>by
  simp only[be]at h;have hf:∀l:List UInt8,l.length<=n->lC (n+1) l=lC n l:=λl hl=>kS _ _ l Ue hl
  have Ur:∀p,(s.dropWhile p).length<=s.length:=λp=>(List.dropWhile_sublist p).length_le
  rw[hf r Ue,bf,lC,lC];have ih:=yA n s r Ue hb.tail
  have go:∀p:UInt8->Bool,p c=true->(∀c,pA c=false->p c=false)->(s++r).takeWhile p=s.takeWhile p/\lC n ((s++r).dropWhile p)=lC n (s.dropWhile p)++lC n r:=λp hp Uq=>by
   have hs:s≠ []:=λe=>by subst e;have:=Uq _ (hb c rfl);simp_all
   have⟨h1,h2,h3⟩:=Eb (p:=p) (r:=r) hs (λx hx=>Uq x (hb.tail x hx));have:=Ur p;exact⟨h1,by rw[h2];exact yA n _ r Ue (λx hx=>hb.tail x (h3 x hx))⟩
  split
  ·exact ih
  ·split
   ·rename_i hL
    have⟨h1,h2⟩:=go pA (by unfold pA ww;simp_all) (λ_ h=>h)
    simp_all
   ·split
    ·rename_i hD
     have⟨h1,h2⟩:=go pD (by unfold pD;simp_all) (λ_ h=>RP h)
     simp_all
    (simp;omega)
section
open Uq
def L4 (c:Int):Prop:= -9223372036854775808<=c/\c<=9223372036854775807
def ti (c:Int)(n:Nat):Nat:=((if c<0 then-(c+1)else c)%n).toNat
def nl (c:Int){n:Nat}(h:0<n):ti c n<n:=by
 unfold ti;have h1:0<=(if c<0 then-(c+1)else c)%(n:Int):=Int.emod_nonneg _ Ue;have h2:(if c<0 then-(c+1)else c)%(n:Int)<n:=Int.emod_lt_of_pos _ Ue;omega
def Ma (w:an)(c:Int)(n:Nat)(hc:L4 c)(h:0<n):Calls prog 32 #[aa c,aa n] w λe w'=>e= .returned (aa (ti c n))/\w'=w:=by
 obtain⟨c1,c2⟩:=hc
 have e0:((ti c n:Nat):Int)=(if c<0 then-(c+1)else c)%n:=by
  unfold ti;have h1:0<=(if c<0 then-(c+1)else c)%(n:Int):=Int.emod_nonneg _ Ue;omega
 generalize ti c n=q at*;have HE:Hid _:=e0;clear e0
 by_cases hl:c<0
 ·go_in
  go_wp2;go_ret;rw[HE.out,dE hl,<-Int.neg_tmod,Int.tmod_eq_emod_of_nonneg Ue];exact⟨rfl,rfl⟩
 ·go_in
  go_wp2;go_ret;rw[HE.out,dD Ue];exact⟨rfl,rfl⟩
def rM (raw:List Int)(i n:Nat):Nat:=ti ((raw[i]?).getD 0) n
structure Gv (w:an)(Z:ap)(gb:Nat)(raw:List Int)(i:Nat):Prop where
 rng:∀x∈raw,L4 x
 few:raw.length<1099511627776
 at_:∃rv,dM w gb #[rv,aa i] 73/\jj w Z rv raw.length (raw.map λx=>aa x)
 ne:¬Z gb
def Gv.keep {w w':an}{Z:ap}{gb i:Nat}{raw:List Int}(h:Gv w Z gb raw i)(hg:w'.heap[gb]?=w.heap[gb]?)(hk:∀b,Z b->b<w.heap.size->w'.heap[b]?=w.heap[b]?):Gv w' Z gb raw i:=by
 obtain⟨h1,h0,⟨rv,h2,h3⟩,h4⟩:=h;exact⟨h1,h0,⟨rv,hg.trans h2,h3.keep hk⟩,h4⟩
def yB (w:an)(Z:ap)(gb:Nat)(raw:List Int)(i n:Nat)(hG:Gv w Z gb raw i)(h:0<n)(hi:i<1099511627776):Calls prog 60 #[ag gb,aa n] w λe w'=>e= .returned (aa (rM raw i n))/\Gv w' Z gb raw (i+1)/\dX [gb] w w':=by
 obtain⟨hr,hf,⟨rv,hb,Uq⟩,hz⟩:=hG;obtain⟨a,c,rfl⟩:=Uq.form;have⟨k1,k2⟩:=hb.rules
 have e1:wrap64 ((i:Int)+1)=((i+1:Nat):Int):=by
  simp only[wrap64];omega
 have Ur:∀W,aj w W->Gv (W.setCell (ai gb 1) (aa ((i+1:Nat):Int))) Z gb raw (i+1)/\dX [gb] w (W.setCell (ai gb 1) (aa ((i+1:Nat):Int))):=λW hW=>
  ⟨⟨hr,hf,⟨_,by have:=(hb.below hW hb.lt).set 1 (aa ((i+1:Nat):Int));simpa using this,Uq.keep λb q l=>(by rw[dK,dD (show¬gb=b from λe=>hz (by rw[e];exact q))];exact hW.block b l)⟩,hz⟩,(dX.of_below hW).set1 Uf _ _⟩
 have HF:Hid _:=Ur;clear Ur
 by_cases hl:i<raw.length
 ·obtain⟨ad,rfl,_,_,hc⟩:=Uq.at Ue;have hx:raw[i]?=some raw[i]:=aK hl;have hc1:=hc w rfl i (aa raw[i]) (by rw[aO,hx];rfl);have hp:=λW=>Ma W raw[i] n (hr _ (List.getElem_mem hl)) h
  have e2:rM raw i n=ti raw[i] n:=by unfold rM;rw[hx];rfl
  rw[e2];generalize raw[i]=x at*;have Ut:(i:Int)<(raw.length:Int):=Ue;clear hb Uq hc hx e2;go_in
  go_upto_region 2 with fail
  go_quiet (fail)
  go_wp2;go_quiet (fail)
  go_wp2_with fail;refine(hp _).mono ?_;rintro e w2 ⟨rfl,rfl⟩;go_wp2;go_ret;exact⟨rfl,HF.out _ (ie (Below.refl _ _) _)⟩
 ·have hp:=λW=>Ma W 0 n ⟨Uh,Uh⟩ h
  have e2:rM raw i n=ti 0 n:=by unfold rM;rw[aY Ue];rfl
  rw[e2];have Ut:¬(i:Int)<(raw.length:Int):=Ue;clear hb Uq e2;go_in
  go_upto_region 2 with fail
  go_quiet (fail)
  go_wp2_with fail;refine(hp _).mono ?_;rintro e w2 ⟨rfl,rfl⟩;go_wp2;go_ret;exact⟨rfl,HF.out _ (ie (Below.refl _ _) _)⟩
def gB (n:Nat):List UInt8:= [UInt8.ofNat (48+n)]
def tj (w:an)(n:Nat)(hn:n<10):Calls prog 61 #[aa n] w λe w'=>e= .returned (ae (bl (gB n)))/\aj w w':=by
 have h1:¬(9:Int)<(n:Int):=Ue
 have Us:=run_convert_bytes_back (P:=prog) (w.alloc (ak #[.int .u8 (48+n)] 5)) 140 9 5 (ai w.heap.size 0) 1 (gB n) underlying140 underlying5 underlying9 λj hj=>by
  have hj:j<1:=hj;obtain rfl:j=0:=Ue;have:=(dM.new w #[.int .u8 (48+n)] 5).cell 0;rw[Nx,this];simp[gB];omega
 have hcv':(convert 140 9 (Ub w.heap.size 1 1)).run prog (w.alloc (ak #[.int .u8 (48+n)] 5))= .ok (ae (bl (gB n))) (w.alloc (ak #[.int .u8 (48+n)] 5)):=Us;clear Us;generalize bl (gB n)=s at*;go_in
 go_wp2;go_ret;exact⟨rfl,(Below.refl _ _).alloc (ay _) _⟩
def Se:List (List UInt8):= [[105,110,116,51,50],[105,110,116,54,52],[117,105,110,116,51,50],[117,105,110,116,54,52],[115,105,110,116,51,50],[115,105,110,116,54,52],[98,111,111,108],[102,105,120,101,100,51,50],[102,105,120,101,100,54,52],[115,102,105,120,101,100,51,50],[115,102,105,120,101,100,54,52],[102,108,111,97,116],[100,111,117,98,108,101],[115,116,114,105,110,103],[98,121,116,101,115],[69]]
def gC (t:Nat):List UInt8:=if 15<t then 77::gB (t-16)else(Se[t]?).getD []
def Sf:Array Value:=(Se.map λs=>ae (bl s)).toArray
def Oz (w:an):Calls prog 105 #[] w λe w'=>∃b,e= .returned (Ub b 16 16)/\dM w' b Sf 9/\aj w w':=by
 go_in
 go_wp2;go_ret;exact⟨_,rfl,dM.new w Sf 9,(Below.refl _ _).alloc (ay _) _⟩
def QF {t:Nat}(h:t<16):Sf[t]?=some (ae (bl (gC t))):=by
 unfold gC Sf;rw[dD Ue];have:∀t:Fin 16,Se[t.val]?=some ((Se[t.val]?).getD []):=Uh;have h2:=this ⟨t,h⟩;simp only[cG,aO];rw[h2];rfl
def Mb (w:an)(t:Nat)(ht:t<25):Calls prog 62 #[aa t] w λe w'=>e= .returned (ae (bl (gC t)))/\aj w w':=by
 by_cases h:15<t
 ·have hd:=tj w (t-16) Ue;rw[show((t-16:Nat):Int)=(t:Int)-16 by omega]at hd;have e2:gC t=77::gB (t-16):=by unfold gC;rw[dE h]
  have h1:(15:Int)<(t:Int):=Ue;have hz:(bl (gB (t-16))).size=1:=by rw[fK];rfl
  rw[e2,show(77::gB (t-16))= [77]++gB (t-16)from rfl,oJ];generalize bl (gB (t-16))=s at*;go_in
  go_wp2_with fail;refine hd.mono ?_;rintro e w2 ⟨rfl,b2⟩;clear hd e2;go_wp2;go_ret;exact⟨rfl,b2⟩
 ·have hT:=Oz w;have hx:=QF (show t<16 by omega);have h1:¬(15:Int)<(t:Int):=Ue;generalize bl (gC t)=s at*;go_in
  go_wp2_with fail;refine hT.mono ?_;rintro e w2 ⟨b,rfl,hb,b2⟩;have hc:=(hb.cell t).trans hx;clear hx hT hb;go_wp2;go_ret;exact⟨rfl,b2⟩
abbrev F3:=Nat×Nat×Nat
def Mc (f:F3):List Value:= [.int .i64 f.1,.int .i64 f.2.1,.int .i64 f.2.2]
def qO:List Nat:= [0,1,2,3,4,5,6,7,8,9,10,13]
abbrev QG:Array Value:= #[.int .i64 0,.int .i64 1,.int .i64 2,.int .i64 3,.int .i64 4,.int .i64 5,.int .i64 6,.int .i64 7,.int .i64 8,.int .i64 9,.int .i64 10,.int .i64 13]
def OA:QG=(qO.map λk:Nat=>Value.int .i64 (k:Int)).toArray:=rfl
def yZ (raw:List Int)(n a:Nat):F3×Nat:=
 if rM raw (a+1) 5=4 then((rM raw a (16+n),4,(qO[rM raw (a+2) 12]?).getD 0),a+3)else((rM raw a (16+n),rM raw (a+1) 5,0),a+2)
def pY (raw:List Int)(n a:Nat):Nat->List F3×Nat
 |0=>([],a)
 |j+1=>((pY raw n a j).1++ [(yZ raw n (pY raw n a j).2).1],(yZ raw n (pY raw n a j).2).2)
def nH (raw:List Int)(n:Nat):Nat->List (List F3)×Nat
 |0=>([],1)
 |i+1=>((nH raw n i).1++ [(pY raw n ((nH raw n i).2+1) (rM raw (nH raw n i).2 7+1)).1],(pY raw n ((nH raw n i).2+1) (rM raw (nH raw n i).2 7+1)).2)
def rK (raw:List Int):List (List F3):=(nH raw (1+rM raw 0 3) (1+rM raw 0 3)).1
def tm (raw:List Int)(n a:Nat):∀j,(pY raw n a j).1.length=j/\(pY raw n a j).2<=a+3*j
 |0=>⟨rfl,ay _⟩
 |j+1=>by
  have:=tm raw n a j;rw[pY];refine⟨by simp[this.1],?_⟩;show(yZ raw n (pY raw n a j).2).2<=_;unfold yZ
  split<;>simp only<;>omega
def tq (raw:List Int)(n:Nat):∀i,(nH raw n i).1.length=i/\(nH raw n i).2<=1+30*i
 |0=>⟨rfl,ay _⟩
 |i+1=>by
  have:=tq raw n i;rw[nH];have h2:=(tm raw n ((nH raw n i).2+1) (rM raw (nH raw n i).2 7+1)).2;have h3:rM raw (nH raw n i).2 7<7:=nl _ Uh;refine⟨by simp[this.1],?_⟩;simp only;omega
def gS {w:World}{c off b:Nat}(v:Value)(h:c≠b):(w.setCell ⟨c,off,none⟩ v).heap[b]?=w.heap[b]?:=by rw[dK,dD h]
def dX.fresh1 {bs:List Nat}{a b:World}(h:dX bs a b){c:Nat}(hc:a.heap.size<=c)(off:Nat)(u:Value):dX bs a (b.setCell ⟨c,off,none⟩ u):=
 ⟨h.os,h.tape,h.output,by simpa using h.size,λi hi hn=>(gS _ Ue).trans (h.block i hi hn)⟩
def dX.grown {bs:List Nat}{a b c:World}{row:Option Nat}(h:dX bs a b)(hg:b.grownBy c row)(hr:∀g,row=some g->a.heap.size<=g):dX bs a c:=
 ⟨hg.os.trans h.os,hg.tape.trans h.tape,hg.output.trans h.output,aG h.size hg.size,λi hi hn=>(hg.block i (aD hi h.size) (λe=>by have:=hr i e.symm;omega)).trans (h.block i hi hn)⟩
def OB (w:World)(Y:Nat->Prop)(vs:List Value)(L:List (List F3)):Prop:=vs.length=L.length/\∀(p:Nat) (fs:List F3) (v:Value),L[p]?=some fs->vs[p]?=some v->jj w Y v fs.length (fs.flatMap Mc)
def OB.keep {w w':World}{Y:Nat->Prop}{vs:List Value}{L:List (List F3)}(h:OB w Y vs L)(hk:∀b,Y b->b<w.heap.size->w'.heap[b]?=w.heap[b]?):OB w' Y vs L:=⟨h.1,λp fs v h1 h2=>(h.2 p fs v h1 h2).keep hk⟩
def OB.snoc {w w':World}{Y Y':Nat->Prop}{vs:List Value}{L:List (List F3)}(h:OB w Y vs L){v:Value}{fs:List F3}(hv:jj w' Y' v fs.length (fs.flatMap Mc))(hk:∀b,Y b->b<w.heap.size->w'.heap[b]?=w.heap[b]?)(hy:∀b,Y b->b<w'.heap.size->b<w.heap.size->Y' b):OB w' Y' (vs++ [v]) (L++ [fs]):=by
 refine⟨by simp[h.1],λp gs u h1 h2=> ?_⟩
 by_cases hp:p<L.length
 ·rw[cp hp]at h1;rw[cp (by rw[h.1];exact hp)]at h2;have q:=h.2 p gs u h1 h2;exact(q.mono (Y:=λb=>Y b/\b<w.heap.size) λb y l=>⟨y,l⟩).keep (λb y l=>hk b y.1 l)|>.mono λb y l=>hy b y.1 l y.2
 ·rw[cg Ue]at h1;rw[cg (by rw[h.1];omega),h.1]at h2
  cases hq:p-L.length with
  |zero=>rw[hq]at h1 h2;cases h1;cases h2;exact hv
  |succ k=>rw[hq]at h1;cases h1
def Tryz.infoK1:(prog.info? 137).map (λi=>(i.zero,i.size,i.bytes))=some (some (.agg #[.int .i64 0,.int .i64 0,.int .i64 0]),3,24):=Uj
def Tryz.infoK2:(prog.info? 135).map (λi=>(i.zero,i.size,i.bytes))=some (some (.slice none 0 0),1,24):=Uj
def OC (w:World)(rv:Value)(raw:List Int)(hr:∀x∈raw,L4 x)(hf:raw.length<1099511627776)(Ur:jj w (λb=>b<w.heap.size) rv raw.length (raw.map λx=> .int .i64 x)):
  Calls prog 28 #[rv] w λe w'=>∃v Y vs,e= .returned (.agg #[v])/\jj w' Y v (rK raw).length vs/\OB w' Y vs (rK raw)/\(∀b,Y b->w.heap.size<=b)/\Below w.heap.size w w':=by
 obtain⟨ra,rc,rfl⟩:=Ur.form;obtain⟨LL,HL⟩:∃LL,Hid (rK raw=LL):=⟨_,rfl⟩;rw[HL.out];have⟨i1,U1,U2,U3,U4⟩:=info_parts Tryz.infoK1;have⟨i2,U5,U6,U7,U8⟩:=info_parts Tryz.infoK2;have B3:Below w.heap.size w (((w.alloc (Obj.cells #[.slice none 0 0] 68)).alloc (Obj.cells #[.slice ra raw.length rc,.int .i64 0] 73)).alloc (Obj.cells #[.slice none 0 0] 68)):=((Ud w _).alloc Uf _).alloc Ug _;have KR:dM (((w.alloc (Obj.cells #[.slice none 0 0] 68)).alloc (Obj.cells #[.slice ra raw.length rc,.int .i64 0] 73)).alloc (Obj.cells #[.slice none 0 0] 68)) w.heap.size #[.slice none 0 0] 68:=((dM.new _ _ _).alloc _).alloc _;have KG:dM (((w.alloc (Obj.cells #[.slice none 0 0] 68)).alloc (Obj.cells #[.slice ra raw.length rc,.int .i64 0] 73)).alloc (Obj.cells #[.slice none 0 0] 68)) (w.heap.size+1) #[.slice ra raw.length rc,.int .i64 0] 73:=(by simpa using dM.new (w.alloc (Obj.cells #[.slice none 0 0] 68)) #[.slice ra raw.length rc,.int .i64 0] 73:dM _ _ _ _).alloc _;have KS:dM (((w.alloc (Obj.cells #[.slice none 0 0] 68)).alloc (Obj.cells #[.slice ra raw.length rc,.int .i64 0] 73)).alloc (Obj.cells #[.slice none 0 0] 68)) (w.heap.size+1+1) #[.slice none 0 0] 68:=by simpa using dM.new ((w.alloc (Obj.cells #[.slice none 0 0] 68)).alloc (Obj.cells #[.slice ra raw.length rc,.int .i64 0] 73)) #[.slice none 0 0] 68
 have G3:Gv (((w.alloc (Obj.cells #[.slice none 0 0] 68)).alloc (Obj.cells #[.slice ra raw.length rc,.int .i64 0] 73)).alloc (Obj.cells #[.slice none 0 0] 68)) (λb=>b<w.heap.size) (w.heap.size+1) raw 0:=⟨hr,hf,⟨_,KG,Ur.keep λb q _=>B3.block b q⟩,Ue⟩;clear Ur KG;go_in
 go_wp2_with fail;generalize((w.alloc (Obj.cells #[.slice none 0 0] 68)).alloc (Obj.cells #[.slice ra raw.length rc,.int .i64 0] 73)).alloc (Obj.cells #[.slice none 0 0] 68)=w3 at*;refine(yB w3 _ _ raw 0 3 G3 Uh Uh).mono ?_;rintro e w4 ⟨rfl,G4,k4⟩;have B4:Below w.heap.size w w4:=B3.trans (k4.to_below B3.size λx hx=>by simp at hx;omega);have R4:=KR.kept k4 Uf;have S4:=KS.kept k4 Uf;obtain⟨n,HN⟩:∃n,Hid ((1:Int)+(rM raw 0 3:Nat)=(n:Nat)/\1+rM raw 0 3=n):=⟨_,Ue,rfl⟩;have hn3:1<=n/\n<4:=by have:=HN.out.2;have:=nl ((raw[0]?).getD 0) (show 0<3 by decide);unfold rM at*;omega
 have UT:(rM raw 0 3:Int)<3:=by have:=HN.out.2;omega
 have HD:Hid (LL=(nH raw n n).1):=by rw[<-HL.out];unfold rK;rw[HN.out.2];exact rfl
 clear G3 B3 KR KS k4;go_wp2_with fail;rw[HN.out.1];clear UT;go_loopw [6] (λiv wr=>∃(i:Nat) (Lv:Value) (vs:List Value),i<=n/\iv= .int .i64 i/\dM wr (w.heap.size+1+1) #[Lv] 68/\dM wr w.heap.size #[.slice none 0 0] 68/\eD wr (λb=>w.heap.size+1+1<b) 135 1 Lv i vs/\OB wr (λb=>w.heap.size+1+1<b/\some b≠Lv.ownBlock) vs (nH raw n i).1/\Gv wr (λb=>b<w.heap.size) (w.heap.size+1) raw (nH raw n i).2/\Below w.heap.size w wr) (λiv _=>n-(intOf iv).toNat)
 case atStart=>exact⟨0,_,[],aL _,rfl,S4,R4,eD.nil _ _ _ _,⟨rfl,λp fs v h=>by cases h⟩,G4,B4⟩
 obtain⟨i,Lv,vs,hin,rfl,KS,KR,Ur,UC,hG,hB⟩:=hrel;clear S4 R4 G4 B4;obtain⟨sa,sc,rfl⟩:=iD Ur.1;have⟨s1,s2⟩:=KS.rules
 by_cases hli:i<n
 ·have UU:(i:Int)<(n:Int):=Ue;have UV:=tq raw n i;obtain⟨a,HA⟩:∃a,Hid ((nH raw n i).2=a):=⟨_,rfl⟩;rw[HA.out]at hG UV;have HC:=yB wr _ _ raw a 7 hG Uh Ue;obtain⟨kk,HK⟩:∃kk,Hid (rM raw a 7=kk):=⟨_,rfl⟩;have hk7:kk<7:=by rw[<-HK.out];exact nl _ Uh
  rw[HK.out]at HC;go_wp2_with fail;refine HC.mono ?_;rintro e w5 ⟨rfl,G5,k5⟩;clear HC s1 s2 hG;have B5:Below w.heap.size w w5:=hB.trans (k5.to_below hB.size λx hx=>by simp at hx;omega);have S5:=KS.kept k5 Uf;have R5:=KR.kept k5 Uf;have Ut:=Ur.keep (w':=w5) λb q l=>k5.block b l Ug
  have UN:=UC.keep (w':=w5) λb q l=>k5.block b l Ug
  clear KS KR Ur UC k5 hB;go_wp2;go_loopw [7,8] (λlv kv wx=>∃j:Nat,j<=kk+1/\kv= .int .i64 ((kk:Int)-j)/\eD wx (λb=>w5.heap.size<=b) 137 3 lv j ((pY raw n (a+1) j).1.flatMap Mc)/\Gv wx (λb=>b<w.heap.size) (w.heap.size+1) raw (pY raw n (a+1) j).2/\dX [w.heap.size+1] w5 wx) (λ_ kv _=>(intOf kv+1).toNat)
  case atStart=>exact⟨0,aL _,Uf,eD.nil _ _ _ _,G5,dX.refl _ _⟩
  obtain⟨j,hjk,rfl,hl,hG,hk⟩:=hrel;have hsz:=hk.size;obtain⟨la,lc,rfl⟩:=iD hl.1;have UE:=tm raw n (a+1) j;obtain⟨c,UD⟩:∃c,Hid ((pY raw n (a+1) j).2=c):=⟨_,rfl⟩;obtain⟨xs,HX⟩:∃xs,Hid ((pY raw n (a+1) j).1=xs):=⟨_,rfl⟩;rw[UD.out]at hG UE;rw[HX.out]at hl UE
  by_cases hjl:j<kk+1
  ·have UW:(0:Int)<=(kk:Int)-j:=Ue;have HC:=yB wr _ _ raw c (16+n) hG Ue Ue;rw[show((16+n:Nat):Int)=16+n by omega]at HC;obtain⟨t,HT⟩:∃t,Hid (rM raw c (16+n)=t):=⟨_,rfl⟩;rw[HT.out]at HC;go_wp2_with fail;refine HC.mono ?_;rintro e w6 ⟨rfl,G6,k6⟩;have HC:=yB w6 _ _ raw (c+1) 5 G6 Ue Ue;obtain⟨q,HQ⟩:∃q,Hid (rM raw (c+1) 5=q):=⟨_,rfl⟩;rw[HQ.out]at HC;go_wp2_with fail;refine HC.mono ?_;rintro e w7 ⟨rfl,G7,k7⟩;have UF:=hk.trans (k6.trans k7);have s7:=UF.size;have UO:=(hl.keep (w':=w7) λb q l=>(k6.trans k7).block b l (by simp;have:=S5.lt;omega)).mono (S':=λb=>w5.heap.size<=b/\b<w7.heap.size) λb q l=>⟨q,l⟩
   clear HC hG G6 k6 k7 hk hl hsz;have⟨B8,N8⟩:=dS w7 #[.int .i64 t,.int .i64 q,.int .i64 0] 137;have G8:=G7.keep (w':=w7.alloc (Obj.cells #[.int .i64 t,.int .i64 q,.int .i64 0] 137)) (B8.block _ (by have:=S5.lt;omega)) λb q l=>B8.block b l
   have UG:=UO.keep (w':=w7.alloc (Obj.cells #[.int .i64 t,.int .i64 q,.int .i64 0] 137)) λb q l=>B8.block b l
   have UH:=UF.below B8;clear G7 UO UF;have⟨r1,r2⟩:=N8.rules;go_upto_if 36 with fail
   clear r1 r2;generalize w7.alloc (Obj.cells #[.int .i64 t,.int .i64 q,.int .i64 0] 137)=w8 at*;go_cut []from 37 to 42 (λwx=>∃(ky d:Nat),Hid (yZ raw n c=((t,q,ky),d))/\dM wx w7.heap.size #[.int .i64 t,.int .i64 q,.int .i64 ky] 137/\Gv wx (λb=>b<w.heap.size) (w.heap.size+1) raw d/\eD wx (λb=>w5.heap.size<=b/\b<w7.heap.size) 137 3 (.slice la j lc) j (xs.flatMap Mc)/\dX [w.heap.size+1] w5 wx)
   case first=>
    by_cases h4:q=4
    ·subst h4;have⟨B9,N9⟩:=dS w8 QG 3;have G9:=G8.keep (w':=w8.alloc (Obj.cells QG 3)) (B9.block _ (by have:=S5.lt;have:=N8.lt;omega)) λb q l=>B9.block b l
     have HC:=yB _ _ _ raw (c+1+1) 12 G9 Uh Ue;obtain⟨z,HZ⟩:∃z,Hid (rM raw (c+1+1) 12=z):=⟨_,rfl⟩;have hz:z<12:=by rw[<-HZ.out];exact nl _ Uh
     rw[HZ.out]at HC;have UP:∀z:Fin 12,qO[z.val]?=some ((qO[z.val]?).getD 0):=Uh;have UA:=UP ⟨z,hz⟩;obtain⟨ky,HY⟩:∃ky,Hid ((qO[z]?).getD 0=ky):=⟨_,rfl⟩;simp only at UA;rw[HY.out]at UA;go_wp2_with fail;refine HC.mono ?_;rintro e w9 ⟨rfl,UI,Ux⟩;have UB:=N9.kept Ux (by simp;have:=S5.lt;have:=N8.lt;omega);have UQ:=(N8.below B9 N8.lt).kept Ux (by simp;have:=S5.lt;omega);have hc:=UB.cell z;rw[OA,cG,aO,UA]at hc;have hc:w9.cell? ⟨w8.heap.size,z,none⟩=some (.int .i64 ky):=hc;have⟨r1,r2⟩:=UQ.rules;clear HC UP UA;go_wp2;go_meet
     case rel=>exact⟨ky,_,by show yZ raw n c=_;unfold yZ;rw[HQ.out,dE rfl,HT.out,HZ.out,HY.out],by have:=UQ.set 2 (.int .i64 ky);simpa using this,UI.keep (gS _ (by have:=S5.lt;omega)) (λb q l=>gS _ (by have:=S5.lt;omega)),((UG.keep λb q l=>B9.block b l).keep λb q l=>Ux.block b l (by simp;have:=S5.lt;omega)).keep λb q l=>gS _ Ue,((UH.below B9).trans Ux).fresh1 Ue _ _⟩
    ·have e4:((q:Int)==4)=false:=Ug;go_wp2;go_meet
     case rel=>exact⟨0,_,by show yZ raw n c=_;unfold yZ;rw[HQ.out,dD h4,HT.out],N8,G8,UG,UH⟩
   case rest=>
    obtain⟨ky,d,HF,N9,G9,US,k9⟩:=hcut;have s9:=k9.size;have⟨Uy,UB⟩:=dS wc #[.int .i64 t,.int .i64 q,.int .i64 ky] 137;have Us:=US.keep (w':=wc.alloc (Obj.cells #[.int .i64 t,.int .i64 q,.int .i64 ky] 137)) λb q l=>Uy.block b l
    have Ux:=k9.below Uy;have UI:=G9.keep (w':=wc.alloc (Obj.cells #[.int .i64 t,.int .i64 q,.int .i64 ky] 137)) (Uy.block _ (by have:=S5.lt;omega)) λb q l=>Uy.block b l
    have UJ:∀j u,(Mc (t,q,ky))[j]?=some u->(wc.alloc (Obj.cells #[.int .i64 t,.int .i64 q,.int .i64 ky] 137)).cell? ((⟨wc.heap.size,0,none⟩:Addr).add j)=some u:=λj u hu=>br UB j u (by simpa [Mc]using hu)
    have⟨r1,r2⟩:=N9.rules;clear G9 US k9 B8 N8 G8 UG UH UB Uy;go_wp2_with (at_builtin;refine wpList_append_lies _ rfl _ _ 135 rfl 0 137 i1 _ 3 24 underlying135 U1 U2 U3 U4 rfl Ue (.slice la j lc) j (xs.flatMap Mc) rfl Us.1 ⟨wc.heap.size,0,none⟩ 1 1 (Mc (t,q,ky)) rfl rfl UJ (by intro u hu;simp[Mc]at hu;rcases hu with rfl|rfl|rfl<;>rfl) Ue Ul Ue Ue _ rfl ?_;intro g cap UM Uw Uq Uz U9)
    have z7:=S5.lt;have e10:(wc.alloc (Obj.cells #[.int .i64 t,.int .i64 q,.int .i64 ky] 137)).heap.size=wc.heap.size+1:=Uf;refine⟨⟨j+1,Ue,Ug,⟨?_,?_⟩,?_,?_⟩,by simp[intOf];omega⟩
    ·rw[pY,HX.out,UD.out,HF.out];simpa using Uw
    ·intro b hb;have hb:some g=some b:=hb;obtain rfl:=Option.some.inj hb
     rcases Uz with h|h
     ·exact(Us.2 _ h).1
     ·omega
    ·rw[pY,HX.out,UD.out,HF.out];exact UI.keep (Uq.block _ Ue (λe=>by have:=Us.2 _ e.symm;omega)) λb q l=>Uq.block b l (λe=>by have:=Us.2 _ e.symm;omega)
    ·exact Ux.grown Uq λg hg=>(Us.2 g hg).1
  ·obtain rfl:j=kk+1:=Ue;have UW:¬(0:Int)<=(kk:Int)-((kk+1:Nat):Int):=Ue;have z7:=S5.lt;have S6:=S5.kept hk Uf;have R6:=R5.kept hk Uf;have UK:=Ut.keep (w':=wr) λb q l=>hk.block b l Ug
   have UX:=UN.keep (w':=wr) λb q l=>hk.block b l Ug
   have B6:Below w.heap.size w wr:=B5.trans (hk.to_below B5.size λx hx=>by simp at hx;omega);have⟨B7,N7⟩:=dS wr #[.slice la (kk+1) lc] 135;have UL:=UK.keep (w':=wr.alloc (Obj.cells #[.slice la (kk+1) lc] 135)) λb q l=>B7.block b l
   have UY:=UX.keep (w':=wr.alloc (Obj.cells #[.slice la (kk+1) lc] 135)) λb q l=>B7.block b l
   have G7:=hG.keep (w':=wr.alloc (Obj.cells #[.slice la (kk+1) lc] 135)) (B7.block _ Ue) λb q l=>B7.block b l
   have l7:=(hl.mono (S':=λb=>w5.heap.size<=b/\b<wr.heap.size) λb q l=>⟨q,l⟩).keep (w':=wr.alloc (Obj.cells #[.slice la (kk+1) lc] 135)) λb q l=>B7.block b l
   have UZ:∀j u,[Value.slice la (kk+1) lc][j]?=some u->(wr.alloc (Obj.cells #[.slice la (kk+1) lc] 135)).cell? ((⟨wr.heap.size,0,none⟩:Addr).add j)=some u:=λj u hu=>br N7 j u (by simpa using hu)
   have Uu:∀b,(Value.slice sa i sc).ownBlock=some b->b<w5.heap.size/\w.heap.size+1+1<b:=λb hb=>⟨(Ut.1.lt b hb).2,Ut.2 b hb⟩
   have UR:some (w.heap.size+1+1)≠(Value.slice sa i sc).ownBlock:=λe=>by have:=Uu _ e.symm;omega
   have S7:=S6.below B7 S6.lt;have⟨r1,r2⟩:=S6.rules;clear hG hl S5 R5 Ut UN G5;go_wp2_with (at_builtin;refine wpList_append_lies _ rfl _ _ 66 rfl 0 135 i2 _ 1 24 underlying66 U5 U6 U7 U8 rfl Ue (.slice sa i sc) i vs rfl UL.1 ⟨wr.heap.size,0,none⟩ 1 1 [.slice la (kk+1) lc] rfl rfl UZ (by intro u hu;simp at hu;subst hu;rfl) Ue Ul Ue Ue _ rfl ?_;intro g cap UM Uw Uq Uz U9;have⟨o1,o2⟩:=(S7.grown Uq UR).rules)
   have e10:(wr.alloc (Obj.cells #[.slice la (kk+1) lc] 135)).heap.size=wr.heap.size+1:=Uf
   have U0:w.heap.size+1+1<g:=by
    rcases Uz with h|h
    ·exact(Uu _ h).2
    ·omega
   have Uv:∀b,b<wr.heap.size+1->b≠w.heap.size+1+1->(Value.slice sa i sc).ownBlock≠some b->(UM.setCell ⟨w.heap.size+1+1,0,none⟩ (.slice (some ⟨g,0,none⟩) (i+1) cap)).heap[b]?=(wr.alloc (Obj.cells #[.slice la (kk+1) lc] 135)).heap[b]?:=λb h1 h2 h3=>(gS _ Ue).trans (Uq.block b Ue (λe=>h3 e.symm))
   refine⟨⟨i+1,.slice (some ⟨g,0,none⟩) (i+1) cap,_,Ue,by go_num,?_,?_,⟨d6 Uw (λb hb=>gS _ ?_),?_⟩,?_,?_,?_⟩,by simp[intOf];omega⟩
   ·have:=(S7.grown Uq UR).set 0 (.slice (some ⟨g,0,none⟩) (i+1) cap);simpa using this
   ·exact(Uv _ Ue Ue (λe=>by have:=Uu _ e;omega)).trans (R6.below B7 R6.lt)
   ·have hb:some g=some b:=hb;obtain rfl:=Option.some.inj hb;omega
   ·intro b hb;have hb:some g=some b:=hb;obtain rfl:=Option.some.inj hb;exact U0
   ·rw[nH,HA.out,HK.out,HX.out];refine UY.snoc ?_ (λb q l=>Uv b Ue Ue (λe=>q.2 e.symm)) (λb q l l2=>⟨q.1,λe=> ?_⟩)
    ·rw[show xs.length=kk+1 from UE.1];refine(l7.keep (w':=UM.setCell ⟨w.heap.size+1+1,0,none⟩ (.slice (some ⟨g,0,none⟩) (i+1) cap)) λb q l=>Uv b Ue Ue (λe=>by have:=Uu _ e;omega)).rd.mono λb q l=>⟨Ue,λe=> ?_⟩
     have e:some b=some g:=e;obtain rfl:=Option.some.inj e
     rcases Uz with h|h
     ·have:=Uu _ h;omega
     ·omega
    ·have e:some b=some g:=e;obtain rfl:=Option.some.inj e
     rcases Uz with h|h
     ·exact q.2 h.symm
     ·omega
   ·rw[nH,HA.out,HK.out,UD.out];exact G7.keep (Uv _ Ue Ue (λe=>by have:=Uu _ e;omega)) λb q l=>Uv b Ue Ue (λe=>by have:=Uu _ e;omega)
   ·exact(((B6.trans (B7.mono B6.size)).grown Uq Ue (λj hj=>by have:=Uu _ hj;omega))).setCell (p:=⟨w.heap.size+1+1,0,none⟩) (by show _<=w.heap.size+1+1;omega) _
 ·obtain rfl:i=n:=Ue;have UU:¬(i:Int)<(i:Int):=Ue;have⟨r1,r2⟩:=KR.rules;go_wp2;have K:=KR.set 0 (.slice sa i sc);have Uv:∀b,b≠w.heap.size->(wr.setCell ⟨w.heap.size,0,none⟩ (.slice sa i sc)).heap[b]?=wr.heap[b]?:=λb h=>gS _ Ue
  refine dG (ec results28 _ _ rfl K underlying68 Uj) rfl ⟨_,rfl,λb=>w.heap.size<b,vs,?_,?_,λb q=>ck q,hB.setCell (p:=⟨w.heap.size,0,none⟩) (ay _) _⟩
  ·rw[HD.out,(tq raw i i).1];exact(Ur.rd.keep λb q l=>Uv b Ue).mono λb q l=>Ue
  ·rw[HD.out];exact⟨UC.1,λp fs v h1 h2=>((UC.2 p fs v h1 h2).keep λb q l=>Uv b Ue).mono λb q l=>Ue⟩
def Pa (k:Nat):List UInt8:=gB k++ [32,61,32]++gB (k+1)++ [59,32]
def ID (k:Nat)(f:F3):List UInt8:=gC f.1++ [32,102]++Pa k
def Pb (k:Nat)(f:F3):List UInt8:=
 if f.2.1=0 then ID k f
 else if f.2.1=1 then [114,101,112,101,97,116,101,100,32]++ID k f
 else if f.2.1=2 then [111,112,116,105,111,110,97,108,32]++ID k f
 else if f.2.1=3 then []
 else [109,97,112,60]++gC f.2.2++ [44]++gC f.1++ [62,32,102]++Pa k
def Md (k:Nat)(f:F3):List UInt8:=if f.2.1=3 then ID k f else []
def vA (fs:List F3):Nat->List UInt8
 |0=> []
 |k+1=>vA fs k++Pb k ((fs[k]?).getD (0,0,0))
def oX (fs:List F3):Nat->List UInt8
 |0=> []
 |k+1=>oX fs k++Md k ((fs[k]?).getD (0,0,0))
def QH (i:Nat)(fs:List F3):List UInt8:=
 [109,101,115,115,97,103,101,32,77]++gB i++ [32,123]++vA fs fs.length++(if oX fs fs.length= []then []else [111,110,101,111,102,32,111,32,123,32]++oX fs fs.length++ [125])++ [125,10]
def vB (L:List (List F3)):Nat->List UInt8
 |0=> [101,110,117,109,32,69,32,123,32,65,32,61,32,48,59,32,125,10]
 |i+1=>vB L i++QH i ((L[i]?).getD [])
def pZ (L:List (List F3)):am:=bl (vB L L.length)
structure QI (L:List (List F3)):Prop where
 few:1<=L.length/\L.length<=3
 fs:∀fs∈L,1<=fs.length/\fs.length<=7/\∀f∈fs,f.1<16+L.length/\f.2.1<5/\f.2.2∈qO/\(f.2.1≠4->f.2.2=0)
def OD (z:Nat):(qO[z]?).getD 0∈qO:=by
 cases h:qO[z]? with
 |none=>decide
 |some x=>exact aI h
def GQ (raw:List Int)(n a:Nat)(hn:0<n):∀j,∀f∈(pY raw n a j).1,f.1<16+n/\f.2.1<5/\f.2.2∈qO/\(f.2.1≠4->f.2.2=0)
 |0,f,h=>by cases h
 |j+1,f,h=>by
  rw[pY]at h
  rcases aR.1 h with h|h
  ·exact GQ raw n a hn j f h
  ·obtain rfl:=bn.1 h;have h1:∀a,rM raw a (16+n)<16+n:=λa=>nl _ Ue
   have h2:∀a,rM raw a 5<5:=λa=>nl _ Ue
   unfold yZ
   split
   ·exact⟨h1 _,(by decide:4<5),OD _,λh=>absurd rfl h⟩
   ·exact⟨h1 _,h2 _,(by decide:0∈qO),λ_=>rfl⟩
def GR (raw:List Int)(n:Nat)(hn:0<n):∀i,∀fs∈(nH raw n i).1,1<=fs.length/\fs.length<=7/\∀f∈fs,f.1<16+n/\f.2.1<5/\f.2.2∈qO/\(f.2.1≠4->f.2.2=0)
 |0,fs,h=>by cases h
 |i+1,fs,h=>by
  rw[nH]at h
  rcases aR.1 h with h|h
  ·exact GR raw n hn i fs h
  ·obtain rfl:=bn.1 h;have h3:rM raw (nH raw n i).2 7<7:=nl _ Uh;rw[(tm raw n _ _).1];exact⟨Ue,Ue,GQ raw n _ hn _⟩
def Me (raw:List Int):QI (rK raw):=by
 have h:rM raw 0 3<3:=nl _ Uh;have hl:=(tq raw (1+rM raw 0 3) (1+rM raw 0 3)).1;unfold rK;refine⟨by rw[hl];omega,?_⟩;rw[hl];exact GR raw _ Ue _
def dig_len (n:Nat):(gB n).length=1:=rfl
def qC {t:Nat}(h:t<19):(gC t).length<=8:=by
 have:∀t:Fin 19,(gC t.val).length<=8:=Uh;exact this ⟨t,h⟩
def Mf {k:Nat}(h:k∈qO):k<16:=by
 have:∀k∈qO,k<16:=Uh;exact this k h
def QJ (w:an)(v:Value)(Y:ap)(vs:aq)(L:List (List F3))(hD:QI L)(hrow:jj w Y v L.length vs)(hDA:OB w Y vs L):
  Calls prog 29 #[.agg #[v]] w λe w'=>(e= .returned (ae (pZ L))/\(pZ L).size<=2000)/\aj w w':=by
 obtain⟨a,c,rfl⟩:=hrow.form;have⟨B1,K1⟩:=dS w #[.slice a L.length c] 68;obtain⟨T,HT⟩:∃T,Hid (pZ L=T):=⟨_,rfl⟩;rw[HT.out];go_in
 go_wp2_with fail;generalize w.alloc (ak #[.slice a L.length c] 68)=w1 at*;go_loopw [3,4] (λov iv wr=>∃(i:Nat) (o:am),i<=L.length/\iv=aa i/\ov=ae o/\Hid (o=bl (vB L i))/\o.size<=18+600*i/\aj w wr/\dM wr w.heap.size #[.slice a L.length c] 68) (λ_ iv _=>L.length-(intOf iv).toNat)
 case atStart=>exact⟨0,_,aL _,rfl,rfl,rfl,Uh,B1,K1⟩
 obtain⟨i,o,hin,rfl,rfl,HO,hos,hB,hK⟩:=hrel;have⟨r1,r2⟩:=hK.rules;have⟨f1,f2⟩:=hD.few
 by_cases hli:i<L.length
 ·have UJ:(i:Int)<(L.length:Int):=Ue;have HC:=tj wr i Ue;have UD:(bl (gB i)).size=1:=by rw[fK];rfl
  obtain⟨di,UF⟩:∃di,Hid (bl (gB i)=di):=⟨_,rfl⟩;rw[UF.out]at HC UD;go_wp2_with fail;refine HC.mono ?_;rintro e w2 ⟨rfl,b2⟩;have UK:=hK.below b2 hK.lt;have UL:=dI hB b2;have UE:Hid (o++⟨#[109,101,115,115,97,103,101,32,77]⟩++di++⟨#[32,123]⟩=bl (vB L i++([109,101,115,115,97,103,101,32,77]++gB i++ [32,123]))):=iX (by rw[HO.out,<-UF.out,ir];simp[ir])
  have hz1:(o++⟨#[109,101,115,115,97,103,101,32,77]⟩++di++⟨#[32,123]⟩).size<=30+600*i:=by
   rw[bj,bj,bj,UD];show o.size+9+1+2<=_;omega
  obtain⟨fs,UA⟩:∃fs,L[i]?=some fs:=⟨_,aK hli⟩;obtain⟨vf,UB⟩:∃vf,vs[i]?=some vf:=⟨_,aK (by rw[hDA.1];exact hli)⟩;have Uy:=hDA.2 i fs vf UA UB;have⟨n1,n2,UR⟩:=hD.fs fs (aI UA);obtain⟨fa,fc,rfl⟩:=Uy.form;obtain⟨ad,rfl,_,la,UG⟩:=hrow.at Ue;obtain⟨af,rfl,_,lf,UH⟩:=Uy.at Ue;have HR:Hid (∀W,aj w W->W.cell? (ad.add i)=some (.slice (some af) fs.length fc)):=λW hW=>UG W (hW.block _ la) i _ UB
  have HE:Hid (∀W,aj w W->∀k f,fs[k]?=some f->W.cell? (af.add (k*3))=some (aa f.1)/\W.cell? (ai ((af.add (k*3)).block) ((af.add (k*3)).off+1))=some (aa f.2.1)/\W.cell? (ai ((af.add (k*3)).block) ((af.add (k*3)).off+2))=some (aa f.2.2)):=λW hW k f hf=>by
   have hq:=λj (hj:j<3) u (hu:(Mc f)[j]?=some u)=>UH W (hW.block _ lf) (k*3+j) u ((fP Mc 3 (λ_=>rfl) fs k f hf j hj).trans hu)
   exact⟨hq 0 Ue _ rfl,kX (hq 1 Ue _ rfl),kX (hq 2 Ue _ rfl)⟩
  clear r1 r2 hB hK HC UG UH Uy UB;go_wp2_with fail;generalize o++⟨#[109,101,115,115,97,103,101,32,77]⟩++di++⟨#[32,123]⟩=o1 at*;go_loopw [3,5,6] (λov sv kv wx=>∃(k:Nat) (o2 s2:am),k<=fs.length/\kv=aa k/\ov=ae o2/\sv=ae s2/\Hid (o2=o1++bl (vA fs k))/\Hid (s2=bl (oX fs k))/\o2.size<=30+600*i+40*k/\s2.size<=40*k/\aj w wx/\dM wx w.heap.size #[.slice (some ad) L.length c] 68) (λ_ _ kv _=>fs.length-(intOf kv).toNat)
  case atStart=>exact⟨0,_,_,aL _,rfl,rfl,rfl,iX (by simp[vA,ir]),rfl,Ue,Uh,UL,UK⟩
  obtain⟨k,o2,s2,hkn,rfl,rfl,rfl,Ux,Uv,z2,zs,hB,hK⟩:=hrel;have⟨r1,r2⟩:=hK.rules;have c0:=HR.out _ hB
  by_cases hlk:k<fs.length
  ·have UM:(k:Int)<(fs.length:Int):=Ue;obtain⟨f,hf⟩:∃f,fs[k]?=some f:=⟨_,aK hlk⟩;have⟨c1,c2,c3⟩:=HE.out _ hB k f hf;have⟨t1,t2,t3,t4⟩:=UR f (aI hf);have ep:vA fs (k+1)=vA fs k++Pb k f:=by rw[vA,hf];rfl
   have eo:oX fs (k+1)=oX fs k++Md k f:=by rw[oX,hf];rfl
   obtain⟨ty,how,ky⟩:=f;simp only at c1 c2 c3 t1 t2 t3 t4;have t3:=Mf t3;have⟨BN,NN⟩:=dS wr #[aa ty,aa how,aa ky] 137;have hw:=λW=>Mb W ty Ue
   have hd:=λW=>tj W k Ue
   have he:=λW=>tj W (k+1) Ue
   have UN:=λW=>Mb W ky Ue
   have zw:(bl (gC ty)).size<=8:=by rw[fK];exact qC Ue
   have zk:(bl (gC ky)).size<=8:=by rw[fK];exact qC Ue
   have zd:(bl (gB k)).size=1:=by rw[fK];rfl
   have ze:(bl (gB (k+1))).size=1:=by rw[fK];rfl
   rw[show((k+1:Nat):Int)=(k:Int)+1 by omega]at he;have HB:Hid (bl (ID k (ty,how,ky))=bl (gC ty)++⟨#[32,102]⟩++bl (gB k)++⟨#[32,61,32]⟩++bl (gB (k+1))++⟨#[59,32]⟩):=iX (by simp[ir,ID,Pa]);have HM:Hid (how=4->bl (Pb k (ty,how,ky))=⟨#[109,97,112,60]⟩++bl (gC ky)++⟨#[44]⟩++bl (gC ty)++⟨#[62,32,102]⟩++bl (gB k)++⟨#[32,61,32]⟩++bl (gB (k+1))++⟨#[59,32]⟩):=λh=>iX (by subst h;simp[ir,Pb,Pa])
   generalize bl (gC ty)=sw at*;generalize bl (gC ky)=sk at*;generalize bl (gB k)=sd at*;generalize bl (gB (k+1))=se at*;go_wp2_with fail;have KN:=hK.below BN hK.lt;generalize wr.alloc (ak #[aa ty,aa how,aa ky] 137)=w3 at*;refine(hw _).mono ?_;rintro e w4 ⟨rfl,b4⟩;go_wp2_with fail;refine(hd _).mono ?_;rintro e w5 ⟨rfl,b5⟩;go_wp2_with fail;refine(he _).mono ?_;rintro e w6 ⟨rfl,b6⟩;have Uw:=dI b4 (dI b5 b6);have Uu:=dI hB (dI BN Uw);have Uq:=KN.below Uw KN.lt;have N6:=NN.below Uw NN.lt;have⟨r1,r2⟩:=N6.rules;clear b4 b5 b6 Uw hB hK BN KN NN c1 c2 c3;have Ur:Hid (∀x,bl (Pb k (ty,how,ky))=x->o2++x=o1++bl (vA fs (k+1))):=λx hx=>by rw[ep,oJ,hx,Ux.out,ByteArray.append_assoc]
   have Us:Hid (∀x,bl (Md k (ty,how,ky))=x->s2++x=bl (oX fs (k+1))):=λx hx=>by rw[eo,oJ,hx,Uv.out]
   have Ut:Hid (∀o:am,o++bl []=o):=λo=>iX (by simp[ir])
   have UO:how=0\/how=1\/how=2\/how=3\/how=4:=Ue
   have zE:(sw++⟨#[32,102]⟩++sd++⟨#[32,61,32]⟩++se++⟨#[59,32]⟩).size<=17:=by
    simp only[bj,zd,ze];show sw.size+2+1+3+1+2<=_;omega
   clear ep eo Ux Uv;go_upto_region 12 with fail
   generalize sw++⟨#[32,102]⟩++sd++⟨#[32,61,32]⟩++se++⟨#[59,32]⟩=E at*
   rcases UO with rfl|rfl|rfl|rfl|rfl
   ·go_wp2;go_roundw
    case rel=>exact⟨k+1,_,_,Ue,by go_num,rfl,rfl,Ur.out _ HB.out,(Ut.out _).symm.trans (Us.out _ rfl),by rw[bj];omega,Ue,Uu,Uq⟩
    case measure=>simp[intOf];omega
   ·go_wp2;go_roundw
    case rel=>exact⟨k+1,_,_,Ue,by go_num,rfl,rfl,(ByteArray.append_assoc).trans (Ur.out _ ((oJ _ _).trans (dH _ HB.out))),(Ut.out _).symm.trans (Us.out _ rfl),by rw[bj,bj];show o2.size+9+_<=_;omega,Ue,Uu,Uq⟩
    case measure=>simp[intOf];omega
   ·go_wp2;go_roundw
    case rel=>exact⟨k+1,_,_,Ue,by go_num,rfl,rfl,(ByteArray.append_assoc).trans (Ur.out _ ((oJ _ _).trans (dH _ HB.out))),(Ut.out _).symm.trans (Us.out _ rfl),by rw[bj,bj];show o2.size+9+_<=_;omega,Ue,Uu,Uq⟩
    case measure=>simp[intOf];omega
   ·go_wp2;go_roundw
    case rel=>exact⟨k+1,_,_,Ue,by go_num,rfl,rfl,(Ut.out _).symm.trans (Ur.out _ rfl),Us.out _ HB.out,Ue,by rw[bj];omega,Uu,Uq⟩
    case measure=>simp[intOf];omega
   ·have UP:Hid (o2++⟨#[109,97,112,60]⟩++sk++⟨#[44]⟩++sw++⟨#[62,32,102]⟩++sd++⟨#[32,61,32]⟩++se++⟨#[59,32]⟩=o1++bl (vA fs (k+1))):=by
     have:=Ur.out _ (HM.out rfl);simp only[ByteArray.append_assoc]at*;exact this
    have zM:Hid ((o2++⟨#[109,97,112,60]⟩++sk++⟨#[44]⟩++sw++⟨#[62,32,102]⟩++sd++⟨#[32,61,32]⟩++se++⟨#[59,32]⟩:am).size<=30+600*i+40*(k+1)):=by
     show _<=_;simp only[bj,zd,ze];show o2.size+4+sk.size+1+sw.size+3+1+3+1+2<=_;omega
    have UQ:Hid (s2=bl (oX fs (k+1))):=(Ut.out _).symm.trans (Us.out _ rfl);go_upto_region 13 with fail
    have HS:Hid (∀W,aj w6 W->W.cell? (ai wr.heap.size 0)=some (aa ty)/\W.cell? (ai wr.heap.size 2)=some (aa ky)):=λW hW=>⟨(N6.below hW N6.lt).cell 0,(N6.below hW N6.lt).cell 2⟩
    clear r1 r2 HM Ur Us HB Ut;have qk:IntKind.i64.wrap ((k:Int)+1)=(k:Int)+1:=by rw[IntKind.wrap_i64];omega
    have q1:¬9223372036854775807<o2.size+4:=Ue;have q2:¬9223372036854775807<o2.size+4+sk.size:=Ue;have q3:¬9223372036854775807<o2.size+4+sk.size+1:=Ue;have q4:¬9223372036854775807<o2.size+4+sk.size+1+sw.size:=Ue;have q5:¬9223372036854775807<o2.size+4+sk.size+1+sw.size+3:=Ue;have q6:¬9223372036854775807<o2.size+4+sk.size+1+sw.size+3+1:=Ue;have q7:¬9223372036854775807<o2.size+4+sk.size+1+sw.size+3+1+3:=Ue;have q8:¬9223372036854775807<o2.size+4+sk.size+1+sw.size+3+1+3+1:=Ue;have q9:¬9223372036854775807<o2.size+4+sk.size+1+sw.size+3+1+3+1+2:=Ue
    go_region_held3 (λW=>W.cell? (ai wr.heap.size 0)=some (aa ty)/\W.cell? (ai wr.heap.size 2)=some (aa ky))
     (first|exact HS.out _ (dI b7 (dI b8 (dI b9 UC)))|exact HS.out _ (dI b7 (dI b8 b9))|exact HS.out _ (dI b7 b8)|exact HS.out _ b7|exact HS.out _ (Below.refl _ _).drew)
     (first|(go_at_call 61;refine(he w9).mono ?_;rintro e w10 ⟨rfl,UC⟩)|(go_at_call 61;refine(hd w8).mono ?_;rintro e w9 ⟨rfl,b9⟩)|(go_at_call 62;refine(hw w7).mono ?_;rintro e w8 ⟨rfl,b8⟩)|(go_at_call 62;refine(UN _).mono ?_;rintro e w7 ⟨rfl,UI⟩;have b7:=dI ((Uc w6).drew) UI))
    have b6:=dI b7 (dI b8 (dI b9 UC));clear q1 q2 q3 q4 q5 q6 q7 q8 q9 b7 b8 b9 UC UI;go_wp2;go_roundw
    case rel=>exact⟨k+1,_,_,Ue,by go_num,rfl,rfl,UP.out,UQ.out,zM.out,Ue,dI Uu b6,Uq.below b6 Uq.lt⟩
    case measure=>simp[intOf];omega
  ·obtain rfl:k=fs.length:=Ue;have UM:¬(fs.length:Int)<(fs.length:Int):=Ue;have em:vB L (i+1)=vB L i++QH i fs:=by rw[vB,UA];rfl
   by_cases hne:oX fs fs.length= []
   ·have es:(!s2.toList.isEmpty)=false:=by rw[ByteArray.toList_eq,Uv.out,hne];rfl
    have Uz:Hid (o2++⟨#[125,10]⟩=bl (vB L (i+1))):=iX (by rw[em,Ux.out,UE.out,QH,dE hne];simp[ir]);clear em;go_wp2;go_roundw
    case rel=>exact⟨i+1,_,Ue,by go_num,rfl,Uz.out,by rw[bj];show o2.size+2<=_;omega,hB,hK⟩
    case measure=>simp[intOf];omega
   ·have es:(!s2.toList.isEmpty)=true:=by rw[ByteArray.toList_eq,Uv.out,ir];simpa using hne
    have Uz:Hid (o2++⟨#[111,110,101,111,102,32,111,32,123,32]⟩++s2++⟨#[125]⟩++⟨#[125,10]⟩=bl (vB L (i+1))):=iX (by rw[em,Ux.out,UE.out,Uv.out,QH,dD hne];simp[ir]);clear em;go_wp2;go_roundw
    case rel=>exact⟨i+1,_,Ue,by go_num,rfl,Uz.out,by simp only[bj];show o2.size+10+s2.size+1+2<=_;omega,hB,hK⟩
    case measure=>simp[intOf];omega
 ·obtain rfl:i=L.length:=Ue;have UJ:¬(L.length:Int)<(L.length:Int):=Ue;go_wp2;go_ret;have hT:T=o:=by rw[HO.out,<-HT.out];rfl
  exact⟨⟨by rw[hT];rfl,by rw[hT];omega⟩,hB⟩
end
abbrev qD:=List UInt8
def vC (l:List UInt8):List qD:=lC l.length l
def wj {l:List UInt8}{n:Nat}{T:List qD}(h:lC n l=T)(hn:l.length<=n):vC l=T:=(kS _ _ _ (ay _) hn).trans h
def jA {s r:List UInt8}(h:Bd s):vC (s++r)=vC s++vC r:=by
 unfold vC;rw[yA _ s r Uf h,kS (s++r).length s.length s Uf (ay _),kS (s++r).length r.length r Uf (ay _)]
def Bd.nil:Bd []:=λ_ h=>by cases h
def Bd.one {c:UInt8}(h:pA c=false):Bd [c]:=λx hx=>by simp_all
def Bd.end {s r:List UInt8}(h:Bd r)(hr:r≠ []):Bd (s++r):=λc hc=>h c (by
 simp_all)
def Bd.add {s r:List UInt8}(hs:Bd s)(hr:Bd r):Bd (s++r):=by
 by_cases h:r= []
 ·simp_all
 ·exact hr.end h
def Pc:Bd [59,32]:=λc h=>by cases h;rfl
def Pd (k:Nat):List qD:= [102::gB k,[61],gB (k+1),[59]]
def Cj (k:Nat)(f:F3):List qD:=gC f.1::Pd k
def IJ (k:Nat)(f:F3):List qD:=
 if f.2.1=0 then Cj k f
 else if f.2.1=1 then [114,101,112,101,97,116,101,100]::Cj k f
 else if f.2.1=2 then [111,112,116,105,111,110,97,108]::Cj k f
 else if f.2.1=3 then []
 else [109,97,112]:: [60]::gC f.2.2:: [44]::gC f.1:: [62]::Pd k
def QK (k:Nat)(f:F3):List qD:=if f.2.1=3 then Cj k f else []
def TP:∀t:Fin 19,∀k:Fin 7,lC 40 (ID k.val (t.val,0,0))=Cj k.val (t.val,0,0):=Ui
def TQ:∀y:Fin 16,lC 40 ([109,97,112,60]++gC y.val++ [44])= [[109,97,112],[60],gC y.val,[44]]:=Ui
def TR:∀t:Fin 19,∀k:Fin 7,lC 40 (gC t.val++ [62,32,102]++Pa k.val)=gC t.val:: [62]::Pd k.val:=Ui
def TS:∀i:Fin 3,lC 40 ([109,101,115,115,97,103,101,32,77]++gB i.val++ [32,123])= [[109,101,115,115,97,103,101],77::gB i.val,[123]]:=Ui
def GS (n:Nat)(f:F3):Prop:=f.1<16+n/\f.2.1<5/\f.2.2∈qO/\(f.2.1≠4->f.2.2=0)
def Mg (k:Nat):(Pa k).length=7:=rfl
def Pe (k:Nat)(f:F3):Bd (ID k f):=(Bd.end Pc Uf).end Uf
def GT {n k:Nat}{f:F3}(hn:n<=3)(h:GS n f)(hk:k<7):vC (ID k f)=Cj k f:=by
 have h1:f.1<19:=by have:=h.1;omega
 exact wj (TP ⟨f.1,h1⟩ ⟨k,hk⟩) (by have:=qC h1;simp only[ID,aH,Mg,be,cW];omega)
def OE {n k:Nat}{f:F3}(hn:n<=3)(h:GS n f)(hk:k<7):vC (Pb k f)=IJ k f/\Bd (Pb k f):=by
 have h1:f.1<19:=by have:=h.1;omega
 have hL:=GT hn h hk;have hB:=Pe k f;unfold Pb IJ
 split
 ·simp_all
 ·split
  ·exact⟨by rw[jA (λc h=>by cases h;rfl),hL];rfl,hB.end (by simp[ID])⟩
  ·split
   ·exact⟨by rw[jA (λc h=>by cases h;rfl),hL];rfl,hB.end (by simp[ID])⟩
   ·split
    ·exact⟨rfl,Bd.nil⟩
    ·have hy:=Mf h.2.2.1;have w1:=qC h1;have w2:(gC f.2.2).length<=8:=qC Ue;have e: [109,97,112,60]++gC f.2.2++ [44]++gC f.1++ [62,32,102]++Pa k=([109,97,112,60]++gC f.2.2++ [44])++(gC f.1++ [62,32,102]++Pa k):=Uf;rw[e];refine⟨?_,((Bd.end Pc Uf).end Uf).end Uf⟩;rw[jA ((Bd.one rfl).end Uf),wj (TQ ⟨f.2.2,hy⟩) (by grind),wj (TR ⟨f.1,h1⟩ ⟨k,hk⟩) (by simp[Mg];omega)];rfl
def Fv (fs:List F3):Nat->List qD
 |0=> []
 |k+1=>Fv fs k++IJ k ((fs[k]?).getD (0,0,0))
def Fw (fs:List F3):Nat->List qD
 |0=> []
 |k+1=>Fw fs k++QK k ((fs[k]?).getD (0,0,0))
def QL {n:Nat}{fs:List F3}(h:∀f∈fs,GS n f){k:Nat}(hk:k<fs.length):GS n ((fs[k]?).getD (0,0,0)):=by
 grind
def Ec {n:Nat}{fs:List F3}(hn:n<=3)(h:∀f∈fs,GS n f)(h7:fs.length<=7):∀k,k<=fs.length->(vC (vA fs k)=Fv fs k/\Bd (vA fs k))/\vC (oX fs k)=Fw fs k/\Bd (oX fs k)
 |0,_=>⟨⟨rfl,Bd.nil⟩,rfl,Bd.nil⟩
 |k+1,hk=>by
  have⟨⟨h1,h2⟩,h3,h4⟩:=Ec hn h h7 k Ue;have ho:=QL h (show k<fs.length by omega);have⟨h5,h6⟩:=OE (k:=k) hn ho Ue;rw[vA,Fv,oX,Fw,jA h2,jA h4,h1,h3,h5];refine⟨⟨rfl,h2.add h6⟩,?_,h4.add ?_⟩
  ·unfold Md QK
   split
   ·rw[GT hn ho Ue]
   ·rfl
  ·unfold Md
   split
   ·exact Pe _ _
   ·exact Bd.nil
def OF (i:Nat)(fs:List F3):List qD:=
 [[109,101,115,115,97,103,101],77::gB i,[123]]++(Fv fs fs.length++((if oX fs fs.length= []then []else [[111,110,101,111,102],[111],[123]]++(Fw fs fs.length++ [[125]]))++ [[125]]))
def Q2 (L:List (List F3)):Nat->List qD
 |0=> [[101,110,117,109],[69],[123],[65],[61],[48],[59],[125]]
 |i+1=>Q2 L i++OF i ((L[i]?).getD [])
def RQ (i:Nat)(fs:List F3):Bd (QH i fs):=Bd.end (s:=_) (r:= [125,10]) (λc h=>by cases h;rfl) Uf
def OG {n i:Nat}{fs:List F3}(hn:n<=3)(hi:i<3)(h:∀f∈fs,GS n f)(h7:fs.length<=7):vC (QH i fs)=OF i fs:=by
 have⟨⟨h1,h2⟩,h3,h4⟩:=Ec hn h h7 fs.length (ay _);unfold QH OF;rw[aZ,aZ,jA (Bd.end (λc h=>by cases h;rfl) Uf),wj (TS ⟨i,hi⟩) (by simp[dig_len]),jA h2,h1]
 congr 2
 split
 ·rfl
 ·rw[jA (Bd.end (λc h=>by cases h;rfl) Uf),aZ,jA (λc h=>by cases h;rfl),jA h4,h3];rfl
def TT:vC [101,110,117,109,32,69,32,123,32,65,32,61,32,48,59,32,125,10]= [[101,110,117,109],[69],[123],[65],[61],[48],[59],[125]]:=Uk
def Ed {L:List (List F3)}(h:QI L):∀i,i<=L.length->vC (vB L i)=Q2 L i/\Bd (vB L i)
 |0,_=>⟨TT,λc h=>by cases h;rfl⟩
 |i+1,hi=>by
  have⟨h1,h2⟩:=Ed h i Ue;have hl:=h.few.2;have⟨_,h7,hf⟩:=h.fs _ (List.getElem_mem (show i<L.length by omega));rw[vB,Q2,jA h2,h1,aK (show i<L.length by omega)];exact⟨by rw[show(some L[i]).getD []=L[i]from rfl,OG hl Ue hf h7],h2.add (RQ _ _)⟩
def QM {L:List (List F3)}(h:QI L):(fA (pZ L)).map (λx=>x.1.data.toList)=Q2 L L.length++ [[]]:=by
 unfold fA;rw[bI]
 congr 1;unfold zb;rw[Fu (pZ L) _ (pZ L).size 0 Ue Ue (aL _)];have:(pZ L).data.toList.length=(pZ L).size:=Uf;rw[List.drop_zero,<-this];exact(Ed h L.length (ay _)).1
section
variable (l:List UInt8) {β:Type} {stop:Nat->Bool}
def Tk (ws:List W)(i:Nat)(l:List qD):Prop:=(ws.drop i).map (fun x=>x.1.data.toList)=l
def oY {α β:Type}(R:β->α->Prop):List β->List α->Prop
 | [],[]=>True
 |x::xs,y::ys=>R x y/\oY R xs ys
 |_,_=>False
theorem yC:(bl l).toList=l:=by rw[ByteArray.toList_eq,ir]
def p6 (l:List UInt8):Int:=
 if l.length=0 then 4 else if lD (((l[0]?).map fun x=>(x.toNat:Int)).getD 0)then 2 else if !uY (((l[0]?).map fun x=>(x.toNat:Int)).getD 0)||oZ l then 0 else if je l then 3 else 1
theorem it:dJ (bl l)=p6 l:=by
 unfold dJ iQ p6;rw[lB,fK,yC,ir]
section
variable {ws:List W} {i:Nat} {l:List qD} {x s:qD}
theorem Tk.len (h:Tk ws i l):l.length=ws.length-i:=by rw[<-h];simp
theorem Tk.step (h:Tk ws i (x::l)):∃p,ws[i]?=some (bl x,p)/\Tk ws (i+1) l:=by
 unfold Tk at*
 have hl:i<ws.length:=by
  have:=congrArg List.length h
  grind
 rw[aX hl,bO]at h
 injection h with h1 h2
 exact⟨ws[i].2,by rw[aK hl,<-h1,BX],h2⟩
theorem Tk.app {a:List qD}(h:Tk ws i (a++l)):Tk ws (i+a.length) l:=by
 unfold Tk at*;rw[<-List.drop_drop,List.map_drop,h];simp
theorem Tk.skip (h:Tk ws i (s::l)):fV ws s i= .ok ((),i+1)/\Tk ws (i+1) l:=by
 obtain⟨p,h1,h2⟩:=h.step;exact⟨by unfold fV;rw[h1];simp[yC],h2⟩
theorem Tk.kind {k:Int}(h:Tk ws i (x::l))(hk:dJ (bl x)=k):∃p,jV ws k i= .ok ((bl x,p),i+1)/\Tk ws (i+1) l:=by
 obtain⟨p,h1,h2⟩:=h.step;exact⟨p,by unfold jV;simp_all,h2⟩
theorem Tk.type (h:Tk ws i (x::l))(hk:dJ (bl x)=3\/dJ (bl x)=1):∃p,oM ws i= .ok ((bl x,p),i+1)/\Tk ws (i+1) l:=by
 obtain⟨p,h1,h2⟩:=h.step;exact⟨p,by unfold oM;rw[h1];rcases hk with hk|hk<;>simp[hk],h2⟩
theorem Tk.txt (h:Tk ws i (x::l)):fR ws s i=(x==s):=by
 obtain⟨p,h1,h2⟩:=h.step;unfold fR;rw[h1];simp only[yC]
end
theorem TU:∀k:Fin 7,p6 (102::gB k.val)=1/\p6 (gB (k.val+1))=2:=by decide+kernel
theorem Mh:∀t:Fin 19,p6 (gC t.val)=3\/p6 (gC t.val)=1:=by decide+kernel
structure Ck (k:Nat)(f:F3)(fm:Int)(r:eF):Prop where
 form:r.form=fm
 key:r.key.map (·.1)=if fm=4 then some (bl (gC f.2.2))else none
 type:r.type.1=bl (gC f.1)
 name:r.name.1=bl (102::gB k)
 num:r.num.1=bl (gB (k+1))
section
variable {ws:List W} {i k n:Nat} {l:List qD} {f:F3}
theorem Tk.numP (hk:k<7)(h:Tk ws i (Pd k++l)):∃p q,j8 ws i= .ok (((bl (102::gB k),p),(bl (gB (k+1)),q)),i+4):=by
 obtain⟨h1,h2⟩:=TU ⟨k,hk⟩;obtain⟨p,e1,t1⟩:=Tk.kind h ((it _).trans h1);obtain⟨e2,t2⟩:=t1.skip;obtain⟨q,e3,t3⟩:=t2.kind ((it _).trans h2);obtain⟨e4,t4⟩:=t3.skip;exact⟨p,q,by unfold Go.Proofs.YtfebdimolnobaaaGreatDoor.j8;rw[e1];simp only[gu];rw[e2];simp only;rw[e3];simp only;rw[e4]⟩
theorem Tk.field (hk:k<7)(hf:f.1<19)(form:Int)(h4:form≠4)(h:Tk ws i (Cj k f++l)):∃r,fJ ws form i= .ok (r,i+5)/\Ck k f form r:=by
 have hw:=Mh ⟨f.1,hf⟩;obtain⟨p,e1,t1⟩:=Tk.type h (hw.imp (fun e=>(it _).trans e) fun e=>(it _).trans e);obtain⟨q,r,e2⟩:=Tk.numP hk t1;exact⟨_,by unfold fJ;rw[e1];simp only[gu];rw[e2],rfl,by(simp;omega),rfl,rfl,rfl⟩
theorem Tk.map (hk:k<7)(hf:f.1<19)(hy:f.2.2<19)(h:Tk ws i ([109,97,112]:: [60]::gC f.2.2:: [44]::gC f.1:: [62]::(Pd k++l))):∃r,mO ws i= .ok (r,i+10)/\Ck k f 4 r:=by
 have hw:=Mh ⟨f.1,hf⟩;have hv:=Mh ⟨f.2.2,hy⟩;obtain⟨e1,t1⟩:=h.skip;obtain⟨e2,t2⟩:=t1.skip;obtain⟨p,e3,t3⟩:=t2.type (hv.imp (fun e=>(it _).trans e) fun e=>(it _).trans e);obtain⟨e4,t4⟩:=t3.skip;obtain⟨q,e5,t5⟩:=t4.type (hw.imp (fun e=>(it _).trans e) fun e=>(it _).trans e);obtain⟨e6,t6⟩:=t5.skip;obtain⟨r,s,e7⟩:=Tk.numP hk t6;exact⟨_,by unfold mO;rw[e1];simp only[gu];rw[e2];simp only;rw[e3];simp only;rw[e4];simp only;rw[e5];simp only;rw[e6];simp only;rw[e7],rfl,rfl,rfl,rfl,rfl⟩
theorem tr {α:Type}{p:Nat->nI α}{F:β->List qD}{R:β->α->Prop}{e:List qD}(hs:∀i,Tk ws i e->stop i=true):
  ∀(iP:List β),(∀x∈iP,∀i l,Tk ws i (F x++l)->stop i=false/\∃a,p i= .ok (a,i+(F x).length)/\R x a)->∀n i,iP.length<=n->Tk ws i (iP.flatMap F++e)->∃ys,gk stop p n i= .ok (ys,i+(iP.flatMap F).length)/\oY R iP ys
 | [],_,n,i,_,h=>by
  refine⟨[],?_,trivial⟩
  cases n with
  |zero=>rfl
  |succ n=>rw[gk,if_pos (hs i h)];rfl
 |x::iP,_,0,_,hn,_=>by simp at hn
 |x::iP,hp,n+1,i,hn,h=>by
  rw[bi,aZ]at h;obtain⟨h1,a,h2,h3⟩:=hp x (by simp) i _ h;obtain⟨ys,h4,h5⟩:=tr hs iP (fun y hy=>hp y (aT _ hy)) n (i+(F x).length) (by simp_all) h.app;refine⟨a::ys,?_,h3,h5⟩;rw[gk,if_neg (by rw[h1];decide),h2];simp only[gu]
  grind
theorem qE {F:β->List qD}:∀(iP:List β),(∀x∈iP,F x≠ [])->iP.length<=(iP.flatMap F).length
 | [],_=>ay _
 |x::iP,h=>by
  have h1:=qE iP (fun y hy=>h y (aT _ hy));have h2:=List.length_pos_iff.2 (h x (by simp))
  grind
end
def Az (fs:List F3)(n:Nat):List (Nat×F3):=(List.range n).map fun k=>(k,(fs[k]?).getD (0,0,0))
def yD (x:Nat×F3):Bool:=x.2.2.1==3
def mM (fs:List F3):List (Nat×F3):=(Az fs fs.length).filter fun x=> !yD x
def ones (fs:List F3):List (Nat×F3):=(Az fs fs.length).filter yD
theorem nr {γ:Type}{F:β->List γ}{q:β->Bool}:∀(l:List β),(∀x∈l,q x=false->F x= [])->l.flatMap F=(l.filter q).flatMap F
 | [],_=>rfl
 |x::l,h=>by
  have ih:=nr l (fun y hy=>h y (aT _ hy))
  grind
theorem yE {γ:Type}{F G:β->List γ}:∀(l:List β),(∀x∈l,F x=G x)->l.flatMap F=l.flatMap G
 | [],_=>rfl
 |x::l,h=>by rw[bi,bi,h x (by simp),yE l fun y hy=>h y (aT _ hy)]
theorem GU (fs:List F3):∀n,Fv fs n=(Az fs n).flatMap (fun x=>IJ x.1 x.2)/\Fw fs n=(Az fs n).flatMap (fun x=>QK x.1 x.2)/\oX fs n=(Az fs n).flatMap (fun x=>Md x.1 x.2)
 |0=>⟨rfl,rfl,rfl⟩
 |n+1=>by
  obtain⟨h1,h2,h3⟩:=GU fs n;unfold Az at*;rw[Fv,Fw,oX,h1,h2,h3,List.range_succ];simp
theorem tt {fs:List F3}{n:Nat}{x:Nat×F3}(h:x∈Az fs n)(hn:n<=fs.length):x.1<n/\x.2∈fs/\fs[x.1]?=some x.2:=by
 obtain⟨k,hk,rfl⟩:=aP.1 h
 grind
def Pf (h:Nat):Int:=if h=1 then 2 else if h=2 then 1 else h
def iP (fs:List F3):List (Option (Nat×F3)):=(mM fs).map some++if ones fs= []then []else [none]
def MD (fs:List F3):Option (Nat×F3)->List qD
 |some x=>IJ x.1 x.2
 |none=> [[111,110,101,111,102],[111],[123]]++((ones fs).flatMap (fun x=>Cj x.1 x.2)++ [[125]])
def IE (fs:List F3):Option (Nat×F3)->fo->Prop
 |some x,p=>∃r,p=⟨none,[r]⟩/\Ck x.1 x.2 (Pf x.2.2.1) r
 |none,p=>∃o rs,p=⟨some (bl [111],o),rs⟩/\oY (fun x r=>Ck x.1 x.2 3 r) (ones fs) rs
theorem QN (i:Nat)(fs:List F3):OF i fs= [[109,101,115,115,97,103,101],77::gB i,[123]]++((iP fs).flatMap (MD fs)++ [[125]]):=by
 obtain⟨h1,h2,h3⟩:=GU fs fs.length
 have e1:Fv fs fs.length=(mM fs).flatMap (fun x=>IJ x.1 x.2):=by
  rw[h1]
  exact nr _ fun x _ h=>by
   have:x.2.2.1=3:=by simpa [yD]using h
   unfold IJ;rw[if_neg (by omega),if_neg (by omega),if_neg (by omega),if_pos this]
 have hq:∀x:Nat×F3,yD x=false->QK x.1 x.2= []/\Md x.1 x.2= []:=fun x h=>by
  have:¬x.2.2.1=3:=by simpa [yD]using h
  unfold QK Md
  (simp;omega)
 have hy:∀x∈ones fs,QK x.1 x.2=Cj x.1 x.2/\Md x.1 x.2≠ []:=fun x hx=>by
  have:x.2.2.1=3:=by simpa [yD]using(bw.1 hx).2
  unfold QK Md;rw[if_pos this,if_pos this];exact⟨rfl,by simp[ID]⟩
 have e2:Fw fs fs.length=(ones fs).flatMap (fun x=>Cj x.1 x.2):=by
  rw[h2,nr (q:=yD) _ fun x _ h=>(hq x h).1];exact yE _ fun x hx=>(hy x hx).1
 have e3:oX fs fs.length=(ones fs).flatMap (fun x=>Md x.1 x.2):=by
  rw[h3,nr (q:=yD) _ fun x _ h=>(hq x h).2];rfl
 have e4:oX fs fs.length= []<->ones fs= []:=by
  rw[e3];refine⟨fun h=> ?_,fun h=>by rw[h];rfl⟩
  cases ho:ones fs with
  |nil=>rfl
  |cons x l=>
   rw[ho,bi]at h
   simp_all
 unfold OF iP;rw[e1,e2]
 by_cases h:ones fs= []
 ·rw[if_pos (e4.2 h),if_pos h,bN,List.flatMap_map];rfl
 ·rw[if_neg (fun q=>h (e4.1 q)),if_neg h,cV,List.flatMap_map];simp[MD]
theorem qF:∀t:Fin 19,(gC t.val== [125])=false/\(gC t.val== [111,110,101,111,102])=false/\(gC t.val== [109,97,112])=false/\(gC t.val== [114,101,112,101,97,116,101,100])=false/\(gC t.val== [111,112,116,105,111,110,97,108])=false:=by decide+kernel
section
variable {ws:List W} {n:Nat} {fs:List F3}
theorem OH (hn:n<=3)(h:∀f∈fs,GS n f)(h7:fs.length<=7):∀x∈iP fs,∀i l,Tk ws i (MD fs x++l)->fR ws [125] i=false/\∃a,jN ws i= .ok (a,i+(MD fs x).length)/\IE fs x a:=by
 intro x hx i l ht
 rcases aR.1 hx with hx|hx
 ·obtain⟨⟨k,f⟩,hx1,rfl⟩:=aP.1 hx;obtain⟨Ut,ho⟩:=bw.1 hx1;obtain⟨hk,hf,_⟩:=tt Ut (ay _);have h3:¬f.2.1=3:=by simpa [yD]using ho
  have hF:=h f hf;have Ur:f.1<19:=by have:=hF.1;omega
  have hk:k<fs.length:=hk;obtain⟨q1,q2,q3,q4,q5⟩:=qF ⟨f.1,Ur⟩;have ht:Tk ws i (IJ k f++l):=ht;show fR ws [125] i=false/\∃a:fo,jN ws i=Except.ok (a,i+(IJ k f).length)/\∃r,a=⟨none,[r]⟩/\Ck k f (Pf f.2.1) r;unfold IJ at ht⊢;unfold jN lE
  by_cases c0:f.2.1=0
  ·rw[if_pos c0]at ht⊢;obtain⟨r,e,hr⟩:=Tk.field (by omega) Ur 0 (by decide) ht;have Uq:Tk ws i (gC f.1::(Pd k++l)):=ht;rw[Uq.txt,Uq.txt,Uq.txt,Uq.txt,Uq.txt,q1,q2,q3,q4,q5];exact⟨rfl,⟨none,[r]⟩,by simp only[aM,if_false];rw[e];rfl,r,rfl,by rw[c0];exact hr⟩
  ·rw[if_neg c0]at ht⊢
   by_cases c1:f.2.1=1
   ·rw[if_pos c1]at ht⊢;obtain⟨p,_,t1⟩:=Tk.step ht;obtain⟨r,e,hr⟩:=Tk.field (by omega) Ur 2 (by decide) t1;have Uq:Tk ws i ([114,101,112,101,97,116,101,100]::(Cj k f++l)):=ht;rw[Uq.txt,Uq.txt,Uq.txt,Uq.txt,Uq.txt];exact⟨rfl,⟨none,[r]⟩,by simp;rw[e];rfl,r,rfl,by rw[c1];exact hr⟩
   ·rw[if_neg c1]at ht⊢
    by_cases c2:f.2.1=2
    ·rw[if_pos c2]at ht⊢;obtain⟨p,_,t1⟩:=Tk.step ht;obtain⟨r,e,hr⟩:=Tk.field (by omega) Ur 1 (by decide) t1;have Uq:Tk ws i ([111,112,116,105,111,110,97,108]::(Cj k f++l)):=ht;rw[Uq.txt,Uq.txt,Uq.txt,Uq.txt,Uq.txt];exact⟨rfl,⟨none,[r]⟩,by simp;rw[e];rfl,r,rfl,by rw[c2];exact hr⟩
    ·rw[if_neg c2,if_neg h3]at ht⊢;have c4:f.2.1=4:=by have:=hF.2.1;omega
     obtain⟨r,e,hr⟩:=Tk.map (by omega) Ur (by have:=Mf hF.2.2.1;omega) ht;have Uq:Tk ws i ([109,97,112]::([60]::gC f.2.2:: [44]::gC f.1:: [62]::(Pd k++l))):=ht;rw[Uq.txt,Uq.txt,Uq.txt,Uq.txt,Uq.txt];exact⟨rfl,⟨none,[r]⟩,by simp;rw[e];rfl,r,rfl,by rw[c4];exact hr⟩
 ·by_cases ho:ones fs= []
  ·simp_all
  ·rw[if_neg ho]at hx;obtain rfl:=bn.1 hx;have ht:Tk ws i ([111,110,101,111,102]:: [111]:: [123]::(((ones fs).flatMap (fun x=>Cj x.1 x.2)++ [[125]])++l)):=ht;have Us:=ht;obtain⟨e1,t1⟩:=ht.skip;obtain⟨p,e2,t2⟩:=t1.kind (k:=1) ((it _).trans (by rfl));obtain⟨e3,t3⟩:=t2.skip
   have hm:∀x∈ones fs,x.1<7/\x.2.1<19:=fun x hx=>by
    obtain⟨hk,hf,_⟩:=tt (bw.1 hx).1 (ay _);have:=(h _ hf).1;omega
   have hp:∀x∈ones fs,∀i l,Tk ws i (Cj x.1 x.2++l)->fR ws [125] i=false/\∃a,fJ ws 3 i= .ok (a,i+(Cj x.1 x.2).length)/\Ck x.1 x.2 3 a:=fun x hx i l ht=>by
    obtain⟨m1,m2⟩:=hm x hx;obtain⟨r,e,hr⟩:=Tk.field m1 m2 3 (by decide) ht;have Uq:Tk ws i (gC x.2.1::(Pd x.1++l)):=ht;exact⟨by rw[Uq.txt];exact(qF ⟨_,m2⟩).1,r,e,hr⟩
   rw[Us.txt];refine⟨rfl,?_⟩
   cases hos:ones fs with
   |nil=>simp_all
   |cons y ys=>
    rw[hos]at hp t3;rw[bi,aZ,aZ]at t3;obtain⟨_,r,e4,hr⟩:=hp y (by simp) _ _ t3;have t4:=t3.app;have hl:=t4.len;have hfl:=qE (F:=fun x:Nat×F3=>Cj x.1 x.2) ys (fun _ _=>by simp[Cj]);obtain⟨rs,e5,Uu⟩:=tr (p:=fJ ws 3) (F:=fun x:Nat×F3=>Cj x.1 x.2) (R:=fun x r=>Ck x.1 x.2 3 r) (e:= [125]::l) (fun i h=>by rw[h.txt];rfl) ys (fun x hx=>hp x (aT _ hx)) ws.length _ (by grind) (by simpa using t4);have t5:=t4.app;obtain⟨e6,t6⟩:=Tk.skip t5;refine⟨⟨some (bl [111],p),r::rs⟩,?_,p,r::rs,rfl,by rw[hos];exact⟨hr,Uu⟩⟩;unfold jN;rw[Us.txt];simp only[beq_self_eq_true,if_true];unfold iC;rw[e1];simp only[gu,mP];rw[e2];simp only;rw[e3];simp only;rw[e4];simp only;rw[e5];simp only;rw[e6];simp[MD,hos,bi];omega
end
end
def Pg (L:List (List F3))(n:Nat):List (Option (Nat×List F3)):=none::(List.range n).map λi=>some (i,(L[i]?).getD [])
def OI:Option (Nat×List F3)->List qD
 |none=> [[101,110,117,109],[69],[123],[65],[61],[48],[59],[125]]
 |some x=>OF x.1 x.2
def Fy:Option (Nat×List F3)->dQ->Prop
 |none,b=>∃p q r,b=⟨true,(bl [69],p),[],[((bl [65],q),(bl [48],r))]⟩
 |some x,b=>∃p ps,b=⟨false,(bl (77::gB x.1),p),ps,[]⟩/\oY (IE x.2) (iP x.2) ps
def Mi (L:List (List F3)):∀n,Q2 L n=(Pg L n).flatMap OI
 |0=>rfl
 |n+1=>by
  rw[Q2,Mi L n];unfold Pg;rw[List.range_succ];simp[OI]
section
variable {ws:List W} {L:List (List F3)}
def RT {fs:List F3}:∀x∈iP fs,MD fs x≠ []:=by
 intro x hx
 rcases aR.1 hx with hx|hx
 ·obtain⟨⟨k,f⟩,hx1,rfl⟩:=aP.1 hx;have h3:¬f.2.1=3:=by simpa [yD]using(bw.1 hx1).2
  show IJ k f≠ [];unfold IJ Cj
  split<;>(try split)<;>(try split)<;>simp_all
 ·split at hx
  ·cases hx
  ·obtain rfl:=bn.1 hx;simp[MD]
def Mj (h:QI L):∀x∈Pg L L.length,∀i l,Tk ws i (OI x++l)->nJ ws i=false/\∃a,jr ws i= .ok (a,i+(OI x).length)/\Fy x a:=by
 intro x hx i l ht
 have Uq:∀{y l},Tk ws i (y::l)->p6 y≠4->nJ ws i=false:=λt hy=>by
  have⟨p,e,_⟩:=t.step;unfold nJ;rw[e];simp only;rw[it];simpa using hy
 rcases aN.1 hx with rfl|hx
 ·have ht:Tk ws i ([101,110,117,109]:: [69]:: [123]::([[65],[61],[48],[59]]++ [125]::l)):=ht;refine⟨Uq ht Ui,?_⟩;have⟨e1,t1⟩:=ht.skip;have⟨p,e2,t2⟩:=t1.kind (k:=1) ((it _).trans Uk);have⟨e3,t3⟩:=t2.skip
  have⟨vs,e4,hv⟩:=tr (ws:=ws) (stop:=fR ws [125]) (p:=j8 ws) (F:=λ_:Unit=> [[65],[61],[48],[59]]) (R:=λ_ v=>∃q r,v=((bl [65],q),(bl [48],r))) (e:= [125]::l) (λi h=>by rw[h.txt];rfl) [()] (λ_ _ i l t=>by
   have t:Tk ws i ([65]:: [61]:: [48]:: [59]::l):=t;have t0:=t;have⟨q,e1,t1⟩:=t.kind (k:=1) ((it _).trans Uk);have⟨e2,t2⟩:=t1.skip;have⟨r,e3,t3⟩:=t2.kind (k:=2) ((it _).trans Uk);have⟨e4,t4⟩:=t3.skip
   exact⟨by rw[t0.txt];rfl,_,by unfold j8;rw[e1];simp only[gu];simp_all,q,r,rfl⟩) ws.length _ (by have:=t3.len;grind) t3
  have⟨e5,_⟩:=Tk.skip (Tk.app (a:= [[65],[61],[48],[59]]) t3);have e5:fV ws [125] (i+1+1+1+4)= .ok ((),i+1+1+1+4+1):=e5;have e4:gk (fR ws [125]) (j8 ws) ws.length (i+1+1+1)= .ok (vs,i+1+1+1+4):=e4
  match vs,hv,e4 with
  | [v],hv,e4=>
   obtain⟨⟨q,r,rfl⟩,_⟩:=hv;refine⟨_,?_,p,q,r,rfl⟩;unfold jr;rw[ht.txt];simp only[beq_self_eq_true,if_true];unfold ld;rw[e1];simp only[gu];rw[e2];simp only;rw[e3];simp only;rw[e4];simp only;rw[e5];rfl
 ·obtain⟨k,hk,rfl⟩:=aP.1 hx;have hk:=List.mem_range.1 hk;rw[aK hk]at ht⊢;have⟨f1,f2⟩:=h.few;have⟨_,h7,hf⟩:=h.fs _ (List.getElem_mem hk);generalize L[k]=fs at*;have ht:Tk ws i (OF k fs++l):=ht;show _/\∃a,_=Except.ok (a,i+(OF k fs).length)/\∃p ps,_/\oY (IE fs) (iP fs) ps;rw[QN]at ht⊢;have ht:Tk ws i ([109,101,115,115,97,103,101]::(77::gB k):: [123]::(((iP fs).flatMap (MD fs)++ [[125]])++l)):=ht;refine⟨Uq ht Ui,?_⟩;have Ur:∀k:Fin 3,p6 (77::gB k.val)=1:=Ui;have⟨e1,t1⟩:=ht.skip;have⟨p,e2,t2⟩:=t1.kind (k:=1) ((it _).trans (Ur ⟨k,Ue⟩));have⟨e3,t3⟩:=t2.skip;rw[aZ]at t3;have hl:=t3.len;have Us:=qE (F:=MD fs) (iP fs) RT;have⟨ps,e4,Ut⟩:=tr (stop:=fR ws [125]) (p:=jN ws) (F:=MD fs) (R:=IE fs) (e:= [125]::l) (λi h=>by rw[h.txt];rfl) (iP fs) (OH f2 hf h7) ws.length _ (by grind) t3;have⟨e5,_⟩:=Tk.skip t3.app;refine⟨_,?_,p,ps,rfl,Ut⟩;unfold jr;rw[ht.txt];have:(([109,101,115,115,97,103,101]:List UInt8)== [101,110,117,109])=false:=rfl;rw[this];simp only[aM,if_false];unfold gJ;rw[e1];simp only[gu]
  grind
def OJ (h:QI L):∃bs j,pd (fA (pZ L))= .ok (bs,j)/\oY Fy (Pg L L.length) bs:=by
 have ht:Tk (fA (pZ L)) 0 ((Pg L L.length).flatMap OI++ [[]]):=by
  unfold Tk;rw[List.drop_zero,QM h,Mi]
 have hl:=ht.len
 have Us:=qE (F:=OI) (Pg L L.length) (λx hx=>by
  rcases aN.1 hx with rfl|hx
  ·simp[OI]
  ·obtain⟨k,_,rfl⟩:=aP.1 hx
   simp[OI,OF])
 have⟨bs,e,hb⟩:=tr (ws:=fA (pZ L)) (stop:=nJ (fA (pZ L))) (p:=jr (fA (pZ L))) (F:=OI) (R:=Fy) (e:= [[]]) (λi t=>by
  have⟨p,e,_⟩:=Tk.step t;unfold nJ;rw[e]
  rfl) (Pg L L.length) (Mj h) (fA (pZ L)).length 0 (by grind) ht
 exact⟨bs,_,e,hb⟩
end
def Mk (x:Nat×F3):qD:=102::gB x.1
def Fz:∀a b:Fin 7,(102::gB a.val)=(102::gB b.val)->a=b:=Ui
def OL:∀k:Fin 7,iJ (bl (gB (k.val+1)))=k.val+1:=Ui
def Ml (N:List qD)(x:qD):eM (N.map bl) (bl x)=N.contains x:=by
 unfold eM;rw[List.any_map,List.contains_eq_any_beq]
 congr 1
 funext y;simp only[Function.comp,yC];rw[Bool.beq_comm]
def tu {N:List qD}{x:qD}(hx:x∉N)(hs:x.length<=20):il (N.map bl) (bl x)=false:=by
 unfold il;rw[Ml,fK]
 simp_all
def S2:∀t:Fin 19,p6 (gC t.val)=1->(t.val=15/\gC t.val= [69])\/(15<t.val/\gC t.val=77::gB (t.val-16)):=Ui
def QO:∀k∈qO,p6 (gC k)=3/\(!(gC k== [102,108,111,97,116])&&(!(gC k== [100,111,117,98,108,101])&& !(gC k== [98,121,116,101,115])))=true:=Ui
def Mm (n:Nat):List qD:= [69]::(List.range n).map λi=>77::gB i
section
variable {n:Nat} {N:List qD} {M:au} {fs:List F3}
def Ee (hn:n<=3){k:Nat}{f:F3}{fm:Int}{r:eF}(h:Ck k f fm r)(hF:GS n f)(hk:k<7)(hN:(102::gB k)∉N)(hM:k+1∉M)(hl:M.length<12):
  mX ((Mm n).map bl) (N.map bl) M r= .ok ((N++ [102::gB k]).map bl,M++ [k+1]):=by
 have Ur:f.1<19:=by have:=hF.1;omega
 unfold mX uC jQ;rw[h.form,h.type,h.name,h.num,OL ⟨k,hk⟩]
 have Uq:(fm==4&& !gM (lW r.key) (jg r.key))=false:=by
  by_cases h4:fm=4
  ·have e:=h.key;rw[dE h4]at e
   cases hrk:r.key with
   |none=>simp_all
   |some x=>
    rw[hrk]at e;have e:x.1=bl (gC f.2.2):=by simp_all
    have⟨k1,k2⟩:=QO _ hF.2.2.1;unfold lW jg gM;simp only[e,yC];rw[it,k1,k2];simp
  simp_all
 have Us:ow ((Mm n).map bl) (dJ (bl (gC f.1))) (bl (gC f.1))=false:=by
  unfold ow;rw[Ml,fK,it]
  by_cases q:p6 (gC f.1)=1
  ·have hw:=qC Ur
   have hm:gC f.1∈Mm n:=by
    have hlt:=hF.1
    rcases S2 ⟨f.1,Ur⟩ q with⟨_,e⟩|⟨g,e⟩
    ·rw[show gC f.1= [69]from e];exact aV
    ·refine aT _ (aP.2 ⟨f.1-16,List.mem_range.2 ?_,e.symm⟩)
     grind
   grind
  ·simp[q]
 have Ut:ox M (k+1)=false:=by
  unfold ox AF
  grind
 rw[Uq,Us,tu hN (by simp[dig_len]),Ut]
 simp_all
def GV (hn:n<=3){g:Nat×F3->Int}:∀(xs:List (Nat×F3)) (rs:List eF) (N:List qD) (M:au),oY (λx r=>Ck x.1 x.2 (g x) r) xs rs->(∀x∈xs,x.1<7/\GS n x.2/\Mk x∉N/\x.1+1∉M)->(xs.map (·.1)).Nodup->M.length+xs.length<=12->
  fX ((Mm n).map bl) (N.map bl) M rs= .ok ((N++xs.map Mk).map bl,M++xs.map λx=>x.1+1)
 | [],[],N,M,_,_,_,_=>by simp[fX]
 | [],_::_,_,_,h,_,_,_=>h.elim
 |_::_,[],_,_,h,_,_,_=>h.elim
 |x::xs,r::rs,N,M,h,hx,hd,hl=>by
  simp only[be]at hl;simp only[bO,List.nodup_cons]at hd;have⟨q1,q2,q3,q4⟩:=hx x Uf;rw[fX,Ee hn h.1 q2 q1 q3 q4 Ue];simp only
  rw[GV hn xs rs (N++ [102::gB x.1]) (M++ [x.1+1]) h.2 (λy hy=>by
   have⟨p1,p2,p3,p4⟩:=hx y (aT _ hy);have Uu:x.1≠y.1:=λe=>hd.1 (aP.2 ⟨y,hy,e.symm⟩)
   refine⟨p1,p2,λh=> ?_,λh=> ?_⟩
   ·rcases aR.1 h with h|h
    ·exact p3 h
    ·have:=Fz ⟨y.1,p1⟩ ⟨x.1,q1⟩ (bn.1 h)
     simp_all
   simp_all) hd.2 (by grind)]
  simp[Mk]
def GW (hn:n<=3)(rest:List fo):∀(xs:List (Nat×F3)) (ps:List fo) (N:List qD) (M:au),oY (IE fs) (xs.map some) ps->(∀x∈xs,x.1<7/\GS n x.2/\Mk x∉N/\x.1+1∉M)->(xs.map (·.1)).Nodup->M.length+xs.length<=12->
  gy ((Mm n).map bl) (N.map bl) M (ps++rest)=gy ((Mm n).map bl) ((N++xs.map Mk).map bl) (M++xs.map λx=>x.1+1) rest
 | [],[],N,M,_,_,_,_=>Uf
 | [],_::_,_,_,h,_,_,_=>h.elim
 |_::_,[],_,_,h,_,_,_=>h.elim
 |x::xs,p::ps,N,M,h,hx,hd,hl=>by
  simp only[be]at hl;simp only[bO,List.nodup_cons]at hd;have⟨q1,q2,q3,q4⟩:=hx x Uf;obtain⟨⟨r,rfl,hr⟩,h2⟩:=h;rw[bf,gy]
  have e:mf ((Mm n).map bl) (N.map bl) M ⟨none,[r]⟩= .ok ((N++ [102::gB x.1]).map bl,M++ [x.1+1]):=by
   rw[mf,show(lW ((⟨none,[r]⟩:fo).oneof)==1)=false from rfl];simp only[aM,if_false];rw[fX,Ee hn hr q2 q1 q3 q4 Ue];rfl
  rw[e];simp only
  rw[GW hn rest xs ps (N++ [102::gB x.1]) (M++ [x.1+1]) h2 (λy hy=>by
   have⟨p1,p2,p3,p4⟩:=hx y (aT _ hy);have Uu:x.1≠y.1:=λe=>hd.1 (aP.2 ⟨y,hy,e.symm⟩)
   refine⟨p1,p2,λh=> ?_,λh=> ?_⟩
   ·rcases aR.1 h with h|h
    ·exact p3 h
    ·have:=Fz ⟨y.1,p1⟩ ⟨x.1,q1⟩ (bn.1 h)
     simp_all
   simp_all) hd.2 (by grind)]
  simp[Mk]
end
def oY.app {α β:Type}{R:β->α->Prop}:∀{xs ys:List β} {l:List α},oY R (xs++ys) l->∃a b,l=a++b/\oY R xs a/\oY R ys b
 | [],_,l,h=>⟨[],l,rfl,trivial,h⟩
 |_::_,_,[],h=>h.elim
 |x::xs,ys,y::l,h=>by
  have⟨a,b,e,h1,h2⟩:=oY.app h.2;exact⟨y::a,b,by rw[e];rfl,⟨h.1,h1⟩,h2⟩
def OM (fs:List F3)(n:Nat):(Az fs n).map (·.1)=List.range n:=by
 unfold Az;rw[bB];exact List.map_id'' (λ_=>rfl) _
def AB (fs:List F3)(q:Nat×F3->Bool):(((Az fs fs.length).filter q).map (·.1)).Nodup:=by
 have h:(((Az fs fs.length).filter q).map (·.1)).Sublist ((Az fs fs.length).map (·.1)):=List.filter_sublist.map _;rw[OM]at h
 grind
def QP {n:Nat}(hn:n<=3){fs:List F3}(hf:∀f∈fs,GS n f)(h7:fs.length<=7){ps:List fo}(h:oY (IE fs) (iP fs) ps):∃r,gy ((Mm n).map bl) [] [] ps= .ok r:=by
 have hm:∀q,∀x∈(Az fs fs.length).filter q,x.1<7/\GS n x.2:=λq x hx=>by
  have⟨h1,h2,_⟩:=tt (bw.1 hx).1 (ay _)
  grind
 have hlen:∀q,((Az fs fs.length).filter q).length<=7:=λq=>by
  have:=bV q (Az fs fs.length);have e:(Az fs fs.length).length=fs.length:=by unfold Az;simp
  omega
 have hsum:(mM fs).length+(ones fs).length<=7:=by
  have e:(Az fs fs.length).length=fs.length:=by unfold Az;simp
  have:=List.length_eq_countP_add_countP yD (l:=Az fs fs.length);rw[List.countP_eq_length_filter,List.countP_eq_length_filter]at this;unfold mM ones
  grind
 unfold iP at h;obtain⟨a,b,rfl,h1,h2⟩:=h.app;have:=GW hn b (mM fs) a [] [] h1 (λx hx=>⟨(hm _ x hx).1,(hm _ x hx).2,Uf,Uf⟩) (AB fs _) (by(simp;omega));rw[show([]:ar)=([]:List qD).map bl from rfl,this]
 by_cases ho:ones fs= []
 ·rw[dE ho]at h2
  match b,h2 with
  | [],_=>exact⟨_,rfl⟩
 ·rw[dD ho]at h2
  match b,h2 with
  | [p],h2=>
   obtain⟨⟨o,rs,rfl,Ux⟩,_⟩:=h2;rw[gy]
   have hk:(lW (some (bl [111],o))==1)=true:=by
    show(dJ (bl [111])==1)=true;rw[it];rfl
   have Uv:([111]:qD)∉([]++(mM fs).map Mk):=λq=>by
    have⟨x,_,e⟩:=aP.1 q
    cases e
   have hdis:∀x∈ones fs,∀y∈mM fs,x.1≠y.1:=λx hx y hy e=>by
    have⟨x1,x2⟩:=bw.1 hx;have⟨y1,y2⟩:=bw.1 hy;have ex:=(tt x1 (ay _)).2.2;have ey:=(tt y1 (ay _)).2.2
    grind
   unfold mf;rw[dE hk];simp only;rw[show jg (some (bl [111],o))=bl [111]from rfl,tu Uv Uh];simp only[aM,if_false];have e:([]++(mM fs).map Mk).map bl++ [bl [111]]=(([]++(mM fs).map Mk)++ [[111]]).map bl:=Uf
   have hA:∀x∈ones fs,x.1<7/\GS n x.2/\Mk x∉([]++(mM fs).map Mk)++ [[111]]/\x.1+1∉ []++(mM fs).map λx=>x.1+1:=λx hx=>by
    refine⟨(hm _ x hx).1,(hm _ x hx).2,λq=> ?_,λq=> ?_⟩
    ·rcases aR.1 q with q|q
     ·have⟨y,hy,e⟩:=aP.1 q;have:=Fz ⟨y.1,(hm _ y hy).1⟩ ⟨x.1,(hm _ x hx).1⟩ e
      grind
     ·cases bn.1 q
    grind
   rw[e,GV hn (g:=λ_=>3) (ones fs) rs _ _ Ux hA (AB fs _) (by grind)];exact⟨_,rfl⟩
def GX {n:Nat}(hn:n<=3):∀(xs:List (Nat×List F3)) (bs:List dQ) (N:List qD) (m:Nat),oY Fy (xs.map some) bs->(∀x∈xs,x.1<3/\x.2.length<=7/\(∀f∈x.2,GS n f)/\(77::gB x.1)∉N)->(xs.map (·.1)).Nodup->m+xs.length<=3->∃r,fC ((Mm n).map bl) (N.map bl) m bs= .ok r
 | [],[],_,_,_,_,_,_=>⟨_,rfl⟩
 | [],_::_,_,_,h,_,_,_=>h.elim
 |_::_,[],_,_,h,_,_,_=>h.elim
 |x::xs,b::bs,N,m,h,hx,hd,hl=>by
  simp only[be]at hl;simp only[bO,List.nodup_cons]at hd;have⟨q1,q2,q3,q4⟩:=hx x Uf;obtain⟨⟨p,ps,rfl,Uy⟩,h2⟩:=h;have⟨r,hr⟩:=QP hn q3 q2 Uy;rw[fC];simp only;rw[tu q4 (by simp[dig_len])];simp only[aM,if_false];rw[dD (by grind),hr];simp only;rw[show N.map bl++ [bl (77::gB x.1)]=(N++ [77::gB x.1]).map bl by simp];have hi:∀a b:Fin 3,(77::gB a.val)=(77::gB b.val)->a=b:=Ui
  exact GX hn xs bs _ (m+1) h2 (λy hy=>by
   have⟨p1,p2,p3,p4⟩:=hx y (aT _ hy);refine⟨p1,p2,p3,λh=> ?_⟩
   rcases aR.1 h with h|h
   ·exact p4 h
   ·have:=hi ⟨y.1,p1⟩ ⟨x.1,q1⟩ (bn.1 h)
    grind) hd.2 Ue
def FA {L:List (List F3)}(h:QI L)(hz:(pZ L).size<=2000):∃bs,im (pZ L)= .ok bs/\oY Fy (Pg L L.length) bs:=by
 have⟨bs,j,e,hb⟩:=OJ h;refine⟨bs,?_,hb⟩;have⟨f1,f2⟩:=h.few;unfold im;rw[dD Ue,e];simp only
 match bs,hb with
 |b::bs,hb=>
  obtain⟨⟨p,q,r,rfl⟩,hb⟩:=hb
  have Uw:∀(xs:List (Nat×List F3)) (bs:List dQ),oY Fy (xs.map some) bs->fi bs=(xs.map λx=>77::gB x.1).map bl:=λxs=>by
   induction xs with
   |nil=>intro bs h;match bs,h with| [],_=>rfl
   |cons x xs ih=>
    intro bs h
    match bs,h with
    |b::bs,h=>
     obtain⟨⟨p,ps,rfl,_⟩,h2⟩:=h;show _::fi bs=_
     simp_all
  have hb:oY Fy ((((List.range L.length).map λi=>(i,(L[i]?).getD []))).map some) bs:=by rw[bB];exact hb
  have en:fi (⟨true,(bl [69],p),[],[((bl [65],q),(bl [48],r))]⟩::bs)=(Mm L.length).map bl:=by
   show bl [69]::fi bs=_;rw[Uw _ _ hb];unfold Mm;simp
  rw[en,fC];simp only;rw[show([]:ar)=([]:List qD).map bl from rfl,tu Uf Uh];simp only[aM,if_false,if_true];rw[ki];simp only;rw[show([]:ar)=([]:List qD).map bl from rfl,tu Uf Uh];simp only[aM,if_false];rw[dD (show¬decide (2147483647<iJ (bl [48]))=true by decide+kernel),ki];simp only
  have⟨u,hu⟩:=GX (n:=L.length) f2 _ bs [[69]] 0 hb (λx hx=>by
   obtain⟨k,hk,rfl⟩:=aP.1 hx;have hk:=List.mem_range.1 hk;simp only;rw[aK hk];have⟨_,g1,g2⟩:=h.fs _ (List.getElem_mem hk)
   exact⟨Ue,g1,g2,Uf⟩) (by rw[bB,List.map_id'' (f:=(λx:Nat×List F3=>x.1)∘λi=>(i,(L[i]?).getD [])) (λ_=>rfl)];grind) Ug
  rw[show List.map bl []++bl [69]::List.map bl []=List.map bl [[69]]from rfl,hu]
end Go.Proofs.YtfebdimolnobaaaGreatDoor
