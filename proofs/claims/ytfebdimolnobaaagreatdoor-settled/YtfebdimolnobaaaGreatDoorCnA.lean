import Derived.Test.YtfebdimolnobaaaGreatDoorKsA
import Derived.Test.YtfebdimolnobaaaGreatDoorEsB
set_option maxRecDepth 100000
set_option maxHeartbeats 8000000
set_option linter.all false
namespace Go.Proofs.YtfebdimolnobaaaGreatDoor
open Go.RowKit Go.Proofs.Tryz



section
open Go.Maps
def Ak:Fx PM->PM
 | .error _=>PM.none
 | .ok m=>m
def Al:Fx PM->Int×Int
 | .error x=>x
 | .ok _=>(0,0)
def kG.one {ks:au}{K:(ap)->an->Prop}{w:an}{R:Fx PM}{e:Ending}{w':an}(h:kG ks K w R e w'):
  ∃v Z,e= .returned (.tuple #[.agg #[v,ae (Ak R).unk],aa (Al R).1,aa (Al R).2])/\o0 9 w' v (Ak R) Z/\(∀b,Z b->w.heap.size<=b/\b<w'.heap.size)/\dS ks w w'/\K Z w':=by
 cases R with
 |error x=>exact⟨_,λ_=>False,h.1,o0.none 8 w' _,λ_ q=>q.elim,h.2.1,h.2.2⟩
 |ok m=>
  obtain⟨v,Z,h1,h2,h3,h4,h5⟩:=h;exact⟨v,Z,h1,h2,h3,h4,h5⟩
def IU {t:am}{k:Int}{p:Nat}(h:iw t= .error (k,p)):k≠0:=by
 unfold iw at h
 grind
structure rN (w:an)(sb kp mk:Nat)(bs:List dO)(R:ap)(W:an):Prop where
 bel:aj w W
 low:∀b,b<w.heap.size->R b
 lt:∀b,R b->b<W.heap.size
 sch:∃P,kH W sb kp mk bs P/\∀b,R b->¬P b
structure pt (R:ap)(W W':an):Prop where
 size:W.heap.size<=W'.heap.size
 block:∀b,R b->W'.heap[b]?=W.heap[b]?
section
variable {w W W':an} {sb kp mk:Nat} {bs:List dO} {R R':ap}
def pt.blk (h:pt R W W'){b:Nat}{cs:Array Value}{T:TypeId}(hb:dK W b cs T)(hR:R b):dK W' b cs T:=(h.block b hR).trans hb
def pt.mrn (h:pt R W W'){k:Nat}{Z:ap}{v:Value}{m:PM}(hm:iy k W Z v m)(hZ:∀b,Z b->R b):iy k W' Z v m:=hm.keep λb q _=>h.block b (hZ b q)
def rN.uok (h:rN w sb kp mk bs R W)(hu:UOK w):UOK W:=hu.keep (h.bel.block _ hu.lt1) (h.bel.block _ hu.lt2)
def rN.step (h:rN w sb kp mk bs R W){P P':ap}(hk:dS [mk,kp] W W')(hs:kH W sb kp mk bs P)(hP:∀b,R b->¬P b)(hs':kH W' sb kp mk bs P')(hP':∀b,R' b->¬P' b)(hi:∀b,R b->R' b)(hlt:∀b,R' b->b<W'.heap.size):
  rN w sb kp mk bs R' W'/\pt R W W':=by
 obtain⟨pm,pk,_,_⟩:=hs.lt;refine⟨⟨h.bel.trans (hk.to_below h.bel.size λx hx=> ?_),λb hb=>hi b (h.low b hb),hlt,P',hs',hP'⟩,hk.size,λb hR=>hk.block b (h.lt b hR) λhx=> ?_⟩
 ·refine Nat.le_of_not_lt λhl=>hP x (h.low x hl) ?_
  simp only[aN,bF,or_false]at hx
  rcases hx with rfl|rfl<;>assumption
 grind
def rN.on (h:rN w sb kp mk bs R W)(hb:Below W.heap.size W W'):rN w sb kp mk bs (λx=>R x\/(W.heap.size<=x/\x<W'.heap.size)) W'/\pt R W W':=by
 obtain⟨P,hs,hP⟩:=h.sch;have hl:=hb.size;refine⟨⟨dG h.bel hb,λb q=> .inl (h.low b q),λb q=> ?_,_,(hs.less (P':=λx=>P x/\x<W.heap.size) λx q hl=>⟨q,hl⟩).keep (w':=W') λb _ hl=>hb.block b hl,λb q p=> ?_⟩,hl,λb q=>hb.block b (h.lt b q)⟩
 ·rcases q with q|q
  ·have:=h.lt b q;omega
  omega
 grind
def rN.dec (h:rN w sb kp mk bs R W)(hsb:jt bs)(hu:UOK w)(nm b:am)(hb:b.size<=268435456)(way:Int)(hw:way=1\/way=2):
  Calls prog 21 #[ag sb,aa way,ae nm,ae b] W λe W'=>
   ∃v Z,e= .returned (.tuple #[.agg #[v,ae (Ak (il (dV bs) nm b)).unk],aa (Al (il (dV bs) nm b)).1,aa (Al (il (dV bs) nm b)).2])/\iy 9 W' Z v (Ak (il (dV bs) nm b))/\rN w sb kp mk bs (λx=>R x\/Z x) W'/\pt R W W':=by
 obtain⟨P,hs,hP⟩:=h.sch;refine(yB sX W sb kp mk bs P nm b way hs hsb (h.uok hu) hb hw (hP _ (h.low _ hu.lt1)) (hP _ (h.low _ hu.lt2))).mono ?_;intro e W' q;obtain⟨v,Z,h1,h2,h3,h4,h5⟩:=q.one;have hl:=h4.size
 obtain⟨a1,a2⟩:=h.step h4 hs hP h5 (R':=λx=>R x\/Z x) (λx q p=>by
  rcases q with q|q<;>rcases p with⟨p,p2⟩|⟨p,p2⟩
  ·simp_all
  ·have:=h.lt x q;omega
  ·grind
  simp_all) (λx q=> .inl q) (λx q=>by
  rcases q with q|q
  ·have:=h.lt x q;omega
  simp_all)
 exact⟨v,Z,h1,h2.toIn.rn,a1,a2⟩
def rN.aft (h:rN w sb kp mk bs R W){P:ap}(hs:kH W sb kp mk bs P)(hP:∀b,R b->¬P b)(hk:dS [mk,kp] W W')(hs':kH W' sb kp mk bs λx=>(P x/\x<W.heap.size)\/W.heap.size<=x):rN w sb kp mk bs R W'/\pt R W W':=
 h.step hk hs hP hs' (λx q p=>by
  have:=h.lt x q
  grind) (λ_ q=>q) (λx q=>aC (h.lt x q) hk.size)
def rN.enc (h:rN w sb kp mk bs R W)(hsb:jt bs)(hu:UOK w)(nm:am)(way:Int)(hw:way=1\/way=2){k:Nat}{Z:ap}{mv:Value}{m:PM}(hM:iy k W Z mv m)(hZ:∀b,Z b->R b)(hO:nR k m)(hwt:wz k m<=140737488355328):
  Calls prog 24 #[ag sb,aa way,ae nm,.agg #[mv,ae m.unk]] W λe W'=>e= .returned (.tuple #[ae (kh (dV bs) nm m).1,aa (kh (dV bs) nm m).2])/\rN w sb kp mk bs R W'/\pt R W W':=by
 obtain⟨P,hs,hP⟩:=h.sch;refine(yC sX W sb kp mk bs P nm way Z k mv m hs hsb (h.uok hu) hw (hP _ (h.low _ hu.lt1)) (hP _ (h.low _ hu.lt2)) hM (λb q=>hP b (hZ b q)) hO λd _=>aH (qO 8 k d m hO) hwt).mono ?_;rintro e W' ⟨h1,h2,h3⟩;exact⟨h1,h.aft hs hP h2 h3⟩
def rN.new {w1:an}(hb:aj w W)(hl:w.heap.size<=w1.heap.size)(hl2:w1.heap.size<=W.heap.size)(hs:BO W sb kp mk bs w1.heap.size)(hsb:jt bs):rN w sb kp mk bs (λb=>b<w1.heap.size) W:=
 ⟨hb,λb q=>QD,λb q=>QD,_,hs.toP hsb,λb q p=>QD⟩
end
end
section
variable {b c:am} {e a deep e':Nat} {S:d8}
structure Ag (b c:am)(e:Nat):Prop where
 at_:∀i,i<e->fE c i=fE b i
 ext:∀i j,j<=e->c.extract i j=b.extract i j
theorem Ag.refl (b:am)(e:Nat):Ag b b e:=⟨λ_ _=>rfl,λ_ _ _=>rfl⟩
theorem Ag.less {f:Nat}(h:Ag b c e)(hf:f<=e):Ag b c f:=⟨λi hi=>h.at_ i QD,λi j hj=>h.ext i j QD⟩
theorem pu (b:am)(i:Nat):fE b i=((b.data.toList[i]?).map λx=>(x.toNat:Int)).getD 0:=by
 unfold fE
 split
 ·rename_i h
  rw[bt,bz (show i<b.data.size from h)];rfl
 simp_all
theorem nM (b t:am):(b++t).data.toList=b.data.toList++t.data.toList:=QE
theorem Ln (b t:am)(i:Nat):fE (b++t) (b.size+i)=fE t i:=by
 rw[pu,pu,nM,cB QE];simp
theorem Ag.app (b t:am):Ag b (b++t) b.size:=by
 refine⟨λi hi=> ?_,λi j hj=> ?_⟩
 ·rw[pu,pu,nM,cM (by simpa using hi)]
 ·have h1:∀c:am,(c.extract i j).data.toList=(c.data.toList.take j).drop i:=λc=>by
   rw[cH,Array.toList_extract,List.extract_eq_take_drop,List.drop_take]
  have h2:((b++t).extract i j).data.toList=(b.extract i j).data.toList:=by
   rw[h1,h1,nM,cX (by simpa using hj)]
  exact cK (cN.1 h2)
theorem IV (h:Ag b c e):∀f i n,lz c a e f i n=lz b a e f i n
 |0,_,_=>rfl
 |f+1,i,n=>by
  rw[lz,lz]
  split
  ·rename_i hl
   rw[h.at_ _ hl,IV h f]
  ·rfl
theorem DJ (h:Ag b c e):fw c a e=fw b a e:=by
 have hv:∀a,gy c a e=gy b a e:=λa=>IV h 10 0 0
 unfold fw;rw[hv a]
 split
 ·rfl
 ·rename_i t fr _
  rw[hv fr];have e8:fr+8<=e->c.extract fr (fr+8)=b.extract fr (fr+8):=λq=>h.ext _ _ q
  have e4:fr+4<=e->c.extract fr (fr+4)=b.extract fr (fr+4):=λq=>h.ext _ _ q
  simp_all
theorem Am {k:Nat}(h:Ag b c e):∀F l a,fy c k e F l a=fy b k e F l a
 |0,_,_=>rfl
 |F+1,l,a=>by
  rw[fy,fy];have hv:gy c a e=gy b a e:=IV h 10 0 0;rw[hv]
  split
  ·split
   ·split
    ·rfl
    ·rw[Am h F]
   ·simp only;generalize(if ei k=5 then 4 else 8)=z
    split
    ·rw[h.ext _ _ ‹_›,Am h F]
    ·rfl
  ·rfl
def jI (S:d8)(b:am)(F:Nat)(d:MT)(m:PM)(r:om)(deep:Nat):Fx PM:=
 match dP d.fs r.num with
 |none=> .ok (m.keep (b.extract r.a r.e))
 |some f=>if r.kind=fA S f then oS S b F d f m r deep
  else if r.kind=2/\f.isRep=true then(match lA S b f (m.get f.num) r.fr r.e with| .error x=> .error x| .ok l=> .ok (m.put f.num l))
  else .ok (m.keep (b.extract r.a r.e))
theorem iR {F:Nat}{d:MT}{m:PM}{r:om}(h:a<e)(hr:fw b a e= .ok r):ew S b (F+1) d m a e deep=GV S b F d r.e e deep (jI S b F d m r deep):=by
 unfold jI
 split
 ·rename_i hf
  exact oc h hr λf q=>by simp_all
 ·rename_i f hf
  split
  ·exact xO h hr hf ‹_›
  ·split
   ·rename_i hk hp
    exact vt h hr hf hk hp.1 hp.2
   ·rename_i hk hp
    exact oc h hr λg q=>by
     simp_all
theorem mM:∀(F G:Nat) (d:MT) (m:PM) (a e deep:Nat),Ag b c e->e-a<F->e-a<G->ew S c G d m a e deep=ew S b F d m a e deep
 |0,_,_,_,_,_,_,_,h,_=>absurd h QD
 |_+1,0,_,_,_,_,_,_,_,h=>absurd h QD
 |F+1,G+1,d,m,a,e,deep,hA,hF,hG=>by
  by_cases hl:a<e
  ·have QP:=DJ (a:=a) hA
   cases hr:fw b a e with
   |error x=>rw[iH hl hr,iH hl (QP.trans hr)]
   |ok r=>
    rw[iR hl hr,iR hl (QP.trans hr)];obtain⟨r1,r2,r3,r4,r5,_⟩:=iC hr;have QQ:=hA.less r5
    have hs:jI S c G d m r deep=jI S b F d m r deep:=by
     have hx:c.extract r.a r.e=b.extract r.a r.e:=hA.ext _ _ r5;have hy:c.extract r.fr r.e=b.extract r.fr r.e:=hA.ext _ _ r5;unfold jI;rw[hx]
     split
     ·rfl
     ·rename_i f _
      split
      ·have:mW S c G f m r deep=mW S b F f m r deep:=by
        unfold mW xd mR;rw[hy]
        split
        ·rename_i sub _
         rw[mM F G sub _ r.fr r.e (deep+1) QQ QD QD]
        ·rfl
       unfold oS;rw[this]
      ·unfold lA;rw[Am QQ]
    rw[hs];unfold GV
    split
    ·rfl
    ·exact mM F G d _ r.e e deep hA QD QD
  ·rw[ie hl,ie hl]
theorem IW (he:e<=e'):∀f i n,(∀x,lz b a e f i n= .ok x->lz b a e' f i n= .ok x)/\∀c p,lz b a e f i n= .error (c,p)->c≠6->lz b a e' f i n= .error (c,p)
 |0,_,_=>⟨λ_ h=>h,λ_ _ h _=>h⟩
 |f+1,i,n=>by
  rw[lz,lz]
  by_cases hl:a+i<e
  ·rw[dB hl,dB (show a+i<e' by omega)]
   split
   ·simp
   ·split
    ·simp
    ·exact IW he f _ _
  grind
theorem uE (he:e<=e'):(∀x,gy b a e= .ok x->gy b a e'= .ok x)/\∀c p,gy b a e= .error (c,p)->c≠6->gy b a e'= .error (c,p):=IW he 10 0 0
theorem An (he:e<=e'):(∀r,fw b a e= .ok r->fw b a e'= .ok r)/\∀c p,fw b a e= .error (c,p)->c≠6->fw b a e'= .error (c,p):=by
 have err6:∀{α:Type} {c p:Int} {k:Nat} {X:Fx α},(Except.error ((6:Int),(k:Int)):Fx α)= .error (c,p)->c≠6->X= .error (c,p):=λh hc=>by
  simp_all
 obtain⟨v1,v2⟩:=uE (b:=b) (a:=a) he;unfold fw
 cases hv:gy b a e with
 |error x=>
  refine⟨λr h=>(by cases h),λc p h hc=> ?_⟩;have h:Except.error x=Except.error (c,p):=h
  cases h
  rw[v2 c p hv hc]
 |ok x=>
  obtain⟨t,fr⟩:=x;rw[v1 _ hv];simp only;obtain⟨u1,u2⟩:=uE (b:=b) (a:=fr) he
  split
  ·simp
  grind
theorem pT (he:e<=e'):∀(F G:Nat) (d:MT) (m:PM) (a:Nat),a<=e->e-a<F->e'-a<G->
  (∀c p,ew S b F d m a e deep= .error (c,p)->c≠6->ew S b G d m a e' deep= .error (c,p))/\
  ∀m',ew S b F d m a e deep= .ok m'->∀K,e'-e<K->ew S b G d m a e' deep=ew S b K d m' e e' deep
 |0,_,_,_,_,_,h,_=>absurd h QD
 |_+1,0,_,_,_,_,_,h=>absurd h QD
 |F+1,G+1,d,m,a,ha,hF,hG=>by
  by_cases hl:a<e
  ·cases hr:fw b a e with
   |error x=>
    rw[iH hl hr];refine⟨λc p h hc=> ?_,λm' h=>(by cases h)⟩
    cases h
    exact iH QD ((An he).2 c p hr hc)
   |ok r=>
    obtain⟨r1,r2,r3,r4,r5,_⟩:=iC hr;rw[iR hl hr,iR QD ((An he).1 r hr)]
    have hs:jI S b G d m r deep=jI S b F d m r deep:=by
     unfold jI oS mW xd
     split
     ·rfl
     ·split
      ·split
       ·rename_i sub _
        rw[mM F G sub _ r.fr r.e (deep+1) (Ag.refl _ _) QD QD]
       ·rfl
      ·rfl
    rw[hs]
    cases hq:jI S b F d m r deep with
    |error x=>exact⟨λc p h _=>h,λm' h=>(by cases h)⟩
    |ok m1=>exact pT he F G d m1 r.e r5 QD QD
  ·rw[ie hl];obtain rfl:a=e:=QD;refine⟨λc p h=>(by cases h),λm' h K hK=> ?_⟩
   cases h
   exact mM K (G+1) d m a e' deep (Ag.refl _ _) hK QD
theorem Ao {k:Nat}{c p:Int}:∀F l a,fy b k e F l a= .error (c,p)->c≠0
 |0,_,_,h=>by cases h
 |F+1,l,a,h=>by
  rw[fy]at h
  split at h
  ·split at h
   ·split at h
    ·rename_i x hv
     cases h
     have:=(D3 hv).1;omega
    ·exact Ao F _ _ h
   ·simp only at h;generalize(if ei k=5 then 4 else 8)=z at h
    split at h
    ·exact Ao F _ _ h
    grind
  ·cases h
theorem Ap {c p:Int}:∀(F:Nat) (d:MT) (m:PM) (a e deep:Nat),ew S b F d m a e deep= .error (c,p)->c≠0
 |0,_,_,_,_,_,h=>by cases h
 |F+1,d,m,a,e,deep,h=>by
  by_cases hl:a<e
  ·cases hr:fw b a e with
   |error x=>rw[iH hl hr]at h;cases h;exact GW hr
   |ok r=>
    rw[iR hl hr]at h
    cases hs:jI S b F d m r deep with
    |ok m1=>rw[hs]at h;exact Ap F d m1 r.e e deep h
    |error x=>
     rw[hs]at h
     cases h
     unfold jI at hs
     split at hs
     ·cases hs
     ·rename_i f _
      split at hs
      ·unfold oS at hs
       cases hv:mW S b F f m r deep with
       |ok v=>rw[hv]at hs;cases hs
       |error x=>
        rw[hv]at hs
        cases hs
        unfold mW xd at hv
        split at hv
        ·rename_i sub _
         split at hv
         ·rename_i x hx
          cases hv
          split at hx
          ·grind
          ·exact Ap F _ _ _ _ _ hx
         ·cases hv
        ·unfold mR at hv
         grind
      ·split at hs
       ·split at hs
        ·rename_i x hx
         cases hs
         exact Ao _ _ _ hx
        ·cases hs
       ·cases hs
  ·rw[ie hl]at h
   cases h
theorem Nr {nm:am}{c p:Int}(h:il S nm b= .error (c,p)):c≠0:=by
 unfold il at h
 split at h
 ·grind
 ·exact Ap _ _ _ _ _ _ h
theorem wD {t:am}:∀f i n,(∀m z,lz t a e f i n= .ok (m,z)->lz (b++t) (b.size+a) (b.size+e) f i n= .ok (m,b.size+z))/\∀c p,lz t a e f i n= .error (c,p)->lz (b++t) (b.size+a) (b.size+e) f i n= .error (c,b.size+p)
 |0,_,_=>by
  refine⟨λm z h=>(by cases h),λc p h=> ?_⟩
  cases h
  rfl
 |f+1,i,n=>by
  rw[lz,lz,show b.size+a+i=b.size+(a+i)by omega,Ln]
  by_cases hl:a+i<e
  ·rw[dB hl,dB (show b.size+(a+i)<b.size+e by omega)]
   split
   ·simp
   ·split
    ·(simp;omega)
    ·exact wD f _ _
  grind
theorem yD {t:am}{c p:Int}(h:fw t a e= .error (c,p)):fw (b++t) (b.size+a) (b.size+e)= .error (c,b.size+p):=by
 have hv:∀a,(∀m z,gy t a e= .ok (m,z)->gy (b++t) (b.size+a) (b.size+e)= .ok (m,b.size+z))/\∀c p,gy t a e= .error (c,p)->gy (b++t) (b.size+a) (b.size+e)= .error (c,b.size+p):=λa=>wD 10 0 0
 unfold fw at*
 cases h1:gy t a e with
 |error x=>
  rw[h1]at h;have h:Except.error x=Except.error (c,p):=h
  cases h
  rw[(hv a).2 c p h1]
 |ok x=>
  grind
end
def om.sh (r:om)(k:Nat):om:=⟨r.num,r.kind,k+r.a,k+r.fr,k+r.e,r.n⟩
def pw (c:am)(i j:Nat):(c.extract i j).data.toList=(c.data.toList.take j).drop i:=by
 rw[cH,Array.toList_extract,List.extract_eq_take_drop,List.drop_take]
def lx {a b:am}(h:a.data.toList=b.data.toList):a=b:=cK (cN.1 h)
def rO (b t:am)(i j:Nat):(b++t).extract (b.size+i) (b.size+j)=t.extract i j:=by
 refine lx ?_;simp
section
variable {b t:am}
def EJ {a e:Nat}{m:Int}{z:Nat}(h:gy t a e= .ok (m,z)):gy (b++t) (b.size+a) (b.size+e)= .ok (m,b.size+z):=(wD 10 0 0).1 m z h
def DK {a e:Nat}{r:om}(h:fw t a e= .ok r):fw (b++t) (b.size+a) (b.size+e)= .ok (r.sh b.size):=by
 unfold fw at*
 cases h1:gy t a e with
 |error x=>simp_all
 |ok x=>
  obtain⟨n,fr⟩:=x;rw[h1]at h;rw[EJ h1];simp only at*
  split at h
  ·cases h
  ·rw[dA ‹_›]
   split at h
   ·rw[dB ‹_›]
    cases h2:gy t fr e with
    |error x=>simp_all
    |ok x=>
     rw[h2]at h;rw[EJ h2]
     cases h
     rfl
   ·rw[dA ‹_›]
    split at h
    ·rw[dB ‹_›]
     split at h
     ·rw[dB QD]
      cases h
      rw[cV,rO];rfl
     ·cases h
    ·rw[dA ‹_›]
     split at h
     ·rw[dB ‹_›]
      split at h
      ·rw[dB QD]
       cases h
       rw[cV,rO];rfl
      ·cases h
     ·rw[dA ‹_›]
      split at h
      ·rw[dB ‹_›]
       cases h2:gy t fr e with
       |error x=>simp_all
       |ok x=>
        obtain⟨q,bh⟩:=x;rw[h2]at h;rw[EJ h2];simp only at*
        split at h
        ·rw[dB QD]
         cases h
         simp[om.sh,cV]
        ·cases h
      ·cases h
def Aq {k e:Nat}{l':List PV}:∀F l a,fy t k e F l a= .ok l'->fy (b++t) k (b.size+e) F l (b.size+a)= .ok l'
 |0,_,_,h=>h
 |F+1,l,a,h=>by
  rw[fy]at*
  by_cases hl:a<e
  ·rw[dB hl]at h;rw[dB (show b.size+a<b.size+e by omega)]
   split at h
   ·rw[dB ‹_›]
    cases h2:gy t a e with
    |error x=>simp_all
    |ok x=>
     rw[h2]at h;rw[EJ h2];exact Aq F _ _ h
   ·rw[dA ‹_›];simp only at*;generalize(if ei k=5 then 4 else 8)=z at*
    split at h
    ·rw[dB QD,cV,rO];exact Aq F _ _ h
    ·cases h
  grind
def uF {S:d8}:∀(F:Nat) (d:MT) (m:PM) (a e deep:Nat) (m':PM),ew S t F d m a e deep= .ok m'->ew S (b++t) F d m (b.size+a) (b.size+e) deep= .ok m'
 |0,_,_,_,_,_,_,h=>h
 |F+1,d,m,a,e,deep,m',h=>by
  by_cases hl:a<e
  ·cases hr:fw t a e with
   |error x=>rw[iH hl hr]at h;cases h
   |ok r=>
    rw[iR hl hr]at h;rw[iR QD (DK hr)]
    cases hs:jI S t F d m r deep with
    |error x=>rw[hs]at h;cases h
    |ok m1=>
     rw[hs]at h
     have QQ:jI S (b++t) F d m (r.sh b.size) deep= .ok m1:=by
      have hx:(b++t).extract (r.sh b.size).a (r.sh b.size).e=t.extract r.a r.e:=rO b t r.a r.e;have hy:(b++t).extract (r.sh b.size).fr (r.sh b.size).e=t.extract r.fr r.e:=rO b t r.fr r.e;unfold jI at*;rw[hx];show(match dP d.fs r.num with|none=>_|some f=>if r.kind=fA S f then _ else if r.kind=2/\f.isRep=true then _ else _)=_
      split at hs
      ·simp_all
      ·rename_i f hf
       try(rw[hf];simp only)
       split at hs
       ·rw[dB ‹_›];unfold oS at*
        have:∀v,mW S t F f m r deep= .ok v->mW S (b++t) F f m (r.sh b.size) deep= .ok v:=λv hv=>by
         unfold mW xd mR at*;rw[hy]
         split at hv
         ·rename_i sub _
          split at hv
          ·cases hv
          ·rename_i sm QP
           split at QP
           ·grind
           ·rw[dA ‹_›,show(r.sh b.size).fr=b.size+r.fr from rfl,show(r.sh b.size).e=b.size+r.e from rfl,uF F sub _ r.fr r.e (deep+1) sm QP];exact hv
         ·split at hv
          ·rw[dB ‹_›]
           grind
          ·rw[dA ‹_›];exact hv
        cases hv:mW S t F f m r deep with
        |error x=>rw[hv]at hs;cases hs
        |ok v=>simp_all
       ·rw[dA ‹_›]
        split at hs
        ·rw[dB ‹_›];unfold lA at*
         split at hs
         ·cases hs
         ·rename_i l' hp
          rw[show(r.sh b.size).fr=b.size+r.fr from rfl,show(r.sh b.size).e=b.size+r.e from rfl,show b.size+r.e-(b.size+r.fr)=r.e-r.fr by omega,Aq _ _ _ hp];exact hs
        simp_all
     rw[QQ];exact uF F d m1 r.e e deep m' h
  ·rw[ie hl]at h;rw[ie QD];exact h
end
def rd (S:d8)(t:am)(d:MT)(m:PM)(deep:Nat):Fx PM:=ew S t (t.size+1) d m 0 t.size deep
def Ns (S:d8)(nm b:am):il S nm b=match S.msg nm with|none=> .error (5,0)|some d=>rd S b d PM.none 1:=rfl
section
variable {S:d8} {d:MT} {m m1 m2:PM} {deep:Nat} {s t:am}
def Px (h:t.size=0):rd S t d m deep= .ok m:=ie QD
def DL (h1:rd S s d m deep= .ok m1)(h2:rd S t d m1 deep= .ok m2):rd S (s++t) d m deep= .ok m2:=by
 unfold rd at*;have hz:(s++t).size=s.size+t.size:=QE;rw[<-mM (s.size+1) (s.size+1) d m 0 s.size deep (Ag.app s t) QD QD]at h1;rw[(pT QD _ _ d m 0 (aM _) QD QD).2 m1 h1 (t.size+1) QD,hz];exact uF (t.size+1) d m1 0 t.size deep m2 h2
def OC (h:rd S t d m deep= .ok m1){F:Nat}(hF:t.size<F):ew S (s++t) F d m s.size (s.size+t.size) deep= .ok m1:=by
 rw[mM (b:=s++t) (t.size+1) F d m s.size (s.size+t.size) deep (Ag.refl _ _) QD QD];exact uF (t.size+1) d m 0 t.size deep m1 h
def Ar {r:om}(hr:fw t 0 t.size= .ok r)(he:r.e=t.size)(hs:jI S t t.size d m r deep= .ok m1):rd S t d m deep= .ok m1:=by
 obtain⟨_,_,h3,_,_,_⟩:=iC hr;unfold rd;rw[iR QD hr,hs];exact ie QD
end
def bl (l:List UInt8):am:=⟨l.toArray⟩
def pU (l:List UInt8):(bl l).data.toList=l:=rfl
def gL (l:List UInt8):(bl l).size=l.length:=QJ
def As (l r:List UInt8):bl (l++r)=bl l++bl r:=lx (by rw[nM,pU,pU,pU])
def EK (b:am):bl b.data.toList=b:=lx rfl
def rP {b:am}{x y:List UInt8}{c:UInt8}{i:Nat}(h:b.data.toList=x++c::y)(hi:i=x.length):fE b i=(c.toNat:Int):=by
 subst hi;rw[pu,h,cB (ay _)];simp
def Cp {b:am}{a e:Nat}:∀(f:Nat) (v:Int) (i:Nat) (n:Int) (x y:List UInt8),i+f=9->0<=v->v<2^(64-7*i)->b.data.toList=x++(sL f v++y)->x.length=a+i->a+i+(sL f v).length<=e->
  lz b a e (f+1) i n= .ok (n+v*2^(7*i),a+i+(sL f v).length)
 |0,v,i,n,x,y,hi,h0,h1,hb,hx,he=>by
  obtain rfl:i=9:=QD;have h2:v<2:=h1
  have hc:fE b (a+9)=v:=by
   rw[rP (c:=AI v) (y:=y) hb hx.symm,vT h0 QD]
  rw[lz,hc,dB (by simp[sL]at he;omega),dA QD,dB QD,show v%128=v by omega];rfl
 |f+1,v,i,n,x,y,hi,h0,h1,hb,hx,he=>by
  rw[sL]at*
  by_cases hv:v<128
  ·rw[dB hv]at*
   have hc:fE b (a+i)=v:=by
    rw[rP (c:=AI v) (y:=y) hb hx.symm,vT h0 QD]
   rw[lz,hc,dB (by grind),dA QD,dB hv,show v%128=v by omega];rfl
  ·rw[dA hv]at*
   have hc:fE b (a+i)=v%128+128:=by
    rw[rP (c:=AI (v%128+128)) (y:=sL f (v/128)++y) (by simp_all) hx.symm,vT QD QD]
   have hp:(2:Int)^(64-7*i)=2^(64-7*(i+1))*128:=by
    rw[show 64-7*i=64-7*(i+1)+7 by omega,Int.pow_add];rfl
   rw[hp]at h1;have ih:=Cp (b:=b) (a:=a) (e:=e) f (v/128) (i+1) (n+(v%128+128)%128*2^(7*i)) (x++ [AI (v%128+128)]) y QD QD (Int.ediv_lt_of_lt_mul QG h1) (by simp_all) (by grind) (by grind);rw[lz,hc,dB (by grind),dA QD,dA QD,ih,xI];have e1:(v%128+128)%128=v%128:=QD
   have e2:v*2^(7*i)=v%128*2^(7*i)+v/128*(128*2^(7*i)):=by
    grind
   rw[e1,e2,bE];simp only[Except.ok.injEq,Prod.mk.injEq]
   constructor<;>omega
def uG {b:am}{e:Nat}{v:Int}{x y:List UInt8}(hb:b.data.toList=x++(vi v++y))(h0:0<=v)(h1:v<18446744073709551616)(he:x.length+(vi v).length<=e):gy b x.length e= .ok (v,x.length+(vi v).length):=by
 have:=Cp (b:=b) (a:=x.length) (e:=e) 9 v 0 0 x y rfl h0 h1 hb rfl he;rw[gy,this];simp[vi]
def Cq {b:am}:∀(n:Nat) (v:Int) (x:List UInt8) (i:Nat),0<=v->v<256^n->b.data.toList=x++nP n v->i=x.length->Fc b n i=v
 |0,v,x,i,h0,h1,_,_=>by
  have:v<1:=h1;rw[Fc];omega
 |n+1,v,x,i,h0,h1,hb,hi=>by
  subst hi
  have hs:x.length<b.size:=by
   have:b.data.toList.length=b.size:=QE;rw[hb]at this;simp[nP]at this;omega
  rw[nP]at hb;rw[Fc,dB hs,rP hb rfl,vT QD QD,Cq n (v/256) (x++ [AI (v%256)]) (x.length+1) QD (Int.ediv_lt_of_lt_mul QG QD) (by simpa using hb) QE];omega
def uH {n:Nat}{v:Int}(h0:0<=v)(h1:v<256^n):uU (bl (nP n v))=v:=by
 unfold uU;rw[gL,gY];exact Cq n v [] 0 h0 h1 rfl rfl
def px {b:am}{x y z:List UInt8}(hb:b.data.toList=x++(y++z)):b.extract x.length (x.length+y.length)=bl y:=by
 refine lx ?_;rw[pw,hb,pU,<-aW,cX QE,bU QE];simp
section
variable {n:Int} (h0:1<=n) (h1:n<=536870911)
include h0 h1
def rQ {b:am}{e:Nat}{k:Int}{y:List UInt8}(hk0:0<=k)(hk1:k<8)(hb:b.data.toList=eW n k++y)(he:(eW n k).length<=e):gy b 0 e= .ok (n*8+k,(eW n k).length):=by
 have:=uG (b:=b) (e:=e) (v:=n*8+k) (x:= []) (y:=y) hb QD QD (by unfold eW at he;simpa using he);simpa [eW]using this
def Nt {v:Int}(hv0:0<=v)(hv1:v<18446744073709551616):fw (bl (eW n 0++vi v)) 0 (bl (eW n 0++vi v)).size= .ok ⟨n,0,0,(eW n 0).length,(bl (eW n 0++vi v)).size,v⟩:=by
 unfold fw;rw[rQ h0 h1 (y:=vi v) QG QG rfl (by rw[gL,aG];omega)];simp only;rw[dA QD,dB QD,uG (x:=eW n 0) (y:= []) (by rw[bK];rfl) hv0 hv1 (by rw[gL,aG];omega)];simp only;rw[gL,aG,show(n*8+0)/8=n by omega]
def OD {v:Int}(hv0:0<=v)(hv1:v<18446744073709551616):fw (bl (eW n 1++nP 8 v)) 0 (bl (eW n 1++nP 8 v)).size= .ok ⟨n,1,0,(eW n 1).length,(bl (eW n 1++nP 8 v)).size,v⟩:=by
 have hx:=px (b:=bl (eW n 1++nP 8 v)) (x:=eW n 1) (y:=nP 8 v) (z:= []) QJ;rw[gY]at hx;unfold fw;rw[rQ h0 h1 (y:=nP 8 v) QG QG rfl (by rw[gL,aG];omega)];simp only;rw[dA QD,dA QD,dB QD,dB (by rw[gL,aG,gY];omega),hx,uH hv0 hv1,gL,aG,gY,show(n*8+1)/8=n by omega]
def OE {v:Int}(hv0:0<=v)(hv1:v<4294967296):fw (bl (eW n 5++nP 4 v)) 0 (bl (eW n 5++nP 4 v)).size= .ok ⟨n,5,0,(eW n 5).length,(bl (eW n 5++nP 4 v)).size,v⟩:=by
 have hx:=px (b:=bl (eW n 5++nP 4 v)) (x:=eW n 5) (y:=nP 4 v) (z:= []) QJ;rw[gY]at hx;unfold fw;rw[rQ h0 h1 (y:=nP 4 v) QG QG rfl (by rw[gL,aG];omega)];simp only;rw[dA QD,dA QD,dA QD,dB QD,dB (by rw[gL,aG,gY];omega),hx,uH hv0 hv1,gL,aG,gY,show(n*8+5)/8=n by omega]
def IX {y:List UInt8}(hy:y.length<18446744073709551616):fw (bl (eW n 2++eX y)) 0 (bl (eW n 2++eX y)).size= .ok ⟨n,2,0,(eW n 2).length+(vi y.length).length,(bl (eW n 2++eX y)).size,0⟩:=by
 unfold fw;rw[rQ h0 h1 (y:=eX y) QG QG rfl (by rw[gL,aG];omega)];simp only;rw[dA QD,dA QD,dA QD,dA QD,dB QD,uG (x:=eW n 2) (v:=y.length) (y:=y) rfl QD QD (by rw[gL,aG,eX,aG];omega)];simp only;rw[gL,aG,eX,aG,dB QD,show(n*8+2)/8=n by omega]
 (simp;omega)
end
def At (a:List PF)(n:Int)(l:List PV):List PF:=if l.isEmpty then a else a++ [(n,l)]
section
variable {n:Int}
def yE:∀{a:List PF},(∀x∈a,x.1≠n)->gm a n= []
 | [],_=>rfl
 |x::a,h=>by rw[gm,dA (h x aT),yE λy hy=>h y (be _ hy)]
def Cr {l:List PV}:∀{a:List PF},(∀x∈a,x.1<n)->gm (a++ [(n,l)]) n=l
 | [],_=>by simp[gm]
 |x::a,h=>by
  have:=h x aT;rw[bi,gm,dA QD,Cr λy hy=>h y (be _ hy)]
def Cs {l:List PV}:∀{a:List PF},(∀x∈a,x.1<n)->gH n l false a=a++ [(n,l)]
 | [],_=>rfl
 |x::a,h=>by
  have:=h x aT;rw[gH,decide_eq_false QD,dA QE,dA QD];simp only[cC];rw[Cs λy hy=>h y (be _ hy)];rfl
def yF {l l':List PV}:∀{a:List PF},(∀x∈a,x.1<n)->gH n l false (a++ [(n,l')])=a++ [(n,l)]
 | [],_=>by simp[gH]
 |x::a,h=>by
  have:=h x aT;rw[bi,gH,decide_eq_false QD,dA QE,dA QD];simp only[cC];rw[yF λy hy=>h y (be _ hy)];rfl
def Ct:∀{a:List PF},(∀x∈a,x.1≠n)->gH n [] true a=a
 | [],_=>rfl
 |x::a,h=>by
  rw[gH,dA QE,dA (h x aT)];simp only[cz];rw[Ct λy hy=>h y (be _ hy)];rfl
variable {a:List PF} (h:∀x∈a,x.1<n)
include h
def Au (l:List PV)(u:am):(PM.mk (At a n l) u).get n=l:=by
 show gm (At a n l) n=l;unfold At
 cases l with
 |nil=>exact yE λx hx=>by grind
 |cons v l=>exact Cr h
def Av (l l':List PV)(u:am)(hl:l'≠ []):(PM.mk (At a n l) u).put n l'= .mk (At a n l') u:=by
 have he:l'.isEmpty=false:=by(simp;omega)
 show PM.mk (gH n l' l'.isEmpty (At a n l)) u=_;rw[he];unfold At;rw[he]
 cases l with
 |nil=>rw[dB QJ,Cs h];rfl
 |cons v l=>rw[dA QE,yF h];rfl
omit h in
end
def Lo {m:PM}{n:Int}(h:∀x∈m.fs,x.1≠n):m.put n []=m:=by
 obtain⟨fs,u⟩:=m;show PM.mk (gH n [] true fs) u=_;rw[Ct (a:=fs) h]
def wE {f:eP}{m:PM}:∀{l:List eP},(∀o∈l,(gE o.how f.how&&jd o.how&&decide (o.num≠f.num))=true->∀x∈m.fs,x.1≠o.num)->ik f l m=m
 | [],_=>rfl
 |o::l,h=>by
  rw[ik]
  split
  ·rw[Lo (h o aT ‹_›)];exact wE λp hp=>h p (be _ hp)
  ·exact wE λp hp=>h p (be _ hp)
def wG {t:am}{v:PV}:∀{l:List PV},(∀x∈l,jO t (fo v) (fo x)=false/\gW (fo v) (fo x)=false)->fU t v false l=l++ [v]
 | [],_=>rfl
 |x::l,h=>by
  obtain⟨h1,h2⟩:=h x aT;rw[fU,h1,h2];simp only[Bool.or_self,cr,cG];rw[wG λy hy=>h y (be _ hy)];rfl
def sY {s:am}(h:nQ s=true):s=eS:=by
 refine lx ?_;unfold nQ at h;rw[List.isEmpty_iff,ByteArray.toList_eq]at h;rw[h];rfl
def rR {m:PM}(h:wT m=true):m=PM.none:=by
 obtain⟨fs,u⟩:=m;unfold wT at h;simp only[aJ,List.isEmpty_iff]at h;obtain⟨h1,h2⟩:=h;have h1:fs= []:=h1;have h2:nQ u=true:=h2;rw[h1,sY h2];rfl
def EL (v:Int):nP 4 v=nP 4 (v%4294967296):=by
 simp only[nP,List.cons.injEq,and_true];refine⟨?_,?_,?_,?_⟩<;>(grind)
def OF {v:Int}(h0:0<=v)(h1:v<18446744073709551616):AG (zZ v)=v:=by
 unfold AG zZ
 split<;>split<;>omega
def IY {v:Int}(h0:0<=v)(h1:v<18446744073709551616):0<=zZ v/\zZ v<18446744073709551616:=by
 unfold zZ
 split<;>omega
def Lp {v:Int}(h0:0<=v)(h1:v<18446744073709551616)(h:v=lQ v):AG (zZ v%4294967296)=v:=by
 unfold lQ at h;unfold AG zZ
 split at h<;>split<;>split<;>omega
def Cu (k:Nat)(v:Int):List UInt8:=
 if k=7\/k=9\/k=11 then nP 4 v else if k=8\/k=10\/k=12 then nP 8 v else if k=4\/k=5 then vi (zZ v)else vi v
def wH {k:Nat}{v:Int}(hk:eK k=true)(hv0:0<=v)(hv1:v<18446744073709551616)(ho:AJ k v=true):
  (ei k=0/\∃u,Cu k v=vi u/\0<=u/\u<18446744073709551616/\fN k u=v)\/(ei k=5/\Cu k v=nP 4 v/\fN k (v%4294967296)=v)\/(ei k=1/\Cu k v=nP 8 v/\fN k v=v):=by
 have QP:k=0\/k=1\/k=2\/k=3\/k=4\/k=5\/k=6\/k=7\/k=8\/k=9\/k=10\/k=11\/k=12\/k=15:=by
  unfold eK at hk
  grind
 obtain⟨z0,z1⟩:=IY hv0 hv1;have q:∀{x:Int},(v==x)=true->x=v:=λh=>(beq_iff_eq.1 h).symm
 rcases QP with rfl|rfl|rfl|rfl|rfl|rfl|rfl|rfl|rfl|rfl|rfl|rfl|rfl|rfl
 ·exact .inl ⟨rfl,v,rfl,hv0,hv1,q ho⟩
 ·exact .inl ⟨rfl,v,rfl,hv0,hv1,rfl⟩
 ·exact .inl ⟨rfl,v,rfl,hv0,hv1,q ho⟩
 ·exact .inl ⟨rfl,v,rfl,hv0,hv1,rfl⟩
 ·exact .inl ⟨rfl,_,rfl,z0,z1,Lp hv0 hv1 (q ho).symm⟩
 ·exact .inl ⟨rfl,_,rfl,z0,z1,OF hv0 hv1⟩
 ·exact .inl ⟨rfl,v,rfl,hv0,hv1,q ho⟩
 ·exact .inr (.inl ⟨rfl,rfl,q ho⟩)
 ·exact .inr (.inr ⟨rfl,rfl,rfl⟩)
 ·refine .inr (.inl ⟨rfl,rfl,?_⟩);have h:=q ho;show lQ (v%4294967296)=v;unfold lQ at*
  split at h<;>split<;>omega
 ·exact .inr (.inr ⟨rfl,rfl,rfl⟩)
 ·exact .inr (.inl ⟨rfl,rfl,q ho⟩)
 ·exact .inr (.inr ⟨rfl,rfl,rfl⟩)
 ·exact .inl ⟨rfl,v,rfl,hv0,hv1,q ho⟩
def Lq {k:Nat}{n v:Int}(hk:eK k=true)(h0:1<=n)(h1:n<=536870911)(hv0:0<=v)(hv1:v<18446744073709551616)(ho:AJ k v=true):
  ∃r,fw (bl (eW n (ei k)++Cu k v)) 0 (bl (eW n (ei k)++Cu k v)).size= .ok r/\r.num=n/\r.kind=ei k/\r.e=(bl (eW n (ei k)++Cu k v)).size/\fN k r.n=v:=by
 rcases wH hk hv0 hv1 ho with⟨e1,u,e2,u0,u1,e3⟩|⟨e1,e2,e3⟩|⟨e1,e2,e3⟩
 ·rw[e1,e2];exact⟨_,Nt h0 h1 u0 u1,rfl,rfl,rfl,e3⟩
 ·rw[e1,e2,EL];exact⟨_,OE h0 h1 QD QD,rfl,rfl,rfl,e3⟩
 ·rw[e1,e2];exact⟨_,OD h0 h1 hv0 hv1,rfl,rfl,rfl,e3⟩
theorem j7 (S:d8)(f:eP):fA S f=ei (fB S f):=by
 unfold fA fB d8.wire
 cases f.isMap<;>rfl
section
variable {S:d8} {d:MT} {f:eP} {m:PM} {deep:Nat} {n:Int} (h0:1<=n) (h1:n<=536870911) (hf:dP d.fs n=some f)
include h0 h1 hf
theorem Nu {v:Int}(hM:f.isMap=false)(hs:eR S f=none)(hk:eK (fB S f)=true)(hv0:0<=v)(hv1:v<18446744073709551616)(ho:AJ (fB S f) v=true):
  rd S (bl (eW n (ei (fB S f))++Cu (fB S f) v)) d m deep= .ok (gB S d f m (v,eS,PM.none)):=by
 obtain⟨r,hr,r1,r2,r3,r4⟩:=Lq hk h0 h1 hv0 hv1 ho;refine Ar hr r3 ?_;have hb:fB S f=S.base f.ty:=by unfold fB;simp_all
 have h2:r.kind≠2:=by
  rw[r2]
  rcases wH hk hv0 hv1 ho with⟨e,_⟩|⟨e,_⟩|⟨e,_⟩<;>rw[e]<;>decide
 unfold jI;rw[r1,hf];simp only;rw[if_pos (by rw[r2,j7])];unfold oS mW;rw[hs];simp only;unfold mR;rw[if_neg h2,<-hb,r4];rfl
theorem IZ {s:am}(hs:eR S f=none)(hw:fA S f=2)(hu:gE f.ty j9=true->OP s=true)(hz:s.size<18446744073709551616):
  rd S (bl (eW n 2++eX s.data.toList)) d m deep= .ok (gB S d f m (0,s,PM.none)):=by
 have hl:s.data.toList.length=s.size:=by simp
 have hr:=IX h0 h1 (y:=s.data.toList) (by omega);refine Ar hr rfl ?_
 have hx:(bl (eW n 2++eX s.data.toList)).extract ((eW n 2).length+(vi s.data.toList.length).length) (bl (eW n 2++eX s.data.toList)).size=s:=by
  have:=px (b:=bl (eW n 2++eX s.data.toList)) (x:=eW n 2++vi s.data.toList.length) (y:=s.data.toList) (z:= []) (by rw[pU,eX];simp);rw[aG,EK]at this;rw[gL,aG,eX,aG,<-cV];exact this
 unfold jI;simp only;rw[hf];simp only;rw[if_pos hw.symm];unfold oS mW;rw[hs];simp only;unfold mR;simp only
 rw[if_pos trivial,hx,if_neg (by
  (simp;omega))]
 rfl
theorem Nv {sub:MT}{y:List UInt8}{sm:PM}(hs:eR S f=some sub)(hw:fA S f=2)(hfar:ot S sub (deep+1)=false)(hy:rd S (bl y) sub (eH f m).2.2 (deep+1)= .ok sm)(hz:y.length<18446744073709551616):
  rd S (bl (eW n 2++eX y)) d m deep= .ok (gB S d f m ((eH f m).1,(eH f m).2.1,sm)):=by
 have hr:=IX h0 h1 (y:=y) hz;refine Ar hr rfl ?_
 have hx:=OC (s:=bl (eW n 2++vi y.length)) hy (F:=(bl (eW n 2++eX y)).size) (by
  rw[gL,gL,aG,eX,aG];have:=(mK 9 (n*8+2)).2;have e:(eW n 2).length=(sL 9 (n*8+2)).length:=rfl
  omega)
 have eL:(bl (eW n 2++eX y)).size=(eW n 2).length+(vi y.length).length+y.length:=by rw[gL,aG,eX,aG];omega
 have eB:bl (eW n 2++vi y.length)++bl y=bl (eW n 2++eX y):=by rw[<-As,aW];rfl
 have eA:(bl (eW n 2++vi y.length)).size=(eW n 2).length+(vi y.length).length:=by rw[gL,aG]
 rw[eB,eA,eL,gL]at hx;unfold jI;simp only;rw[hf];simp only;rw[if_pos hw.symm];unfold oS mW xd;rw[hs];simp only;rw[if_neg (by(simp;omega)),eL];rw[hx];rfl
omit h0 h1 hf in
theorem yG {k:Nat}{b:am}(hk:eK k=true):∀(l acc:List PV) (x:List UInt8) (F:Nat),b.data.toList=x++l.flatMap (fun v=>Cu k v.1)->(∀v∈l,v.2=(eS,PM.none)/\0<=v.1/\v.1<18446744073709551616/\AJ k v.1=true)->b.size-x.length<=F->fy b k b.size F acc x.length= .ok (acc++l)
 | [],acc,x,F,hb,_,_=>by
  have hz:b.data.toList.length=b.size:=by simp
  rw[hb]at hz;simp at hz
  cases F with
  |zero=>simp[fy]
  |succ F=>rw[fy,if_neg (by omega)];simp
 |v::l,acc,x,F,hb,hv,hF=>by
  have hz:b.data.toList.length=b.size:=by simp
  rw[bw]at hb;rw[hb,aG,aG]at hz;obtain⟨e0,v0,v1,vo⟩:=hv v aT;have e0:v=(v.1,eS,PM.none):=cO rfl e0;have ih:=fun(y:List UInt8) (F:Nat) (hy:y=Cu k v.1) (q:b.size-(x++y).length<=F)=>yG hk l (acc++ [v]) (x++y) F (by rw[hb,hy,aW]) (fun u hu=>hv u (be _ hu)) q
  rw[List.append_cons]
  rcases wH hk v0 v1 vo with⟨e1,u,e2,u0,u1,e3⟩|⟨e1,e2,e3⟩|⟨e1,e2,e3⟩
  ·rw[e2]at hb hz;have hp:=(mK 9 u).2;have ep:(vi u).length=(sL 9 u).length:=rfl
   cases F with
   |zero=>omega
   |succ F=>
    rw[fy,if_pos (by omega),if_pos e1,uG hb u0 u1 (by omega)]
    grind
  ·rw[e2]at hb hz;have ep:=gY 4 v.1;have hx:=px hb;rw[ep]at hx
   cases F with
   |zero=>omega
   |succ F=>
    rw[fy,if_pos (by omega),if_neg (by omega)];simp only;rw[if_pos e1,if_pos (by omega),hx,EL,uH (by omega) (by omega),e3,<-e0];have:=ih _ F e2.symm (by(simp;omega))
    rwa [aG,ep]at this
  ·rw[e2]at hb hz;have ep:=gY 8 v.1;have hx:=px hb;rw[ep]at hx
   cases F with
   |zero=>omega
   |succ F=>
    rw[fy,if_pos (by omega),if_neg (by omega)];simp only;rw[if_neg (show¬ei k=5 by omega),if_pos (by omega),hx,uH v0 v1,e3,<-e0];have:=ih _ F e2.symm (by(simp;omega))
    rwa [aG,ep]at this
theorem Lr {l:List PV}(hM:f.isMap=false)(hR:f.isRep=true)(hk:eK (fB S f)=true)(hn:f.num=n)(hv:∀v∈l,v.2=(eS,PM.none)/\0<=v.1/\v.1<18446744073709551616/\AJ (fB S f) v.1=true)(hz:(l.flatMap fun v=>Cu (fB S f) v.1).length<18446744073709551616):
  rd S (bl (eW n 2++eX (l.flatMap fun v=>Cu (fB S f) v.1))) d m deep= .ok (m.put n (m.get n++l)):=by
 have hr:=IX h0 h1 hz;refine Ar hr rfl ?_;have hb:fB S f=S.base f.ty:=by unfold fB;simp_all
 have hw:ei (fB S f)≠2:=by
  unfold eK at hk;simp only[cj,decide_eq_true_eq]at hk;have:fB S f=0\/fB S f=1\/fB S f=2\/fB S f=3\/fB S f=4\/fB S f=5\/fB S f=6\/fB S f=7\/fB S f=8\/fB S f=9\/fB S f=10\/fB S f=11\/fB S f=12\/fB S f=15:=by omega
  rcases this with h|h|h|h|h|h|h|h|h|h|h|h|h|h<;>rw[h]<;>decide
 unfold jI;simp only;rw[hf];simp only;rw[if_neg (by rw[j7];omega),if_pos ⟨trivial,hR⟩];unfold lA;rw[<-hb,hn];have:=yG (b:=bl (eW n 2++eX (l.flatMap fun v=>Cu (fB S f) v.1))) hk l (m.get n) (eW n 2++vi (l.flatMap fun v=>Cu (fB S f) v.1).length) _ (by rw[pU,eX,aW]) hv (ay _);rw[aG]at this;rw[this]
end
def Ls (S:d8)(f:eP):Prop:=fB S f=16<->(eR S f).isSome=true
theorem Gb (S:d8)(t:am):S.base t<=16:=by
 unfold d8.base
 split
 ·rename_i k hk
  obtain⟨i,h1,h2⟩:=C7 _ _ _ _ hk;have:=(ca.1 h2).1;have e:mz.length=15:=by decide
  omega
 grind
theorem rS (S:d8)(f:eP):fB S f<=16:=by
 unfold fB
 split
 ·omega
 ·exact Gb S _
theorem EM {f:eP}(h:f.isRep=true):f.isMap=false:=by
 unfold eP.isRep at h;unfold eP.isMap;rw[gk]at h;unfold gE;rw[h];decide+kernel
theorem wI {S:d8}{f:eP}(h:f.isMap=true):fB S f=16:=by
 unfold fB
 simp_all
section
variable {S:d8} {d:MT} {f:eP} {deep:Nat} {n:Int} {a:List PF} {u:am}
theorem Lt {g:PV->List UInt8}(l:List PV)(step:∀done v rest,l=done++v::rest->rd S (bl (g v)) d (.mk (At a n done) u) deep= .ok (.mk (At a n (done++ [v])) u)):
  rd S (bl (l.flatMap g)) d (.mk a u) deep= .ok (.mk (At a n l) u):=by
 have:∀rest done,l=done++rest->rd S (bl (rest.flatMap g)) d (.mk (At a n done) u) deep= .ok (.mk (At a n l) u):=fun rest=>by
  induction rest with
  |nil=>
   intro done h;rw[bK]at h;subst h;rfl
  |cons v rest ih=>
   intro done h;rw[bw,As];exact DL (step done v rest h) (ih (done++ [v]) (by(simp;omega)))
 exact this l [] rfl
variable (h0:1<=n) (h1:n<=536870911) (hf:dP d.fs n=some f) (hS:Ls S f)
include h0 h1 hf hS
theorem Nw {R:MT->PM->Bool}{B:MT->PM->List UInt8}{m:PM}{v:PV}(hp:g9 S f=false)(QT:eH f m=PV.none)(hv:ek S R f v=true)
  (hv0:0<=v.1) (hv1:v.1<18446744073709551616) (hvs:v.2.1.size<18446744073709551616)
  (ih:∀t,eR S f=some t->R t v.2.2=true->rd S (bl (B t v.2.2)) t PM.none (deep+1)= .ok v.2.2/\ot S t (deep+1)=false/\(B t v.2.2).length<18446744073709551616):
  rd S (bl (eW n (nJ S f)++fP S B f v)) d m deep= .ok (gB S d f m v):=by
 have QV:nJ S f=ei (fB S f):=by unfold nJ;simp_all
 rw[QV];unfold ek at hv;unfold fP
 by_cases QQ:fB S f=16
 ·rw[if_pos QQ]at*;obtain⟨t,ht⟩:=bV.1 (hS.1 QQ);rw[ht]at hv⊢;simp only[aJ,decide_eq_true_eq]at hv;obtain⟨⟨z1,z2⟩,z3⟩:=hv;obtain⟨i1,i2,i3⟩:=ih t ht z3;have hw:fA S f=2:=by rw[j7,QQ];rfl
  have:=Nv (m:=m) h0 h1 hf ht hw i2 (by rw[QT];exact i1) i3;rw[QT]at this;rw[QQ];have e:v=(PV.none.1,PV.none.2.1,v.2.2):=cO z1 (cO (sY z2) rfl);exact this.trans (by rw[<-e])
 ·have QW:eR S f=none:=by
   cases hs:eR S f with
   |none=>rfl
   |some t=>exact absurd (hS.2 (by simp_all)) QQ
  have hM:f.isMap=false:=by
   cases hm:f.isMap with
   |false=>rfl
   |true=>exact absurd (wI hm) QQ
  have hb:fB S f=S.base f.ty:=by unfold fB;simp_all
  rw[if_neg QQ]at*
  by_cases h13:fB S f=13
  ·rw[if_pos h13]at hv;rw[if_pos (.inl h13)];simp only[aJ,decide_eq_true_eq]at hv;obtain⟨⟨z1,z2⟩,z3⟩:=hv;have hw:fA S f=2:=by rw[j7,h13];rfl
   have:=IZ (m:=m) (deep:=deep) h0 h1 hf QW hw (s:=v.2.1) (fun _=>by rw[sl];exact z3) hvs;rw[h13];have e:v=(0,v.2.1,PM.none):=cO z1 (cO rfl (rR z2));exact this.trans (by rw[<-e])
  ·rw[if_neg h13]at hv
   by_cases h14:fB S f=14
   ·rw[if_pos h14]at hv;rw[if_pos (.inr h14)];simp only[aJ,decide_eq_true_eq]at hv;obtain⟨z1,z2⟩:=hv;have hw:fA S f=2:=by rw[j7,h14];rfl
    have:=IZ (m:=m) (deep:=deep) h0 h1 hf QW hw (s:=v.2.1) (fun q=>by
     have:=kW (S:=S).2 q
     omega) hvs
    rw[h14];have e:v=(0,v.2.1,PM.none):=cO z1 (cO rfl (rR z2));exact this.trans (by rw[<-e])
   ·rw[if_neg h14]at hv;rw[if_neg (by omega)];simp only[aJ]at hv;obtain⟨⟨z1,z2⟩,z3⟩:=hv
    have hk:eK (fB S f)=true:=by
     have:=rS S f;unfold eK
     (simp;omega)
    have:=Nu (m:=m) (deep:=deep) h0 h1 hf hM QW hk hv0 hv1 z3;have e:v=(v.1,eS,PM.none):=cO rfl (cO (sY z1) (rR z2));exact this.trans (by rw[<-e])
omit h0 h1 hf hS in
theorem I3 {B:MT->PM->List UInt8}{v:PV}(hk:eK (fB S f)=true):fP S B f v=Cu (fB S f) v.1:=by
 unfold eK at hk;simp only[cj,decide_eq_true_eq]at hk;unfold fP Cu;rw[if_neg (by omega),if_neg (by omega)]
omit h0 h1 hf hS in
theorem pV {R:MT->PM->Bool}{v:PV}(hk:eK (fB S f)=true)(hv:ek S R f v=true):v.2=(eS,PM.none)/\AJ (fB S f) v.1=true:=by
 unfold eK at hk;simp only[cj,decide_eq_true_eq]at hk;unfold ek at hv;rw[if_neg (by omega),if_neg (by omega),if_neg (by omega)]at hv;simp only[aJ]at hv;exact⟨cO (sY hv.1.1) (rR hv.1.2),hv.2⟩
theorem I4 {R:MT->PM->Bool}{B:MT->PM->List UInt8}{l:List PV}(hnx:jG (kC d f) n a=true)(hL:fk S R f l=true)
  (hv:∀v∈l,0<=v.1/\v.1<18446744073709551616/\v.2.1.size<18446744073709551616) (hz:(l.flatMap fun v=>fP S B f v).length<18446744073709551616)
  (ih:∀v∈l,∀t,eR S f=some t->R t v.2.2=true->rd S (bl (B t v.2.2)) t PM.none (deep+1)= .ok v.2.2/\ot S t (deep+1)=false/\(B t v.2.2).length<18446744073709551616)
  (hE:f.isMap=true->(∀v∈l,fO v.2.2=v.2.2)/\l.Pairwise fun x y=>jO f.key (fo y) (fo x)=false/\gW (fo y) (fo x)=false):
  rd S (bl (jM S B f l)) d (.mk a u) deep= .ok (.mk (a++ [(n,l)]) u):=by
 have QP:f.num=n:=(eT hf).1;unfold jG at hnx;simp only[bO,aJ,decide_eq_true_eq,cm,decide_eq_false_iff_not]at hnx;have ha:∀x∈a,x.1<n:=fun x hx=>(hnx x hx).1
 unfold fk at hL;simp only[aJ,bO]at hL;obtain⟨⟨hH,hV⟩,QU⟩:=hL
 have QY:l≠ []:=by
  rintro rfl;unfold og at hH;simp at hH
 have QZ:At a n l=a++ [(n,l)]:=by
  unfold At;rw[if_neg (by simpa using QY)]
 rw[<-QZ];unfold jM
 by_cases hp:g9 S f=true
 ·rw[if_pos hp];have QX:=hp;unfold g9 at QX;simp only[aJ]at QX;obtain⟨hR,hk⟩:=QX;have hM:=EM hR;have QV:nJ S f=2:=by unfold nJ;simp_all
  have eb:mo S B f l=l.flatMap fun v=>Cu (fB S f) v.1:=by
   unfold mo
   congr 1
   funext v;exact I3 hk
  have ez:(l.flatMap fun v=>fP S B f v)=l.flatMap fun v=>Cu (fB S f) v.1:=eb
  rw[ez]at hz;rw[QV,QP,eb,Lr h0 h1 hf hM hR hk QP (fun v hm=>⟨(pV hk (hV v hm)).1,(hv v hm).1,(hv v hm).2.1,(pV hk (hV v hm)).2⟩) hz];have e0:a=At a n []:=rfl;rw[e0,Au ha,Av ha _ _ _ (by simpa using QY)];rfl
 ·have hp:g9 S f=false:=by simp_all
  rw[if_neg (by omega)];refine Lt l fun done v rest hl=> ?_
  have hm:v∈l:=by simp_all
  have QR:(f.isRep||f.isMap)=true\/done= []:=by
   cases hrm:(f.isRep||f.isMap)with
   |true=>simp
   |false=>
    right
    unfold og at hH;rw[hrm,hl]at hH;simp at hH
    cases done with
    |nil=>rfl
    |cons x r=>grind
  have QT:eH f (.mk (At a n done) u)=PV.none:=by
   unfold eH
   rcases QR with h|h
   ·rw[if_pos h]
   ·subst h;rw[QP,Au ha]
    split<;>rfl
  rw[QP,Nw h0 h1 hf hS (R:=R) (m:= .mk (At a n done) u) hp QT (hV v hm) (hv v hm).1 (hv v hm).2.1 (hv v hm).2.2 (ih v hm)]
  congr 1;unfold gB;rw[QP]
  by_cases hM:f.isMap=true
  ·obtain⟨QS,hpw⟩:=hE hM;rw[if_pos hM,Au ha,QS v hm];unfold jn
   rw[show(v.1,v.2.1,v.2.2)=v from rfl,wG (fun x hx=>by
    grind),Av ha _ _ _ (by simp)]
  ·rw[if_neg hM]
   by_cases hR:f.isRep=true
   ·rw[if_pos hR,Au ha,Av ha _ _ _ (by simp)]
   ·rw[if_neg hR]
    have Q0:done= []:=by
     simp_all
    subst Q0
    have Q1:l= [v]:=by
     unfold og at hH
     simp_all
    have Q2:(gE f.how eS&&(eR S f).isNone&&decide (v.1=0)&&gE v.2.1 eS)=false:=by
     cases hq:(gE f.how eS&&(eR S f).isNone&&decide (v.1=0)&&gE v.2.1 eS)with
     |false=>rfl
     |true=>
      exfalso;simp only[aJ,decide_eq_true_eq]at hq;obtain⟨⟨⟨q1,q2⟩,q3⟩,q4⟩:=hq
      have QQ:fB S f≠16:=fun e=>by
       have:=hS.1 e
       simp_all
      unfold jY at QU;rw[if_neg hM,if_pos ⟨q1,QQ⟩,Q1]at QU;simp only[cm,Bool.and_eq_false_iff,decide_eq_false_iff_not]at QU
      rcases QU with h|h
      ·omega
      ·rw[gk]at q4;unfold nQ at h;rw[q4]at h
       revert h;decide+kernel
    rw[Q2,if_neg (by decide),wE (fun o ho hc x hx=>by
     have hx:x∈a:=hx;have:=(hnx x hx).2;intro e;refine this ?_;unfold kC
     grind),Av ha _ _ _ (by simp)]
    rfl
end
section
variable {s:am} {a k deep:Nat} {kind:Int} {S:d8} {d:MT}
theorem EN {z:Nat}{num:Int}{r:om}(hk:kind=0\/kind=1\/kind=2\/kind=5)(h:fh s a num kind z= .ok r):r.num=num/\(r.kind:Int)=kind/\r.a=a:=by
 rcases hk with rfl|rfl|rfl|rfl
 ·have h:=(CX s a num z).symm.trans h
  grind
 ·have h:=(CY s a num z).symm.trans h
  grind
 ·have h:=(sw s a num z).symm.trans h
  grind
 ·have h:=(CZ s a num z).symm.trans h
  grind
theorem Cv {x:(Int×Int)×Nat}(h:jo s a= .ok x):x.1.2=0\/x.1.2=1\/x.1.2=2\/x.1.2=5:=by
 unfold jo at h
 grind
theorem Aw (s:am):s.extract 0 s.size=s:=lx QE
theorem I5 (s:am){e:Nat}(ha:a<=e):s.extract a e++s.extract e s.size=s.extract a s.size:=by
 refine lx ?_;have hl:s.data.toList.length=s.size:=QE;rw[nM,pw,pw,pw,bU (Nat.le_of_eq hl),List.drop_take];have:s.data.toList.drop a=(s.data.toList.drop a).take (e-a)++(s.data.toList.drop a).drop (e-a):=(bX _ _).symm;rw[List.drop_drop,show a+(e-a)=e by omega]at this
 grind
theorem Lu {num:Int}(hk:(k:Int)=kind)(h:pj S d num kind=false):∀f,dP d.fs num=some f->k≠fA S f/\¬(k=2/\f.isRep=true):=λf hf=>by
 unfold pj at h;rw[hf]at h;simp only[da,Bool.and_eq_false_iff,beq_eq_false_iff_ne]at h;obtain⟨h1,h2⟩:=h;rw[j7];refine⟨λe=>h1 (by rw[<-hk,e]),λ⟨e1,e2⟩=> ?_⟩
 have hp:g9 S f=false:=by
  simp_all
 unfold g9 at hp;rw[e2,cq]at hp;unfold eK at hp;simp only[da,decide_eq_false_iff_not]at hp;have hle:=rS S f;have:fB S f=13\/fB S f=14\/fB S f=16:=QD;refine h1 ?_;rw[<-hk,e1]
 rcases this with h|h|h<;>rw[h]<;>rfl
theorem EO:∀(G F a:Nat) (m:PM),mF (pj S d) s G a=true->a<=s.size->s.size-a<F->ew S s F d m a s.size deep= .ok (m.keep (s.extract a s.size))
 |0,_,_,_,h,_,_=>by cases h
 |_+1,0,_,_,_,_,h=>absurd h QD
 |G+1,F+1,a,m,h,ha,hF=>by
  rw[mF]at h
  by_cases hl:a<s.size
  ·rw[dB hl]at h;unfold Ku at h
   split at h
   ·cases h
   ·rename_i x ht
    simp only[aJ,cm]at h;obtain⟨h1,h2⟩:=h;unfold Io at h2
    split at h2
    ·cases h2
    ·rename_i y hy
     rw[pL s a x.1.1]at hy
     split at hy
     ·cases hy
     ·rename_i r hr
      cases hy
      have QP:fw s a s.size= .ok r:=by
       rw[<-uk (ay _),Aw,pK,ht];exact hr
      obtain⟨r1,r2,r3⟩:=EN (Cv ht) hr;obtain⟨q1,q2,q3,q4,q5,_⟩:=iC QP;rw[oc hl QP (by rw[r1];exact Lu r2 h1),EO G F r.e _ h2 q5 QD];obtain⟨fs,u⟩:=m;show Except.ok (PM.mk fs (u++s.extract r.a r.e++s.extract r.e s.size))=Except.ok (PM.mk fs (u++s.extract a s.size));rw[r3,ByteArray.append_assoc,I5 s QD]
  ·rw[ie hl];obtain⟨fs,u⟩:=m;show _=Except.ok (PM.mk fs (u++s.extract a s.size))
   have:s.extract a s.size=eS:=lx (by
    rw[pw,List.drop_eq_nil_of_le QF]
    rfl)
   rw[this];have:u++eS=u:=lx (by rw[nM];exact bK _);rw[this]
theorem Nx {m:PM}(h:qN (pj S d) s=true):rd S s d m deep= .ok (m.keep s):=by
 have:=EO (deep:=deep) (s.size+1) (s.size+1) 0 m h (aM _) QD
 rwa [Aw]at this
def mG (f:eP):eP:=⟨mQ,f.key,eS,kx,1⟩
def qg (f:eP):eP:=⟨oD,f.ty,eS,kx,2⟩
theorem kL:(kx.toList==AT.toList)=false/\(kx.toList==Gs.toList)=false/\(kx.toList==eS.toList)=false:=QH
theorem yH {f:eP}{e:PM}(h:dN S (k+1) (eo f) e=true)(hl:(e.fs.length==2)=true)(hu:nQ e.unk=true):
  ∃x y,e= .mk [(1,[x]),(2,[y])] eS/\ek S (dN S k) (mG f) x=true/\ek S (dN S k) (qg f) y=true:=by
 obtain⟨fs,u⟩:=e;have hu:u=eS:=sY hu;subst hu;have hl:(fs.length==2)=true:=hl;have hl:fs.length=2:=by simp_all
 obtain⟨p,q,rfl⟩:∃p q,fs= [p,q]:=by
  match fs,hl with
  | [p,q],_=>simp
 obtain⟨n1,l1⟩:=p;obtain⟨n2,l2⟩:=q;rw[dN]at h;simp only[aJ]at h;have h:=h.1;have hx:gw S (dN S k) (eo f) [] [(n1,l1),(n2,l2)]=true:=h;rw[gw,gw,gw]at hx;simp only[cU,aJ,aR]at hx;obtain⟨h1,h2⟩:=hx
 have fnd:∀n g,dP (eo f).fs n=some g->(n=1/\g=mG f)\/(n=2/\g=qg f):=λn g hg=>by
  simp only[eo,dP]at hg
  split at hg
  ·cases hg;exact .inl ⟨QD,rfl⟩
  ·split at hg
   ·cases hg;exact .inr ⟨QD,rfl⟩
   ·cases hg
 have one:∀g l,g=mG f\/g=qg f->fk S (dN S k) g l=true->∃x,l= [x]/\ek S (dN S k) g x=true:=λg l hg hL=>by
  have QQ:g.isRep=false/\g.isMap=false:=by
   rcases hg with rfl|rfl<;>exact⟨kL.2.1,kL.1⟩
  unfold fk og at hL;rw[QQ.1,QQ.2]at hL;simp only[cC,cl,aJ,beq_iff_eq,bO]at hL;obtain⟨⟨q1,q2⟩,_⟩:=hL
  match l,q1 with
  | [x],_=>simp_all
 cases hf1:dP (eo f).fs n1 with
 |none=>simp_all
 |some g1=>
  rw[hf1]at h1
  cases hf2:dP (eo f).fs n2 with
  |none=>simp_all
  |some g2=>
   rw[hf2]at h2;simp only[aJ]at h1 h2
   have hlt:n1<n2:=by
    have:=h2.1;unfold jG at this
    simp_all
   grind
theorem Cw (x y:PV):fO (.mk [(1,[x]),(2,[y])] eS)= .mk [(1,[x]),(2,[y])] eS:=by
 rfl
end
section
variable {f:eP} {n:Int} {S:d8} {k:Nat} {t:MT}
structure OG (S:d8):Prop where
 name:∀d∈S.ms,gE d.name eS=false
 num:∀d∈S.ms,∀n f,dP d.fs n=some f->1<=n/\n<=536870911
 sub:∀d∈S.ms,∀f∈d.fs,S.base f.ty=16<->(S.msg f.ty).isSome=true
 key:∀d∈S.ms,∀f∈d.fs,f.isMap=true->S.msg f.key=none/\(eK (S.base f.key)=true\/S.base f.key=13)/\jD (S.base f.key)=eM iJ f.key
def sZ (S:d8)(d:MT):Prop:=d∈S.ms\/∃d'∈S.ms,∃f∈d'.fs,f.isMap=true/\d=eo f
theorem mw {g:eP}(h:dP (eo f).fs n=some g):(n=1/\g=mG f)\/(n=2/\g=qg f):=by
 simp only[eo,dP]at h
 split at h
 ·cases h;exact .inl ⟨QD,rfl⟩
 ·split at h
  ·cases h;exact .inr ⟨QD,rfl⟩
  ·cases h
theorem iS (f:eP):(mG f).isMap=false/\(qg f).isMap=false/\(mG f).isRep=false/\(qg f).isRep=false:=⟨kL.1,kL.1,kL.2.1,kL.2.1⟩
theorem kM (h:f.isMap=false):fB S f=S.base f.ty:=by unfold fB;rw[h];rfl
theorem mx (h:f.isMap=false):eR S f=S.msg f.ty:=by unfold eR;rw[h];rfl
theorem j8 (h:f.isMap=true):eR S f=some (eo f):=by unfold eR;rw[h];rfl
theorem L0 (h:eK k=true\/k=13):k≠16:=by
 rcases h with h|h
 ·unfold eK at h
  grind
 ·omega
section
variable {S:d8} (hS:OG S) {d:MT}
include hS
theorem sZ.num (h:sZ S d)(hf:dP d.fs n=some f):1<=n/\n<=536870911:=by
 rcases h with h|⟨d',hd,g,hg,hm,rfl⟩
 ·exact hS.num d h n f hf
 ·rcases mw hf with⟨rfl,_⟩|⟨rfl,_⟩<;>exact⟨QD,QD⟩
theorem sZ.subF (h:sZ S d)(hf:dP d.fs n=some f):Ls S f:=by
 unfold Ls
 rcases h with h|⟨d',hd,g,hg,hm,rfl⟩
 ·cases hM:f.isMap with
  |true=>rw[wI hM,j8 hM];simp
  |false=>rw[kM hM,mx hM];exact hS.sub d h f (eT hf).2
 ·rcases mw hf with⟨_,rfl⟩|⟨_,rfl⟩
  ·obtain⟨k1,k2,_⟩:=hS.key d' hd g hg hm;rw[kM (iS g).1,mx (iS g).1];show S.base g.key=16<->(S.msg g.key).isSome=true;rw[k1];have:=L0 k2;simp[this]
  ·rw[kM (iS g).2.1,mx (iS g).2.1];exact hS.sub d' hd g hg
omit hS in
theorem sZ.sub (h:sZ S d)(hf:dP d.fs n=some f)(ht:eR S f=some t):sZ S t:=by
 cases hM:f.isMap with
 |false=>rw[mx hM]at ht;exact .inl (iP ht)
 |true=>
  rw[j8 hM]at ht
  cases ht
  rcases h with h|⟨d',hd,g,hg,hm,rfl⟩
  ·exact .inr ⟨d,h,f,(eT hf).2,hM,rfl⟩
  ·rcases mw hf with⟨_,rfl⟩|⟨_,rfl⟩
   ·rw[(iS g).1]at hM;cases hM
   ·rw[(iS g).2.1]at hM;cases hM
theorem Ny {dp:Nat}(h:sZ S t)(hd:dp<=8)(he:∀f,t=eo f->dp=8->(S.msg f.ty).isSome=false):ot S t dp=false:=by
 unfold ot
 split
 ·simp;omega
 ·rename_i hc
  simp only[cj,cm,not_or,Bool.not_eq_false,bne_iff_ne,ne_eq,Decidable.not_not]at hc;obtain⟨h1,h2⟩:=hc
  rcases h with h|⟨d',_,g,_,_,rfl⟩
  ·rw[hS.name t h]at h1;cases h1
  ·exact he g rfl h2
end
theorem Ax {x:Nat}:∀{l:au},x∈l->x<=l.sum
 |y::l,h=>by
  rw[List.sum_cons]
  rcases aN.1 h with rfl|h
  ·omega
  ·have:=Ax h;omega
theorem EP {t:am}{x y:PV}(hx:0<=x.1/\x.1<18446744073709551616/\(gE t j9=true->x.1=0)/\(gE t j9=false->x.2.1=eS))(hy:0<=y.1/\y.1<18446744073709551616/\(gE t j9=true->y.1=0)/\(gE t j9=false->y.2.1=eS)):
  (jO t x y=true<->lC (jz t x) (jz t y))/\(gW x y=true->je (jz t x) (jz t y)):=by
 obtain⟨a1,a2,a4,a5⟩:=hx;obtain⟨b1,b2,b4,b5⟩:=hy;refine⟨?_,λh=> ?_⟩
 ·unfold jO lC jz
  cases hs:gE t j9 with
  |true=>
   simp_all
  |false=>
   rw[a5 hs,b5 hs];have e:¬Op.bytesLess eS.toList eS.toList=true:=QH;simp only[e,and_false,or_false,aL,if_false]
   cases eM iJ t with
   |true=>
    simp only[if_true,dD];unfold JJ
    split<;>split<;>omega
   |false=>simp
 ·unfold gW at h;simp only[aJ,dD,gk]at h;unfold je jz
  simp_all
theorem rT {sg:Bool}:∀{l:List PV} {last:Option LV},i8 sg last l=true->(∀e∈l,(e.2.2.fs.length==2)=true/\nQ e.2.2.unk=true)/\l.Pairwise (λx y=>lC (rV sg x) (rV sg y))/\∀k,last=some k->∀e∈l,lC k (rV sg e)
 | [],_,_=>⟨λe h=>by grind,.nil,λk _ e h=>by grind⟩
 |x::l,last,h=>by
  unfold i8 at h;simp only[aJ]at h;obtain⟨⟨⟨h1,h2⟩,h3⟩,h4⟩:=h;obtain⟨i1,i2,i3⟩:=rT h4;refine⟨λe he=> ?_,.cons (λy hy=>i3 _ rfl y hy) i2,λk hk e he=> ?_⟩
  ·grind
  ·subst hk;have h3:lC k (rV sg x):=(zV _ _).1 (dC h3)
   rcases aN.1 he with rfl|he
   ·exact h3
   ·exact jR h3 (i3 _ rfl e he)
section
variable {S:d8} (hS:OG S)
include hS
theorem I6 {d:MT}{k':Nat}{l:List PV}(hd:sZ S d)(hf:dP d.fs n=some f)(hM:f.isMap=true)(hL:fk S (dN S k) f l=true)(hO:∀v∈l,nR k' v.2.2):
  (∀v∈l,fO v.2.2=v.2.2)/\(l.Pairwise λx y=>jO f.key (fo y) (fo x)=false/\gW (fo y) (fo x)=false)/\(k=1->l≠ []->(S.msg f.ty).isSome=false):=by
 have QW:d∈S.ms:=by
  rcases hd with h|⟨d',hd,g,hg,hm,rfl⟩
  ·exact h
  ·rcases mw hf with⟨_,rfl⟩|⟨_,rfl⟩
   ·rw[(iS g).1]at hM;cases hM
   ·rw[(iS g).2.1]at hM;cases hM
 obtain⟨k1,k2,k3⟩:=hS.key d QW f (eT hf).2 hM;unfold fk jY at hL;rw[dB hM,k3]at hL;simp only[aJ,bO]at hL;obtain⟨⟨_,hV⟩,Q3⟩:=hL;obtain⟨e1,e2,_⟩:=rT Q3
 have hR:∀v∈l,dN S k (eo f) v.2.2=true:=λv hv=>by
  have:=hV v hv;unfold ek at this;rw[dB (wI hM),j8 hM]at this
  simp_all
 cases k with
 |zero=>
  have:∀v∈l,False:=λv hv=>by have:=hR v hv;cases this
  cases l with
  |nil=>simp
  |cons v l=>grind
 |succ k=>
  have QS:=λv hv=>yH (hR v hv) (e1 v hv).1 (e1 v hv).2
  have QQ:∀v∈l,rV (eM iJ f.key) v=jz f.key (fo v)/\0<=(fo v).1/\(fo v).1<18446744073709551616/\(gE f.key j9=true->(fo v).1=0)/\(gE f.key j9=false->(fo v).2.1=eS):=λv hv=>by
   obtain⟨x,y,ev,hx,_⟩:=QS v hv;have QT:fo v=x:=by unfold fo;rw[ev];rfl
   have Q0:MO v=x:=by unfold MO;rw[ev];rfl
   have hr:0<=x.1/\x.1<18446744073709551616:=by
    have:=hO v hv;rw[ev]at this
    cases k' with
    |zero=>exact this.elim
    |succ k'=>
     have:=(this.2.2 (1,[x]) (by simp[PM.fs])).2 x aT;omega
   have eb:fB S (mG f)=S.base f.key:=kM (iS f).1;refine⟨by unfold rV Gh jz;rw[Q0,QT],by simp_all,by simp_all,λhs=> ?_,λhs=> ?_⟩
   ·rw[QT];have h13:fB S (mG f)=13:=eb.trans (kW.2 hs);unfold ek at hx
    grind
   ·rw[QT]
    have QU:eK (fB S (mG f))=true:=by
     rw[eb]
     rcases k2 with h|h
     ·exact h
     ·rw[kW.1 h]at hs;cases hs
    exact dF Prod.fst (pV QU hx).1
  refine⟨λv hv=> ?_,e2.imp_of_mem fun{x y} hx hy h=> ?_,λhk hne=> ?_⟩
  ·obtain⟨x,y,ev,_⟩:=QS v hv;rw[ev,Cw]
  ·obtain⟨ex,hx⟩:=QQ x hx;obtain⟨ey,hy⟩:=QQ y hy;obtain⟨q1,q2⟩:=EP hy hx;rw[ex,ey]at h
   constructor
   ·cases hc:jO f.key (fo y) (fo x)with
    |false=>rfl
    |true=>exact absurd (jR h (q1.1 hc)) (oe _)
   ·cases hc:gW (fo y) (fo x)with
    |false=>rfl
    |true=>exact absurd (q2 hc).symm (kE h)
  ·obtain rfl:k=0:=QD
   cases l with
   |nil=>simp_all
   |cons v l=>
    obtain⟨x,y,_,_,hy⟩:=QS v aT
    cases hc:(S.msg f.ty).isSome with
    |false=>rfl
    |true=>
     have Q1:fB S (qg f)=16:=(kM (iS f).2.1).trans ((hS.sub d QW f (eT hf).2).2 hc);obtain⟨t,ht⟩:=bV.1 hc;unfold ek at hy;rw[dB Q1,mx (iS f).2.1]at hy;rw[show S.msg (qg f).ty=some t from ht]at hy;simp only[aJ]at hy
     cases hy.2
theorem EQ:∀(n deep:Nat) (d:MT) (m:PM) (k:Nat),n+deep=9->sZ S d->dN S n d m=true->nR k m->wz k m<=140737488355328->rd S (bl (d9 S n d m)) d PM.none deep= .ok m
 |0,_,_,_,_,_,_,h,_,_=>by cases h
 |_+1,_,_,_,0,_,_,_,h,_=>h.elim
 |n+1,deep,d,m,k+1,hn,hd,h,hO,hw=>by
  rw[dN]at h;simp only[aJ]at h;obtain⟨hX,hU⟩:=h;obtain⟨_,_,Q4⟩:=hO;rw[wz]at hw
  have QV:∀x∈m.fs,(x.2.map λv=>30+v.2.1.size+wz k v.2.2).sum<=140737488355328:=λx hx=>by
   have:30+(x.2.map λv=>30+v.2.1.size+wz k v.2.2).sum<=(m.fs.map λx=>30+(x.2.map λv=>30+v.2.1.size+wz k v.2.2).sum).sum:=Ax (aQ.2 ⟨x,hx,rfl⟩);omega
  have Q2:∀x∈m.fs,∀v∈x.2,wz k v.2.2<=140737488355328:=λx hx v hv=>by
   have h1:=QV x hx;have:30+v.2.1.size+wz k v.2.2<=(x.2.map λv=>30+v.2.1.size+wz k v.2.2).sum:=Ax (aQ.2 ⟨v,hv,rfl⟩);omega
  have fields:∀(l ahead:List PF),(∀x∈l,x∈m.fs)->gw S (dN S n) d ahead l=true->rd S (bl (l.flatMap (jy S (d9 S n) d))) d (.mk ahead eS) deep= .ok (.mk (ahead++l) eS):=λl=>by
   induction l with
   |nil=>
    intro ahead _ _;rw[bK];rfl
   |cons x l Q5=>
    intro ahead QZ hx;rw[gw]at hx;simp only[aJ]at hx;obtain⟨hx1,Q6⟩:=hx;have QX:=QZ x aT
    cases hf:dP d.fs x.1 with
    |none=>simp_all
    |some f=>
     rw[hf]at hx1;simp only[aJ]at hx1;obtain⟨Q7,hL⟩:=hx1;obtain⟨Q8,Q9⟩:=hd.num hS hf;have QR:=(Q4 x QX).2;rw[bw,As]
     have QP:rd S (bl (jy S (d9 S n) d x)) d (.mk ahead eS) deep= .ok (.mk (ahead++ [x]) eS):=by
      unfold jy;rw[hf];refine I4 Q8 Q9 hf (hd.subF hS hf) Q7 hL (λv hv=> ?_) ?_ (λv hv t ht hR=> ?_) (λhM=> ?_)
      ·grind
      ·have h1:(x.2.flatMap λv=>fP S (d9 S n) f v).length<=(x.2.map λv=>30+v.2.1.size+wz k v.2.2).sum:=pp λv hv=>by
        have:=Ai (S:=S) (f:=f) (R:=d9 S n) (v:=v) (W:=wz k v.2.2) λt=>qO n k t v.2.2 (QR v hv).2.2.2
        omega
       grind
      ·have hn1':n≠0:=by
        rintro rfl
        cases hR
       have QY:=hd.sub hf ht;refine⟨EQ n (deep+1) t v.2.2 k QD QY hR (QR v hv).2.2.2 (Q2 x QX v hv),Ny hS QY QD (λg hg h8=> ?_),?_⟩
       ·have hM:f.isMap=true:=by
         cases hM:f.isMap with
         |true=>rfl
         |false=>
          exfalso;rw[mx hM]at ht;have:=hS.name t (iP ht);rw[hg]at this;have this:gE eS eS=false:=this
          revert this;decide+kernel
        rw[j8 hM]at ht;have e:=Option.some.inj ht;rw[hg]at e
        have e2:f.ty=g.ty:=by
         have:=dF (λq:MT=>q.fs.map (·.ty)) e;simp[eo]at this
         simp_all
        rw[<-e2];exact(I6 hS hd hf hM hL (λv hv=>(QR v hv).2.2.2)).2.2 QD (List.ne_nil_of_mem hv)
       ·have:=qO (S:=S) n k t v.2.2 (QR v hv).2.2.2
        grind
      ·have:=I6 hS hd hf hM hL (λv hv=>(QR v hv).2.2.2)
       grind
     have:=Q5 (ahead++ [x]) (λy hy=>QZ y (be _ hy)) Q6;rw[aW]at this;exact DL QP this
  rw[d9,As];refine DL (fields m.fs [] (λ_ h=>h) hX) ?_;rw[EK,Nx hU];obtain⟨fs,u⟩:=m;show Except.ok (PM.mk fs (eS++u))=_;have:eS++u=u:=lx QJ;rw[this]
end
end
def OH (d:MT)(y x:PF):Prop:=y.1<x.1/\∀f,dP d.fs x.1=some f->y.1∉kC d f
def kn (S:d8)(R:MT->PM->Bool)(d:MT)(x:PF):Prop:=∃f,dP d.fs x.1=some f/\fk S R f x.2=true
def py {S:d8}{R:MT->PM->Bool}{d:MT}:∀{l a:List PF},gw S R d a l=true<->(∀x∈l,kn S R d x)/\l.Pairwise (OH d)/\∀y∈a,∀x∈l,OH d y x
 | [],a=>by simp[gw]
 |x::l,a=>by
  rw[gw,aJ,py]
  have hx:(match dP d.fs x.1 with|none=>false|some f=>jG (kC d f) x.1 a&&fk S R f x.2)=true<->kn S R d x/\∀y∈a,OH d y x:=by
   unfold kn OH
   cases hf:dP d.fs x.1 with
   |none=>simp
   |some f=>
    simp only[aJ,jG,bO,dD,cm,decide_eq_false_iff_not,Option.some.injEq]
    grind
  refine(and_congr hx Iff.rfl).trans ?_;rw[ba]
  grind
section
variable {n:Int} {vs:List PV}
def mN:∀{l:List PF} {done:Bool} {x:PF},x∈gH n vs done l->(x=(n,vs)/\done=false)\/(x∈l/\x.1≠n)
 | [],done,x,h=>by
  cases done with
  |true=>simp[gH]at h
  |false=>simp[gH]at h;(simp;omega)
 |y::l,done,x,h=>by
  rw[gH]at h
  rcases aV.1 h with h|h
  ·simp_all
  ·rcases aV.1 h with h|h
   ·simp_all
   ·rcases mN h with⟨h1,h2⟩|⟨h1,h2⟩
    ·simp_all
    simp_all
def Ay {Q:PF->PF->Prop}(hQ:∀y x,Q y x->y.1<x.1):∀{l:List PF} {done:Bool},l.Pairwise Q->(done=false->(∀y∈l,y.1<n->Q y (n,vs))/\∀x∈l,n<x.1->Q (n,vs) x)->(gH n vs done l).Pairwise Q
 | [],done,_,_=>by cases done<;>simp[gH]
 |y::l,done,h,hd=>by
  rw[ba]at h;obtain⟨h1,h2⟩:=h;rw[gH]
  have hx:∀z∈((if y.1=n then []else [y]):List PF),z=y/\y.1≠n:=λz hz=>by
   simp_all
  by_cases hc:(!done&&decide (n<=y.1))=true
  ·rw[dB hc];simp only[aJ,cm,dD]at hc;obtain⟨rfl,hle⟩:=hc;obtain⟨d1,d2⟩:=hd rfl;have ih:=Ay (done:=false||decide (n<=y.1)) hQ h2 (λhf=>by simp_all);rw[List.singleton_append,ba]
   constructor
   ·intro z hz
    rcases aV.1 hz with hz|hz
    ·grind
    ·rcases mN hz with⟨_,hf⟩|⟨hm,_⟩
     ·simp_all
     grind
   ·rw[bS];refine⟨by split<;>simp,ih,λa ha b hb=> ?_⟩;obtain⟨rfl,_⟩:=hx a ha
    rcases mN hb with⟨_,hf⟩|⟨hm,_⟩
    ·simp_all
    simp_all
  ·rw[dA hc,aR]
   have ih:=Ay (done:=done||decide (n<=y.1)) hQ h2 (λhf=>by
    grind)
   rw[bS];refine⟨by split<;>simp,ih,λa ha b hb=> ?_⟩;obtain⟨rfl,QQ⟩:=hx a ha
   rcases mN hb with⟨rfl,hf⟩|⟨hm,_⟩
   ·simp_all
   simp_all
end
def s9:∀{fs:List eP} {f:eP},(fs.map (·.num)).Nodup->f∈fs->dP fs f.num=some f
 |g::fs,f,h,hf=>by
  rw[ch,List.nodup_cons]at h
  rcases aN.1 hf with rfl|hf
  ·rw[dP,dB rfl]
  ·rw[dP,dA (λe=>h.1 (aQ.2 ⟨f,hf,e.symm⟩)),s9 h.2 hf]
def Az {a b:am}(h:gE a b=true):a=b:=by
 refine lx ?_;rw[gk,ByteArray.toList_eq,ByteArray.toList_eq]at h;exact h
section
variable {d:MT} (hd:(d.fs.map (·.num)).Nodup)
def uI {f:eP}{k:Int}:k∈kC d f<->∃o∈d.fs,o.num=k/\o.how=f.how/\jd f.how=true/\k≠f.num:=by
 unfold kC;rw[aQ]
 constructor
 ·rintro⟨o,ho,rfl⟩;rw[bN]at ho;simp only[aJ,dD]at ho;obtain⟨h1,⟨h2,h3⟩,h4⟩:=ho;have e:=Az h2
  grind
 ·rintro⟨o,ho,rfl,e,h3,h4⟩;refine⟨o,bN.2 ⟨ho,?_⟩,rfl⟩;simp only[aJ,dD];exact⟨⟨by rw[gk,e],by simp_all⟩,h4⟩
include hd
def Lv {f g:eP}(hf:f∈d.fs)(hg:g∈d.fs)(h:g.num∈kC d f):f.num∈kC d g:=by
 obtain⟨o,ho,h1,h2,h3,h4⟩:=uI.1 h
 have e:o=g:=by
  have a:=s9 hd ho;rw[h1,s9 hd hg]at a
  simp_all
 subst e;exact uI.2 ⟨f,hf,rfl,h2.symm,by simp_all,λe=>h4 e.symm⟩
end
def NA {S:d8}{R:MT->PM->Bool}{d:MT}(hd:(d.fs.map (·.num)).Nodup){fs:List PF}{n:Int}{f:eP}{vs:List PV}(h:gw S R d [] fs=true)(hf:dP d.fs n=some f)(hL:vs≠ []->fk S R f vs=true)(hn:vs≠ []->∀y∈fs,y.1∉kC d f):
  gw S R d [] (gH n vs vs.isEmpty fs)=true:=by
 obtain⟨h1,h2,_⟩:=py.1 h;obtain⟨f1,f2⟩:=eT hf;refine py.2 ⟨λx hx=> ?_,Ay (λy x q=>q.1) h2 (λhe=> ?_),λy hy=>by simp at hy⟩
 ·rcases mN hx with⟨rfl,he⟩|⟨hx,_⟩
  ·exact⟨f,hf,hL (by simp_all)⟩
  simp_all
 ·have QQ:vs≠ []:=by simp_all
  refine⟨λy hy QP=>⟨QP,λg hg=> ?_⟩,λx hx QP=>⟨QP,λg hg=> ?_⟩⟩
  ·grind
  ·intro hc;obtain⟨g1,g2⟩:=eT hg;have:=Lv hd g2 f2 (by simp_all)
   grind
def wJ {f:eP}{x:PF}:∀{l:List eP} {m:PM},x∈(ik f l m).fs->x∈m.fs/\∀o∈l,(gE o.how f.how&&jd o.how&&decide (o.num≠f.num))=true->x.1≠o.num
 | [],m,h=>⟨h,λo ho=>by simp at ho⟩
 |o::l,m,h=>by
  rw[ik]at h;obtain⟨h1,h2⟩:=wJ h
  split at h1
  ·rcases mN h1 with⟨_,hf⟩|⟨hm,QQ⟩
   ·cases hf
   simp_all
  simp_all
def AB {S:d8}{R:MT->PM->Bool}{d:MT}{f:eP}:∀{l:List eP} {m:PM},gw S R d [] m.fs=true->gw S R d [] (ik f l m).fs=true/\(ik f l m).unk=m.unk
 | [],m,h=>⟨h,rfl⟩
 |o::l,m,h=>by
  rw[ik]
  split
  ·obtain⟨h1,h2,_⟩:=py.1 h
   have:gw S R d [] (m.put o.num []).fs=true:=by
    refine py.2 ⟨λx hx=> ?_,Ay (λy x q=>q.1) h2 (λhe=>by cases he),λy hy=>by simp at hy⟩
    rcases mN hx with⟨_,hf⟩|⟨hm,_⟩
    ·cases hf
    simp_all
   obtain⟨a,b⟩:=AB (f:=f) (l:=l) this;exact⟨a,b⟩
  ·exact AB h
def Lw {fs:List PF}{n:Int}:gm fs n≠ []->∃x∈fs,x.1=n/\x.2=gm fs n:=λh=>by
 cases hg:gm fs n with
 |nil=>simp_all
 |cons v l=>
  obtain⟨x,hx,h1,h2⟩:=lY (n:=n) (v:=v) (l:=fs) (by simp_all)
  grind
section
variable {b:am}
def yI {a e z:Nat}{m:Int}:∀f i n,lz b a e f i n= .ok (m,z)->lz b a z f i n= .ok (m,z)/\a+i<z/\z<=e
 |0,_,_,h=>by cases h
 |f+1,i,n,h=>by
  rw[lz]at h
  split at h
  ·rename_i hl
   split at h
   ·cases h
   ·rename_i h9
    split at h
    ·rename_i hc
     simp only[Except.ok.injEq,Prod.mk.injEq]at h;obtain⟨rfl,rfl⟩:=h;refine⟨?_,QD,QD⟩;rw[lz,dB QD,dA h9,dB hc]
    ·rename_i hc
     obtain⟨h1,h2,h3⟩:=yI f (i+1) _ h;refine⟨?_,QD,h3⟩;rw[lz,dB QD,dA h9,dA hc,h1]
  ·cases h
def qP {a e z:Nat}{m:Int}(h:gy b a e= .ok (m,z)):gy b a z= .ok (m,z)/\a<z/\z<=e:=by
 have:=yI 10 0 0 h;exact⟨this.1,QD,this.2.2⟩
def DM {a e:Nat}{r:om}(h:fw b a e= .ok r):fw b a r.e= .ok r:=by
 have QP:∀{fr:Nat} {t:Int} {e':Nat},gy b a e= .ok (t,fr)->fr<=e'->gy b a e'= .ok (t,fr):=λhv hl=>(uE hl).1 _ (qP hv).1
 unfold fw at h
 cases hv:gy b a e with
 |error x=>simp_all
 |ok x=>
  obtain⟨t,fr⟩:=x;rw[hv]at h;simp only at h;unfold fw
  split at h
  ·cases h
  ·rename_i hn
   split at h
   ·rename_i h0
    cases hw:gy b fr e with
    |error x=>simp_all
    |ok y=>
     obtain⟨n,en⟩:=y;rw[hw]at h
     cases h
     obtain⟨q1,q2,q3⟩:=qP hw;rw[QP hv (show fr<=en by omega)];simp only;rw[dA hn,dB h0,q1]
   ·rename_i h0
    split at h
    ·grind
    ·rename_i h1
     split at h
     ·grind
     ·rename_i h5
      split at h
      ·rename_i h2
       cases hw:gy b fr e with
       |error x=>simp_all
       |ok y=>
        obtain⟨n,bh⟩:=y;rw[hw]at h;simp only at h
        split at h
        ·obtain⟨q1,q2,q3⟩:=qP hw;obtain⟨n0,_⟩:=gM hw
         cases h
         rw[QP hv (show fr<=bh+n.toNat by omega)];simp only;rw[dA hn,dA h0,dA h1,dA h5,dB h2,(uE (show bh<=bh+n.toNat by omega)).1 _ q1];simp only;rw[dB QD]
        ·cases h
      ·cases h
def Lx {a e:Nat}{r:om}(h:fw b a e= .ok r)(he:e<=b.size):
  ∃q,fw (b.extract a r.e) 0 (b.extract a r.e).size= .ok q/\q.num=r.num/\q.kind=r.kind/\q.e=(b.extract a r.e).size:=by
 obtain⟨r1,r2,r3,r4,r5,_⟩:=iC h;have hn:=DM h;have hz:(b.extract 0 a).size=a:=by(simp;omega)
 have ht:(b.extract a r.e).size=r.e-a:=by(simp;omega)
 have hj:b.extract 0 a++b.extract a r.e=b.extract 0 r.e:=by
  refine lx ?_
  (simp;omega)
 have hA:Ag b (b.extract 0 r.e) r.e:=⟨λi hi=>D8 QD hi,λi j hj=>jw QD hj⟩;have hr:=(DJ (a:=a) hA).trans hn;rw[<-hj]at hr;have e1:(b.extract 0 a).size+0=a:=QD;have e2:(b.extract 0 a).size+(b.extract a r.e).size=r.e:=QD
 cases hq:fw (b.extract a r.e) 0 (b.extract a r.e).size with
 |error x=>
  obtain⟨c,p⟩:=x;have:=yD (b:=b.extract 0 a) hq
  simp_all
 |ok q=>
  have:=DK (b:=b.extract 0 a) hq;rw[e1,e2,hr]at this;have:=Except.ok.inj this;refine⟨q,rfl,by rw[this];rfl,by rw[this];rfl,?_⟩;have:r.e=(b.extract 0 a).size+q.e:=dF om.e this;omega
end
section
variable {fit:Int->Int->Bool}
def my {s:am}{G a:Nat}(hl:a<s.size):mF fit s (G+1) a=true<->∃r,fw s a s.size= .ok r/\fit r.num r.kind=false/\mF fit s G r.e=true:=by
 have hQ:fw s a s.size=match jo s a with| .error x=> .error x| .ok x=>fh s a x.1.1 x.1.2 x.2:=by
  rw[<-uk (ay _),Aw,pK];rfl
 rw[mF,dB hl,hQ];unfold Ku
 cases ht:jo s a with
 |error x=>simp
 |ok x=>
  simp only[aJ,cm];unfold Io;rw[pL s a x.1.1]
  cases hr:fh s a x.1.1 x.1.2 x.2 with
  |error y=>simp
  |ok r=>
   obtain⟨r1,r2,_⟩:=EN (Cv ht) hr
   simp_all
def td {s:am}:∀(G G' a:Nat),mF fit s G a=true->s.size-a<G'->mF fit s G' a=true
 |0,_,_,h,_=>by cases h
 |_+1,0,_,_,h=>absurd h QD
 |G+1,G'+1,a,h,hG=>by
  by_cases hl:a<s.size
  ·obtain⟨r,h1,h2,h3⟩:=(my hl).1 h;obtain⟨_,_,q3,_,q5,_⟩:=iC h1;exact(my hl).2 ⟨r,h1,h2,td G G' r.e h3 QD⟩
  ·rw[mF,dA hl]
def ER {u t:am}:∀(G a:Nat),mF fit t G a=true->mF fit (u++t) G (u.size+a)=true
 |0,_,h=>by cases h
 |G+1,a,h=>by
  have hz:(u++t).size=u.size+t.size:=QE
  by_cases hl:a<t.size
  ·obtain⟨r,h1,h2,h3⟩:=(my hl).1 h;exact(my QD).2 ⟨r.sh u.size,by rw[hz];exact DK h1,h2,ER G r.e h3⟩
  ·rw[mF,dA QD]
def Cx {u t:am}(ht:qN fit t=true):∀(G a:Nat),mF fit u G a=true->a<=u.size->mF fit (u++t) (G+t.size+1) a=true
 |0,_,h,_=>by cases h
 |G+1,a,h,ha=>by
  have hz:(u++t).size=u.size+t.size:=QE
  by_cases hl:a<u.size
  ·obtain⟨r,h1,h2,h3⟩:=(my hl).1 h;obtain⟨_,_,_,_,q5,_⟩:=iC h1;rw[show G+1+t.size+1=(G+t.size+1)+1 by omega];refine(my QD).2 ⟨r,?_,h2,Cx ht G r.e h3 q5⟩;rw[hz];exact(An (show u.size<=u.size+t.size by omega)).1 r ((DJ (Ag.app u t)).trans h1)
  ·obtain rfl:a=u.size:=QD;exact td _ _ _ (ER (u:=u) (t.size+1) 0 ht) QD
def Ly {u t:am}(hu:qN fit u=true)(ht:qN fit t=true):qN fit (u++t)=true:=
 td _ _ 0 (Cx ht (u.size+1) 0 hu (aM _)) QD
def Lz {t:am}{r:om}(h:fw t 0 t.size= .ok r)(he:r.e=t.size)(hf:fit r.num r.kind=false):qN fit t=true:=by
 obtain⟨_,_,q3,_,_,_⟩:=iC h;refine(my QD).2 ⟨r,h,hf,?_⟩
 cases hs:t.size with
 |zero=>omega
 |succ k=>rw[mF,dA QD]
end
def LA {S:d8}{d:MT}{r:om}(h:∀f,dP d.fs r.num=some f->r.kind≠fA S f/\¬(r.kind=2/\f.isRep=true)):pj S d r.num r.kind=false:=by
 unfold pj
 split
 ·rfl
 ·rename_i f hf
  obtain⟨h1,h2⟩:=h f hf;rw[j7]at h1;simp only[da,Bool.and_eq_false_iff,beq_eq_false_iff_ne];refine⟨λe=>h1 QD,?_⟩
  by_cases h3:r.kind=2
  ·right
   unfold g9
   simp_all
  omega
def AC (s:am):∀f i,0<=Fc s f i/\Fc s f i<256^f
 |0,i=>by simp[Fc]
 |f+1,i=>by
  rw[Fc];have:=jP s i;have ih:=AC s f (i+1);omega
def P6 {b:am}{a:Nat}(h:a+4<=b.size):uU (b.extract a (a+4))<4294967296:=by
 have:=(AC (b.extract a (a+4)) 4 0).2;unfold uU
 simp_all
def LB {k:Nat}{n:Int}(h0:0<=n)(h1:n<18446744073709551616)(h5:ei k=5->n<4294967296)(hk:eK k=true):AJ k (fN k n)=true:=by
 have QQ:k=0\/k=1\/k=2\/k=3\/k=4\/k=5\/k=6\/k=7\/k=8\/k=9\/k=10\/k=11\/k=12\/k=15:=by
  unfold eK at hk
  grind
 have q:∀{x y:Int},x=y->(x==y)=true:=λh=>by simp[h]
 have ss:lQ n=lQ (lQ n):=by unfold lQ;split<;>split<;>omega
 rcases QQ with rfl|rfl|rfl|rfl|rfl|rfl|rfl|rfl|rfl|rfl|rfl|rfl|rfl|rfl
 ·exact q ss
 ·rfl
 ·exact q (show n%4294967296=n%4294967296%4294967296 by omega)
 ·rfl
 ·refine q (show AG (n%4294967296)=lQ (AG (n%4294967296))from ?_);unfold AG lQ
  split<;>split<;>omega
 ·rfl
 ·refine q (show(if 0<n then(1:Int)else 0)=(if(0:Int)<(if 0<n then 1 else 0)then 1 else 0)from ?_)
  split<;>rfl
 ·have:=h5 rfl;exact q (show n=n%4294967296 by omega)
 ·rfl
 ·exact q ss
 ·rfl
 ·have:=h5 rfl;exact q (show n=n%4294967296 by omega)
 ·rfl
 ·exact q ss
def qw:Nat->PM->Prop
 |0,_=>False
 |k+1,m=>∀x∈m.fs,∀v∈x.2,0<=v.1/\v.1<18446744073709551616/\qw k v.2.2
abbrev ES (k:Nat)(v:PV):Prop:=0<=v.1/\v.1<18446744073709551616/\qw k v.2.2
def qw.none (k:Nat):qw (k+1) PM.none:=λx hx=>by simp[PM.none,PM.fs]at hx
def qw.put {k:Nat}{m:PM}(h:qw (k+1) m){n:Int}{vs:List PV}(hv:∀v∈vs,ES k v):qw (k+1) (m.put n vs):=λx hx v QR=>by
 rcases mN hx with⟨rfl,_⟩|⟨hx,_⟩
 ·simp_all
 ·exact h x hx v QR
def qw.get {k:Nat}{m:PM}(h:qw (k+1) m){n:Int}{v:PV}(hv:v∈m.get n):ES k v:=by
 obtain⟨x,hx,_,h2⟩:=lY hv;exact h x hx v (by rw[h2];exact hv)
def yJ {S:d8}{d:MT}(k:Nat):dN S (k+1) d PM.none=true:=by
 rfl
def LC:nQ eS=true:=QH
def LD:wT PM.none=true:=QH
def Cy {S:d8}{R:MT->PM->Bool}{f:eP}{n:Int}(hk:eK (fB S f)=true)(h0:0<=n)(h1:n<18446744073709551616)(h5:ei (fB S f)=5->n<4294967296):ek S R f (fN (fB S f) n,eS,PM.none)=true:=by
 have QS:=hk;unfold eK at QS;simp only[cj,dD]at QS;unfold ek;rw[dA QD,dA QD,dA QD,LB h0 h1 h5 hk];show(nQ eS&&wT PM.none&&true)=true;rw[LC,LD];rfl
section
variable {S:d8} {R:MT->PM->Bool} {b:am} {f:eP} {r:om} {a e:Nat}
def Py (hr:fw b a e= .ok r)(he:e<=b.size)(h:r.kind=5):r.n<4294967296:=by
 unfold fw at hr
 split at hr
 ·cases hr
 ·split at hr
  ·cases hr
  ·split at hr
   ·grind
   ·split at hr
    ·grind
    ·split at hr
     ·split at hr
      ·cases hr
       exact P6 QD
      ·cases hr
     grind
def I7 (hr:fw b a e= .ok r)(he:e<=b.size)(hS:Ls S f)(hs:eR S f=none)(hk:r.kind=fA S f){v:PV}(h:mR S b f r= .ok v)(k:Nat):ek S R f v=true/\ES (k+1) v:=by
 have QT:fB S f≠16:=λq=>by
  have:=hS.1 q
  simp_all
 have hM:f.isMap=false:=by
  cases hm:f.isMap with
  |false=>rfl
  |true=>exact absurd (wI hm) QT
 have hb:fB S f=S.base f.ty:=kM hM;obtain⟨_,_,_,_,_,n0,n1,_⟩:=iC hr;rw[j7]at hk;have hle:=rS S f;unfold mR at h
 split at h
 ·rename_i h2
  split at h
  ·cases h
  ·rename_i hu
   cases h
   refine⟨?_,QD,QD,qw.none k⟩;have QP:fB S f=13\/fB S f=14:=zD QD QD;unfold ek;rw[dA QT]
   rcases QP with q|q
   ·rw[dB q]
    have:OP (b.extract r.fr r.e)=true:=by
     simp only[aJ,cm,not_and,Bool.not_eq_false]at hu;exact hu (kW.1 (hb▸q))
    rw[sl]at this;simp only[aJ,decide_true,true_and];exact⟨LD,this⟩
   ·rw[dA QD,dB q];show(decide ((0:Int)=0)&&wT PM.none)=true;rw[LD];rfl
 ·rename_i h2
  cases h
  have QQ:eK (fB S f)=true:=by
   unfold eK;simp only[cj,dD];have:fB S f≠13:=λq=>h2 (by rw[hk,q];rfl)
   have:fB S f≠14:=λq=>h2 (by rw[hk,q];rfl)
   omega
  rw[<-hb];have rg:=iu (k:=fB S f) n0 n1;exact⟨Cy QQ n0 n1 λq=>Py hr he (by rw[hk,q]),rg.1,rg.2,qw.none k⟩
def pW {k:Nat}{P:PV->Prop}(hP:∀n:Int,0<=n->n<18446744073709551616->(ei k=5->n<4294967296)->P (fN k n,eS,PM.none))(he:e<=b.size):∀(F:Nat) (l:List PV) (a:Nat) (l':List PV),fy b k e F l a= .ok l'->(∀v∈l,P v)->∀v∈l',P v
 |0,l,a,l',h,hl=>by cases h;exact hl
 |F+1,l,a,l',h,hl=>by
  rw[fy]at h
  split at h
  ·split at h
   ·rename_i h0
    split at h
    ·cases h
    ·rename_i n z hv
     obtain⟨n0,n1,_⟩:=gM hv;refine pW hP he F _ _ l' h λv hv=> ?_
     grind
   ·simp only at h
    by_cases h5:ei k=5
    ·rw[dB h5]at h
     split at h
     ·have q:=AC (b.extract a (a+4)) (b.extract a (a+4)).size 0;have q4:=P6 (b:=b) (a:=a) QD;refine pW hP he F _ _ l' h λv hv=> ?_
      rcases aV.1 hv with hv|hv
      ·simp_all
      ·simp only[bJ]at hv;subst hv;exact hP _ q.1 QD λ_=>q4
     ·cases h
    ·rw[dA h5]at h
     split at h
     ·have q:=AC (b.extract a (a+8)) (b.extract a (a+8)).size 0;have e8:(b.extract a (a+8)).size=8:=by(simp;omega)
      have q8:uU (b.extract a (a+8))<18446744073709551616:=by
       have:=q.2;rw[e8]at this;unfold uU
       simp_all
      refine pW hP he F _ _ l' h λv hv=> ?_
      rcases aV.1 hv with hv|hv
      ·simp_all
      ·simp only[bJ]at hv;subst hv;exact hP _ q.1 q8 λx=>absurd x h5
     ·cases h
  simp_all
end
section
variable {S:d8}
def LE (f g:eP)(h:g=mG f\/g=qg f):kC (eo f) g= []:=by
 have hh:jd g.how=false:=by
  rcases h with rfl|rfl<;>exact(by rfl:jd kx=false)
 cases hr:kC (eo f) g with
 |nil=>rfl
 |cons k l=>
  obtain⟨_,_,_,_,h3,_⟩:=uI.1 (show k∈kC (eo f) g by simp_all)
  simp_all
def I8 {R:MT->PM->Bool}{f:eP}{x y:PV}(hx:ek S R (mG f) x=true)(hy:ek S R (qg f) y=true):gw S R (eo f) [] [(1,[x]),(2,[y])]=true:=by
 have f1:dP (eo f).fs 1=some (mG f):=rfl;have f2:dP (eo f).fs 2=some (qg f):=rfl
 have one:∀g z,g=mG f\/g=qg f->ek S R g z=true->fk S R g [z]=true:=λg z hg hz=>by
  have e1:g.isMap=false:=by rcases hg with rfl|rfl<;>exact kL.1
  have e2:gE g.how eS=false:=by rcases hg with rfl|rfl<;>exact kL.2.2
  unfold fk og jY
  simp_all
 refine py.2 ⟨λz hz=> ?_,?_,λy hy=>by simp at hy⟩
 ·simp only[aN,bF,or_false]at hz
  rcases hz with rfl|rfl
  ·exact⟨_,f1,one _ _ (.inl rfl) hx⟩
  ·exact⟨_,f2,one _ _ (.inr rfl) hy⟩
 ·simp only[ba,bJ,forall_eq,bF,false_implies,implies_true,List.Pairwise.nil,and_true];refine⟨QD,λg hg=> ?_⟩;have hg:dP (eo f).fs 2=some g:=hg;rw[f2]at hg
  cases hg
  rw[LE f _ (.inr rfl)];simp
def Gc {R:MT->PM->Bool}{f:eP}{k:Nat}{m:PM}(h:gw S R (eo f) [] m.fs=true)(hr:qw (k+2) m)(hk:ek S R (mG f) PV.none=true)(hv:ek S R (qg f) PV.none=true):
  ∃x y,fO m= .mk [(1,[x]),(2,[y])] eS/\ek S R (mG f) x=true/\ek S R (qg f) y=true/\ES (k+1) x/\ES (k+1) y:=by
 obtain⟨fs,u⟩:=m;obtain⟨h1,h2,_⟩:=py.1 h;have h1:∀x∈fs,kn S R (eo f) x:=h1;have h2:fs.Pairwise (OH (eo f)):=h2;have rn:ES (k+1) PV.none:=⟨by show(0:Int)<=0;omega,by show(0:Int)<_;omega,qw.none k⟩
 have one:∀z∈fs,∃v,(z=(1,[v])/\ek S R (mG f) v=true\/z=(2,[v])/\ek S R (qg f) v=true)/\ES (k+1) v:=λz hz=>by
  obtain⟨g,hg,hL⟩:=h1 z hz;have QV:=mw hg
  have QU:g.isRep=false/\g.isMap=false:=by
   rcases QV with⟨_,rfl⟩|⟨_,rfl⟩<;>exact⟨kL.2.1,kL.1⟩
  unfold fk og at hL;rw[QU.1,QU.2]at hL;simp only[cC,cl,aJ,beq_iff_eq,bO]at hL;obtain⟨⟨q1,q2⟩,_⟩:=hL;obtain⟨n,l⟩:=z
  match l,q1 with
  | [v],_=>
   refine⟨v,?_,hr (n,[v]) hz v aT⟩
   grind
 have hl:fs.length<=2:=by
  match fs,h2,one with
  | [],_,_=>simp
  | [_],_,_=>simp
  | [_,_],_,_=>simp
  |p::q::s::l,h2,one=>
   exfalso;simp only[ba,aN]at h2;have a1:=(h2.1 q (.inl rfl)).1;have a2:=(h2.2.1 s (.inl rfl)).1;obtain⟨_,hp,_⟩:=one p QE;obtain⟨_,hs,_⟩:=one s QE
   grind
 match fs,h2,one,hl with
 | [],_,_,_=>exact⟨PV.none,PV.none,rfl,hk,hv,rn,rn⟩
 | [p],_,one,_=>
  obtain⟨v,hp,rv⟩:=one p QE
  rcases hp with⟨rfl,hp⟩|⟨rfl,hp⟩
  ·exact⟨v,PV.none,rfl,hp,hv,rv,rn⟩
  ·exact⟨PV.none,v,rfl,hk,hp,rn,rv⟩
 | [p,q],h2,one,_=>
  simp only[ba,bJ,forall_eq]at h2;have hlt:=h2.1.1;obtain⟨v,hp,rv⟩:=one p QE;obtain⟨v',hq,QW⟩:=one q QE
  rcases hp with⟨rfl,hp⟩|⟨rfl,hp⟩<;>rcases hq with⟨rfl,hq⟩|⟨rfl,hq⟩
  ·omega
  ·exact⟨v,v',Cw v v',hp,hq,rv,QW⟩
  ·omega
  omega
end
def nN {t:am}{v:PV}:∀{l:List PV} {done:Bool} {x:PV},x∈fU t v done l->(x=v/\done=false)\/(x∈l/\gW (fo v) (fo x)=false)
 | [],done,x,h=>by
  cases done with
  |true=>simp[fU]at h
  |false=>simp[fU]at h;(simp;omega)
 |y::l,done,x,h=>by
  rw[fU]at h
  rcases aV.1 h with h|h
  ·simp_all
  ·rcases aV.1 h with h|h
   ·simp_all
   ·rcases nN h with⟨h1,h2⟩|⟨h1,h2⟩
    ·simp_all
    simp_all
def Cz {t:am}{v:PV}{Q:PV->PV->Prop}(hT:∀a b c,Q a b->Q b c->Q a c):∀{l:List PV} {done:Bool},l.Pairwise Q->(∀x∈l,(jO t (fo v) (fo x)=true->Q v x)/\(jO t (fo v) (fo x)=false->gW (fo v) (fo x)=false->Q x v)/\(gW (fo v) (fo x)=true->∀y∈l,Q x y->Q v y))->(fU t v done l).Pairwise Q
 | [],done,_,_=>by cases done<;>simp[fU]
 |y::l,done,h,hv=>by
  rw[ba]at h;obtain⟨h1,h2⟩:=h;obtain⟨v1,v2,v3⟩:=hv y aT
  have QR:∀x∈l,(jO t (fo v) (fo x)=true->Q v x)/\(jO t (fo v) (fo x)=false->gW (fo v) (fo x)=false->Q x v)/\(gW (fo v) (fo x)=true->∀y∈l,Q x y->Q v y):=λx hx=>
   let q:=hv x (be _ hx)
   ⟨q.1,q.2.1,λe z hz=>q.2.2 e z (be _ hz)⟩
  have ih:=λdn=>Cz (t:=t) (v:=v) (l:=l) (done:=dn) hT h2 QR
  rw[fU]
  have hx:∀z∈((if gW (fo v) (fo y)=true then []else [y]):List PV),z=y/\gW (fo v) (fo y)=false:=λz hz=>by
   simp_all
  have rest:((if gW (fo v) (fo y)=true then []else [y])++fU t v (done||(jO t (fo v) (fo y)||gW (fo v) (fo y))) l).Pairwise Q:=by
   rw[bS];refine⟨by split<;>simp,ih _,λp hp q hq=> ?_⟩;obtain⟨rfl,hs⟩:=hx p hp
   rcases nN hq with⟨rfl,hd⟩|⟨hq,_⟩
   ·grind
   grind
  by_cases hc:(!done&&(jO t (fo v) (fo y)||gW (fo v) (fo y)))=true
  ·rw[dB hc,List.singleton_append,ba];refine⟨λz hz=> ?_,rest⟩;simp only[aJ,cm,cj]at hc
   have hb:∀z∈l,Q v z:=λz hz=>by
    grind
   rcases aV.1 hz with hz|hz
   ·grind
   ·rcases nN hz with⟨_,hd⟩|⟨hz,_⟩
    ·grind
    grind
  grind
def ET {sg:Bool}:∀{l:List PV} {last:Option LV},(∀e∈l,(e.2.2.fs.length==2)=true/\nQ e.2.2.unk=true)->l.Pairwise (λx y=>lC (rV sg x) (rV sg y))->(∀k,last=some k->∀e∈l,lC k (rV sg e))->i8 sg last l=true
 | [],_,_,_,_=>QJ
 |x::l,last,h1,h2,h3=>by
  rw[ba]at h2;unfold i8;simp only[aJ];refine⟨⟨h1 x aT,?_⟩,ET (λe he=>h1 e (be _ he)) h2.2 λk hk e he=>by simp_all⟩
  cases last with
  |none=>rfl
  |some k=>exact decide_eq_true ((zV _ _).2 (h3 k rfl x aT))
def NB {S:d8}{R:MT->PM->Bool}{f:eP}(k2:eK (S.base f.key)=true\/S.base f.key=13){v x y:PV}(ev:v.2.2= .mk [(1,[x]),(2,[y])] eS)(hx:ek S R (mG f) x=true)(h0:0<=x.1)(h1:x.1<18446744073709551616):
  rV (eM iJ f.key) v=jz f.key (fo v)/\0<=(fo v).1/\(fo v).1<18446744073709551616/\(gE f.key j9=true->(fo v).1=0)/\(gE f.key j9=false->(fo v).2.1=eS):=by
 have QU:fo v=x:=by unfold fo;rw[ev];rfl
 have Q3:MO v=x:=by unfold MO;rw[ev];rfl
 have eb:fB S (mG f)=S.base f.key:=kM (iS f).1;refine⟨by unfold rV Gh jz;rw[Q3,QU],by simp_all,by simp_all,λhs=> ?_,λhs=> ?_⟩
 ·rw[QU];have h13:fB S (mG f)=13:=eb.trans (kW.2 hs);unfold ek at hx
  grind
 ·rw[QU]
  have QQ:eK (fB S (mG f))=true:=by
   rw[eb]
   rcases k2 with h|h
   ·exact h
   ·rw[kW.1 h]at hs;cases hs
  exact dF Prod.fst (pV QQ hx).1
def LF {t:am}{x y:PV}(hx:0<=x.1/\x.1<18446744073709551616)(hy:0<=y.1/\y.1<18446744073709551616)(h:je (jz t x) (jz t y)):gW x y=true:=by
 unfold je jz at h;unfold gW;simp only[aJ,dD,gk];refine⟨?_,h.2⟩;have:=h.1
 split at this<;>omega
def DN {d:MT}{f:eP}(h:jd f.how=false):kC d f= []:=by
 cases hr:kC d f with
 |nil=>rfl
 |cons k l=>
  obtain⟨_,_,_,_,h3,_⟩:=uI.1 (show k∈kC d f by simp_all)
  simp_all
def uJ {f:eP}(h:f.isRep=true):jd f.how=false/\gE f.how eS=false:=by
 have e:f.how=Gs:=Az h;rw[e];decide+kernel
def LG {f:eP}(h:f.isMap=true):jd f.how=false:=by
 have e:f.how=AT:=Az h;rw[e];rfl
section
variable {S:d8} {R:MT->PM->Bool} {d:MT} (hd:(d.fs.map (·.num)).Nodup) {m:PM} {n:Int} {f:eP} {k:Nat} (hx:gw S R d [] m.fs=true) (hr:qw (k+1) m) (hf:dP d.fs n=some f)
include hx hf
def CB:(m.get n≠ []->fk S R f (m.get n)=true)/\∀v∈m.get n,ek S R f v=true:=by
 have h1:m.get n≠ []->fk S R f (m.get n)=true:=λQ0=>by
  obtain⟨x,hm,e1,e2⟩:=Lw Q0;obtain⟨g,hg,hL⟩:=(py.1 hx).1 x hm;rw[e1,hf]at hg
  cases hg
  rw[e2]at hL;exact hL
 exact⟨h1,λv hv=>vW (h1 (List.ne_nil_of_mem hv)) hv⟩
include hd hr
def rU {vs:List PV}(hL:vs≠ []->fk S R f vs=true)(hn:vs≠ []->∀y∈m.fs,y.1∉kC d f)(hv:∀v∈vs,ES k v):gw S R d [] (m.put n vs).fs=true/\qw (k+1) (m.put n vs)/\(m.put n vs).unk=m.unk:=
 ⟨NA hd hx hf hL hn,hr.put hv,rfl⟩
end
def wL {S:d8}(hS:OG S){d:MT}(hT:sZ S d)(hd:(d.fs.map (·.num)).Nodup){m:PM}{n:Int}{f:eP}{k j:Nat}(hx:gw S (dN S k) d [] m.fs=true)(hr:qw (j+1) m)(hf:dP d.fs n=some f){v:PV}
  (hv:ek S (dN S k) f v=true) (hg:ES j v) (hmap:f.isMap=true->∃x y,fO v.2.2= .mk [(1,[x]),(2,[y])] eS/\ek S (dN S (k-1)) (mG f) x=true/\ek S (dN S (k-1)) (qg f) y=true/\ES (j-1) x/\ES (j-1) y):
  gw S (dN S k) d [] (gB S d f m v).fs=true/\qw (j+1) (gB S d f m v)/\(gB S d f m v).unk=m.unk:=by
 have Q4:=hT.subF hS hf;obtain⟨QQ,QW⟩:=eT hf;obtain⟨o1,o2⟩:=CB hx hf;unfold gB;rw[QQ]
 by_cases hM:f.isMap=true
 ·rw[dB hM]
  have Q5:d∈S.ms:=by
   rcases hT with h|⟨d',hd,g,hg,hm,rfl⟩
   ·exact h
   ·rcases mw hf with⟨_,rfl⟩|⟨_,rfl⟩
    ·rw[(iS g).1]at hM;cases hM
    ·rw[(iS g).2.1]at hM;cases hM
  obtain⟨k1,k2,k3⟩:=hS.key d Q5 f QW hM;obtain⟨x,y,QP,Q1,Q2,Q9,Ra⟩:=hmap hM;have QR:=hv;unfold ek at QR;rw[dB (wI hM),j8 hM]at QR;simp only[aJ,dD]at QR
  have hk0:k≠0:=by
   rintro rfl
   cases QR.2
  have hj0:j≠0:=by
   rintro rfl;exact hg.2.2
  obtain⟨k',rfl⟩:∃k',k=k'+1:=⟨k-1,QD⟩;obtain⟨j',rfl⟩:∃j',j=j'+1:=⟨j-1,QD⟩;rw[show k'+1-1=k' by omega]at Q1 Q2;rw[show j'+1-1=j' by omega]at Q9 Ra;clear hmap
  have he:ek S (dN S (k'+1)) f (v.1,v.2.1,fO v.2.2)=true:=by
   unfold ek;rw[dB (wI hM),j8 hM];simp only[aJ,dD];refine⟨QR.1,?_⟩;rw[QP,dN];simp only[aJ];exact⟨I8 Q1 Q2,rfl⟩
  have hge:ES (j'+1) (v.1,v.2.1,fO v.2.2):=⟨hg.1,hg.2.1,by
   show qw (j'+1) (fO v.2.2);rw[QP];intro p hp u hu;simp only[PM.fs,aN,bF,or_false]at hp
   grind⟩
  have QS:∀u∈jn f.key (m.get n) (v.1,v.2.1,fO v.2.2),ek S (dN S (k'+1)) f u=true/\ES (j'+1) u:=λu hu=>by
   rcases nN hu with⟨rfl,_⟩|⟨hu,_⟩
   ·grind
   ·exact⟨o2 u hu,hr.get hu⟩
  have QX:∀u,u=(v.1,v.2.1,fO v.2.2)\/u∈m.get n->∃x y,u.2.2= .mk [(1,[x]),(2,[y])] eS/\ek S (dN S k') (mG f) x=true/\0<=x.1/\x.1<18446744073709551616:=λu hu=>by
   rcases hu with rfl|hu
   ·simp_all
   ·have hL:=o1 (List.ne_nil_of_mem hu);unfold fk jY at hL;rw[dB hM,k3]at hL;simp only[aJ]at hL;obtain⟨e1,_,_⟩:=rT hL.2;have QT:=o2 u hu;unfold ek at QT;rw[dB (wI hM),j8 hM]at QT;simp only[aJ]at QT;obtain⟨x,y,eu,hx,_⟩:=yH QT.2 (e1 u hu).1 (e1 u hu).2;have QY:=(hr.get hu).2.2;rw[eu]at QY;have:=QY (1,[x]) (by simp[PM.fs]) x aT
    simp_all
  have QZ:∀u,u=(v.1,v.2.1,fO v.2.2)\/u∈m.get n->rV (eM iJ f.key) u=jz f.key (fo u)/\0<=(fo u).1/\(fo u).1<18446744073709551616/\(gE f.key j9=true->(fo u).1=0)/\(gE f.key j9=false->(fo u).2.1=eS):=λu hu=>by
   obtain⟨x,y,eu,hx,h0,h1⟩:=QX u hu;exact NB k2 eu hx h0 h1
  have QV:(m.get n).Pairwise λx y=>lC (rV (eM iJ f.key) x) (rV (eM iJ f.key) y):=by
   cases hl:m.get n with
   |nil=>simp
   |cons u l=>
    have hL:=o1 (by simp_all);unfold fk jY at hL;rw[dB hM,k3]at hL;simp only[aJ]at hL;rw[<-hl];exact(rT hL.2).2.1
  have Q6:(jn f.key (m.get n) (v.1,v.2.1,fO v.2.2)).Pairwise λx y=>lC (rV (eM iJ f.key) x) (rV (eM iJ f.key) y):=by
   refine Cz (Q:=λx y=>lC (rV (eM iJ f.key) x) (rV (eM iJ f.key) y)) (λ_ _ _=>jR) QV λu hu=> ?_
   obtain⟨ev,v0,v1,v2,v3⟩:=QZ _ (.inl rfl);obtain⟨eu,u0,u1,u2,u3⟩:=QZ u (.inr hu);obtain⟨q1,q2⟩:=EP ⟨v0,v1,v2,v3⟩ ⟨u0,u1,u2,u3⟩;refine⟨λh=> ?_,λh1 h2=> ?_,λh z hz hq=> ?_⟩
   ·simp_all
   ·rw[ev,eu]
    rcases uy (jz f.key (fo (v.1,v.2.1,fO v.2.2))) (jz f.key (fo u))with q|q|q
    ·simp_all
    ·rw[LF ⟨v0,v1⟩ ⟨u0,u1⟩ q]at h2;cases h2
    omega
   ·rw[ev];rw[eu]at hq;exact rz (q2 h) hq
  refine rU hd hx hr hf (λQ0=> ?_) (λ_ y _=>by rw[DN (LG hM)];simp) (λu hu=>(QS u hu).2);unfold fk og jY;rw[dB hM,k3,hM,cA,cq];simp only[aJ,bO];refine⟨⟨?_,λu hu=>(QS u hu).1⟩,ET (λu hu=> ?_) Q6 (λk hk=>by cases hk)⟩
  ·cases hl:jn f.key (m.get n) (v.1,v.2.1,fO v.2.2)with
   |nil=>simp_all
   |cons a l=>
    grind
  ·have:u=(v.1,v.2.1,fO v.2.2)\/u∈m.get n:=by
    rcases nN hu with⟨h,_⟩|⟨h,_⟩
    ·simp_all
    simp_all
   obtain⟨x,y,eu,_⟩:=QX u this;rw[eu];exact⟨rfl,LC⟩
 ·rw[dA hM];have Q7:f.isMap=false:=by simp_all
  by_cases hR:f.isRep=true
  ·rw[dB hR];refine rU hd hx hr hf (λ_=> ?_) (λ_ y _=>by rw[DN (uJ hR).1];simp) (λu hu=> ?_)
   ·unfold fk og jY;rw[Q7,hR,(uJ hR).2]
    grind
   ·rcases aV.1 hu with hu|hu
    ·exact hr.get hu
    grind
  ·rw[dA hR]
   split
   ·exact rU hd hx hr hf (λh=>absurd rfl h) (λh=>absurd rfl h) (λu hu=>by simp at hu)
   ·rename_i Rb
    obtain⟨d1,d2⟩:=AB (f:=f) (l:=d.fs) hx;have d3:qw (j+1) (ik f d.fs m):=λy hy u hu=>hr y (wJ hy).1 u hu
    have:=rU hd d1 d3 hf (vs:= [v]) (λ_=> ?_) (λ_ y hy hc=> ?_) (λu hu=>by
     grind)
    ·simp_all
    ·unfold fk og jY;rw[dA hM];simp only[List.length_singleton,beq_self_eq_true,cz,cq,List.all_cons,List.all_nil,cU,hv]
     split
     ·rename_i hc
      cases hz:(decide (v.1=0)&&nQ v.2.1)with
      |false=>rfl
      |true=>
       exfalso;simp only[aJ,dD]at hz;refine Rb ?_
       have Q8:(eR S f).isNone=true:=by
        cases hs:eR S f with
        |none=>rfl
        |some t=>exact absurd (Q4.2 (by simp_all)) hc.2
       simp only[aJ,dD];refine⟨⟨⟨hc.1,Q8⟩,hz.1⟩,?_⟩;rw[sY hz.2,gk]
     ·rfl
    ·unfold kC at hc;rw[aQ]at hc;obtain⟨o,ho,e⟩:=hc;rw[bN]at ho;exact(wJ hy).2 o ho.1 ho.2 e.symm
def Pz {k:Nat}(hk:eK k=true):AJ k 0=true:=by
 have Q4:k=0\/k=1\/k=2\/k=3\/k=4\/k=5\/k=6\/k=7\/k=8\/k=9\/k=10\/k=11\/k=12\/k=15:=by
  unfold eK at hk
  grind
 rcases Q4 with rfl|rfl|rfl|rfl|rfl|rfl|rfl|rfl|rfl|rfl|rfl|rfl|rfl|rfl<;>decide+kernel
def yK {S:d8}{R:MT->PM->Bool}{g:eP}(h:fB S g=16->∃t,eR S g=some t/\R t PM.none=true):ek S R g PV.none=true:=by
 have e1:nQ PV.none.2.1=true:=LC;have e2:wT PV.none.2.2=true:=LD;have e3:decide (PV.none.1=0)=true:=rfl;unfold ek;rw[e1,e2,e3]
 split
 ·rename_i QU
  obtain⟨t,h1,h2⟩:=h QU;rw[h1];exact h2
 ·split
  ·rfl
  ·split
   ·rfl
   ·show(true&&true&&AJ (fB S g) 0)=true;rw[Pz]
    ·rfl
    ·have:=rS S g;unfold eK
     (simp;omega)
def NC {S:d8}(hN:∀d∈S.ms,(d.fs.map (·.num)).Nodup){d:MT}(h:sZ S d):(d.fs.map (·.num)).Nodup:=by
 rcases h with h|⟨d',_,f,_,_,rfl⟩
 ·simp_all
 ·show [(1:Int),2].Nodup;decide
section
variable {S:d8} (hS:OG S) (hN:∀d∈S.ms,(d.fs.map (·.num)).Nodup) {b:am}
include hS hN
def tf:∀(F n deep:Nat) (d:MT) (m:PM) (a e:Nat) (m':PM),n+deep=9->sZ S d->dN S n d m=true->qw (n+1) m->e<=b.size->ew S b F d m a e deep= .ok m'->dN S n d m'=true/\qw (n+1) m'
 |0,_,_,_,_,_,_,_,_,_,h1,h2,_,h=>by cases h;simp_all
 |_+1,0,_,_,_,_,_,_,_,_,h1,_,_,_=>by cases h1
 |F+1,k+1,deep,d,m,a,e,m',hn,hT,h1,h2,he,h=>by
  by_cases hl:a<e
  ·cases hr:fw b a e with
   |error x=>rw[iH hl hr]at h;cases h
   |ok r=>
    rw[iR hl hr]at h
    cases hs:jI S b F d m r deep with
    |error x=>rw[hs]at h;cases h
    |ok m1=>
     rw[hs]at h;obtain⟨r1,r2,r3,r4,r5,rn0,rn1,_⟩:=iC hr;have hd:=NC hN hT;have QT:=h1;rw[dN]at QT;simp only[aJ]at QT;obtain⟨hX,hU⟩:=QT
     have fin:∀m2,gw S (dN S k) d [] m2.fs=true/\qw (k+1+1) m2/\m2.unk=m.unk->dN S (k+1) d m2=true/\qw (k+1+1) m2:=λm2 q=>by
      refine⟨?_,q.2.1⟩;rw[dN,q.2.2]
      simp_all
     have keep:(∀f,dP d.fs r.num=some f->r.kind≠fA S f/\¬(r.kind=2/\f.isRep=true))->dN S (k+1) d (m.keep (b.extract r.a r.e))=true/\qw (k+1+1) (m.keep (b.extract r.a r.e)):=λQ6=>by
      refine⟨?_,h2⟩;rw[dN];simp only[aJ];obtain⟨q,q1,q2,q3,q4⟩:=Lx hr he;rw[r1];exact⟨hX,Ly hU (Lz q1 q4 (by rw[q2,q3];exact LA Q6))⟩
     have QW:dN S (k+1) d m1=true/\qw (k+1+1) m1:=by
      unfold jI at hs
      split at hs
      ·simp_all
      ·rename_i f hf
       have QX:=hT.subF hS hf;obtain⟨o1,o2⟩:=CB hX hf;obtain⟨QQ,QS⟩:=eT hf
       split at hs
       ·rename_i hk
        unfold oS at hs
        cases hv:mW S b F f m r deep with
        |error x=>rw[hv]at hs;cases hs
        |ok v=>
         rw[hv]at hs
         cases hs
         unfold mW at hv
         cases hsub:eR S f with
         |none=>
          rw[hsub]at hv;obtain⟨q1,q2⟩:=I7 (R:=dN S k) hr he QX hsub hk hv k;exact fin _ (wL hS hT hd hX h2 hf q1 q2 λhM=>by rw[j8 hM]at hsub;cases hsub)
         |some t=>
          rw[hsub]at hv;simp only at hv;unfold xd at hv;have QU:fB S f=16:=QX.2 (by simp_all)
          split at hv
          ·cases hv
          ·rename_i sm Q2
           cases hv
           split at Q2
           ·grind
           ·rename_i QP
            have QP:ot S t (deep+1)=false:=by simp_all
            have hle:=Mu QP;obtain⟨k',rfl⟩:∃k',k=k'+1:=⟨k-1,QD⟩
            have QY:(eH f m).1=0/\nQ (eH f m).2.1=true/\dN S (k'+1) t (eH f m).2.2=true/\qw (k'+1+1) (eH f m).2.2:=by
             have z:(0:Int)=0/\nQ eS=true/\dN S (k'+1) t PM.none=true/\qw (k'+1+1) PM.none:=⟨rfl,LC,yJ k',qw.none _⟩;unfold eH;rw[QQ]
             split
             ·exact z
             ·cases hg:m.get r.num with
              |nil=>exact z
              |cons v0 l=>
               have QZ:v0∈m.get r.num:=by simp_all
               have Q0:=o2 v0 QZ;have:=h2.get QZ;have hR:=sO Q0 QU hsub;unfold ek at Q0
               simp_all
            obtain⟨i1,i2⟩:=tf F (k'+1) (deep+1) t _ r.fr r.e sm QD (hT.sub hf hsub) QY.2.2.1 QY.2.2.2 QD Q2
            have hv:ek S (dN S (k'+1)) f ((eH f m).1,(eH f m).2.1,sm)=true:=by
             unfold ek
             simp_all
            refine fin _ (wL hS hT hd hX h2 hf hv ⟨QD,QD,i2⟩ λhM=> ?_);rw[j8 hM]at hsub
            cases hsub
            rw[dN]at i1;simp only[aJ]at i1
            have Q1:d∈S.ms:=by
             rcases hT with h|⟨d',hd,g,hg,hm,rfl⟩
             ·exact h
             ·rcases mw hf with⟨_,rfl⟩|⟨_,rfl⟩
              ·rw[(iS g).1]at hM;cases hM
              ·rw[(iS g).2.1]at hM;cases hM
            obtain⟨_,k2,_⟩:=hS.key d Q1 f QS hM;refine Gc i1.1 i2 (yK λq=> ?_) (yK λq=> ?_)
            ·rw[kM (iS f).1]at q;exact absurd q (L0 k2)
            ·rw[kM (iS f).2.1]at q;have hs:=(hS.sub d Q1 f QS).1 q;obtain⟨t,ht⟩:=bV.1 hs;refine⟨t,by rw[mx (iS f).2.1];exact ht,?_⟩
             have hk0:k'≠0:=by
              rintro rfl;have e8:deep+1=8:=QD;unfold ot at QP;rw[e8]at QP;have en:gE (eo f).name eS=true:=by rw[gk];rfl
              rw[en]at QP;have QP:(S.msg f.ty).isSome=false:=QP
              simp_all
             obtain⟨Q3,rfl⟩:∃Q3,k'=Q3+1:=⟨k'-1,QD⟩;rfl
       ·rename_i hk
        split at hs
        ·rename_i hp
         split at hs
         ·cases hs
         ·rename_i l' QV
          cases hs
          have hM:=EM hp.2;have hb:fB S f=S.base f.ty:=kM hM;rw[j7,hp.1]at hk
          have Q5:eK (fB S f)=true:=by
           have:=rS S f;unfold eK;simp only[cj,dD];have:fB S f≠13:=λq=>hk (by rw[q];rfl)
           have:fB S f≠14:=λq=>hk (by rw[q];rfl)
           have:fB S f≠16:=λq=>hk (by rw[q];rfl)
           omega
          unfold lA at QV;rw[<-hb,QQ]at QV;have QR:=pW (P:=λv=>ek S (dN S k) f v=true/\ES (k+1) v) (λx x0 x1 x5=>⟨Cy Q5 x0 x1 x5,(iu x0 x1).1,(iu x0 x1).2,qw.none k⟩) QD _ _ _ _ QV λv hv=>⟨o2 v hv,h2.get hv⟩
          rw[QQ];refine fin _ (rU hd hX h2 hf (λhne=> ?_) (λ_ y _=>by rw[DN (uJ hp.2).1];simp) λv hv=>(QR v hv).2);unfold fk og jY;rw[hM,hp.2,(uJ hp.2).2];simp only[aJ,bO];refine⟨⟨?_,λv hv=>(QR v hv).1⟩,rfl⟩
          cases l' with
          |nil=>simp_all
          |cons x l=>cases l<;>simp
        simp_all
     exact tf F (k+1) deep d m1 r.e e m' hn hT QW.1 QW.2 he h
  ·rw[ie hl]at h
   simp_all
def I9 {nm:am}{m:PM}(h:il S nm b= .ok m):∃d,S.msg nm=some d/\d∈S.ms/\dN S 8 d m=true/\qw 9 m:=by
 unfold il at h
 cases hm:S.msg nm with
 |none=>simp_all
 |some d=>
  rw[hm]at h;have hd:d∈S.ms:=iP hm;obtain⟨h1,h2⟩:=tf hS hN _ 8 1 d PM.none 0 b.size m rfl (.inl hd) (yJ 7) (qw.none 8) (ay _) h
  simp_all
end
end Go.Proofs.YtfebdimolnobaaaGreatDoor
