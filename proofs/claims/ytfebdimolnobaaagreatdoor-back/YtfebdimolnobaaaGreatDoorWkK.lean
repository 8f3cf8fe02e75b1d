import Derived.Test.YtfebdimolnobaaaGreatDoorWkF
import Derived.Laws.IdiomStrings
set_option maxRecDepth 100000
set_option maxHeartbeats 8000000
set_option linter.all false
namespace Go.Proofs.YtfebdimolnobaaaGreatDoor
open Go.RowKit Go.Proofs.Tryz
section
open Vo
def Lr (w:aw)(B:Nat)(S:eD)(mp:an)(k:Nat)(d:MT)(f:fo)(g:GF)(fb:Nat)(Z:ax)(rb db:Nat)(b:au)(e a z deep F:Nat)(num kind:Int)(m:PM)
  (I:px w B S mp k d Z rb db b e a z deep m) (hfa:eZ w (λb=>b<B) mp g fb) (fg:FG S mp d f g) (hf:g.form=2) (hb:S.base f.ty<=15) (hff:d9 d.fs f.num=some f) (hk:kind=eJ (S.base f.ty)\/(kind=2/\eJ (S.base f.ty)≠2)):
  Calls prog 133 #[ah fb,aa kind,ah rb,ah db] w (iD S k d w Z rb db (b.extract 0 e) deep (kx S b F d f m deep (fM (b.extract 0 e) a num kind z))):=by
 have⟨pv,rv,h1,VU,Vp,VC⟩:=hfa.blk;have VF:eI mp g=S.base f.ty:=by unfold eI;rw[dO Vc,fg.eq,fg.base]
 have VG:=fg.lone Vc;rw[VG]at Vp;have hD:=re S k (some d) w Z db m rv [] I.hd Vp.1 Vd (λx hx q=>by have:=Vp.2 x hx;have:=(I.hZ x q).1;omega);rw[jo]at hD
 have HR:∀w1 Z1,fK w Z w1 Z1->eM S (k+1) (some d) w1 Z1 db m->U8 192 #[ah fb,aa kind,ah rb,ah db] w1 (iD S k d w Z rb db (b.extract 0 e) deep (kx S b F d f m deep (fM (b.extract 0 e) a num kind z))):=λw1 Z1 st Vv=>by
  have VD:eR w Z rb w1 Z1:= .oS st;have VT:=VD.G I.cx.le (λx q=>(I.hZ x q).1) I.rB;have I1:=I.on VD Vv (dX.step I.hr st I.rZ) I.wm;have Vx:=hfa.O (w':=w1) (λx q _=>VT.block x q);rcases hk with rfl|⟨rfl,hw⟩;.exact(FN w1 B S mp k d f g fb _ rb db b e a z deep F num m I1 Vx fg hf hb hff).V λ_ _ q=>q.pre VD.clip
  .exact(FQ w1 B S mp k d f g fb _ rb db b e a z deep F num m I1 Vx fg hf hb hw hff).V λ_ _ q=>q.pre VD.clip
 rw[VF,fg.eq,hf]at h1;obtain⟨R,hR⟩:=Y9 (kx S b F d f m deep (fM (b.extract 0 e) a num kind z));rw[hR]at HR⊢;clear hR;obtain⟨pq,rfl⟩:=gK VC;obtain⟨ra,rn,rc,rfl⟩:=d5 Vp.1;have⟨k1,k2⟩:=h1.I;have VH:((S.base f.ty:Int)==16)=false:=Ve;have VI:=h1.lt;clear VC hk;go_in
 go_wp2_with fail;refine hD.V ?_;rintro en w1 ⟨rfl,Z1,st1,Vv⟩;have h2:=h1.step st1 (λq=>by have:=(I.hZ fb q).1;omega);clear k1 k2 hD;have⟨k1,k2⟩:=h2.I;go_wp2_with fail;refine(HR w1 Z1 st1 Vv).V ?_;intro en w2 hq
 cases R with
 |error x=>
  obtain⟨rfl,hq⟩:=hq;unfold dY;go_wp2
  exact⟨rfl,rfl,hq⟩
 |ok x=>
  obtain⟨rfl,hq⟩:=hq;go_wp2;go_end0;exact⟨rfl,hq⟩
def Ls (w:aw)(B:Nat)(S:eD)(mp:an)(k:Nat)(d:MT)(f:fo)(g:GF)(fb:Nat)(Z:ax)(rb db:Nat)(b:au)(e a z deep F:Nat)(num:Int)(m:PM)
  (I:px w B S mp k d Z rb db b e a z deep m) (hfa:eZ w (λb=>b<B) mp g fb) (fg:FG S mp d f g) (h4:g.form≠4) (h2:g.form≠2) (hb:S.base f.ty<=15) (hff:d9 d.fs f.num=some f):
  Calls prog 133 #[ah fb,aa (eJ (S.base f.ty)),ah rb,ah db] w (iD S k d w Z rb db (b.extract 0 e) deep (kx S b F d f m deep (fM (b.extract 0 e) a num (eJ (S.base f.ty)) z))):=by
 rw[Hq fg h4 h2 hb I.eb];have⟨pv,rv,h1,VU,Vp,VC⟩:=hfa.blk;have VF:eI mp g=S.base f.ty:=by unfold eI;rw[dO h4,fg.eq,fg.base]
 rw[VF,fg.eq]at h1;have hD:=re S k (some d) w Z db m rv g.riv I.hd Vp.1 fg.rlen (λx hx q=>by have:=Vp.2 x hx;have:=(I.hZ x q).1;omega);have⟨VV,_,_⟩:=lO fg h4 hb;have⟨ok1,ok2⟩:=oN hff VV;have hes:(b.extract 0 e).size=e:=gJ I.eb;have hl:(m.without g.riv).fs.length<=a:=(by have:=I.wm.len.1;exact aM (bZ _ _) this);have hab:=I.az;have hze:=I.ze;have heb:=I.eb;have hbs:=I.bs;have hrb:=I.rB;have VE:=I.rZ;have VP:=I.hZ;have hBw:=I.cx.le;have VQ:rb<w.heap.size:=dX.lt I.hr
 have hV:∀w1,ee w1 rb (b.extract 0 e) z deep->UOK w1->U8 194 #[.agg #[aa (S.base f.ty),pv],ah rb] w1 (pS w1 rb (b.extract 0 e) deep (gE (b.extract 0 e) z (S.base f.ty)) vP):=
  λw1 h1 h2=>qm w1 rb _ z deep _ pv h1 Vc Vc hb h2 (by have:=I.cx.u1;have:=I.rB;omega) (by have:=I.cx.u2;have:=I.rB;omega)
 obtain⟨R,hR⟩:=Y9 (gE (b.extract 0 e) z (S.base f.ty));rw[hR]at hV⊢;clear hR;obtain⟨m1,VR⟩:=Y9 (m.without g.riv);rw[VR]at hD hl⊢;clear VR;have hu:∀w1 Z1,fK w Z w1 Z1->UOK w1:=λw1 Z1 st=>(I.cx.on ((eR.oS (rb:=rb) st).G I.cx.le (λx q=>(I.hZ x q).1) I.rB)).u
 obtain⟨pq,rfl⟩:=gK VC;obtain⟨ra,rn,rc,rfl⟩:=d5 Vp.1;have VH:((S.base f.ty:Int)==16)=false:=Ve;have hr0:=I.hr;clear VC;have Vy:g.form=0\/g.form=1\/g.form=3:=by have:=fg.form;omega
 have VI:=h1.lt;rcases Vy with hf|hf
 .rw[hf]at h1⊢
  have HA:Hid (∀(w3:aw) (Z1:ax) (v:LV),eM S (k+1) (some d) w3 Z1 db m1->(∀x,Z1 x->x<w3.heap.size)->U8 193 #[ah db,aa f.num,vP v] w3 (kr S k (some d) w3 Z1 db (if v.1=0/\gN v.2 eS=true then m1.put f.num []else m1.put f.num [qq v]))):=
   λw3 Z1 v VM VW=>Hh S k (some d) w3 Z1 db m1 f.num v VM ok1 (.inl ok2) Vc VW
  have⟨k1,k2⟩:=h1.I;go_in
  go_wp2_with fail;refine hD.V ?_;rintro en w1 ⟨rfl,VX,Vs,Vt⟩;obtain⟨Z1,st1,Vv,VS⟩:∃Z1,fK w Z w1 Z1/\eM S (k+1) (some d) w1.drew Z1 db m1/\∀x,Z1 x->x<w1.heap.size:=⟨_,Vs.clip,Vt.clip.O (λ_ _ _=>rfl),λx q=>q.2⟩;clear Vs Vt;have Vz:¬Z fb:=λq=>by have:=(VP fb q).1;omega
  have VA:=h1.step st1 Vz;have VB:dX w1.drew fb #[aa f.num,aa 0,aa (S.base f.ty),.pointer pq,.slice ra rn rc] 220:=VA;have VJ:ee w1.drew rb (b.extract 0 e) z deep:=dX.step hr0 st1.drew VE;have Vr:¬Z1 rb:=st1.not VQ VE;have Vu:¬Z1 fb:=st1.not VI Vz;have VK:UOK w1.drew:=hu w1 Z1 st1;clear k1 k2 hD;have⟨k1,k2⟩:=VA.I;have⟨k3,k4⟩:=VB.I;go_upto_region 13 with fail
  go_region_with
   (first
    |(
      go_at_call 194;refine(hV w1.drew VJ VK).V ?_;intro en w3 hq;rcases hq.part with⟨x,rfl,rfl,Vq⟩|⟨x,rfl,rfl,Vq,VN⟩;.unfold dY;go_wp2;exact⟨rfl,rfl,Z1,(eR.oS st1.drew).J (.oK Vq)⟩
      have h3:=VB.kept Vq Ve
      have⟨k5,k6⟩:=h3.I)
    |(
      go_at_call 193;refine(HA.o w3 Z1 x.1 (eR.dr Vv Vq Vr) (λi q=>aI (VS i q) Vq.size)).V ?_;rintro en w4 ⟨rfl,Z4,Vw,VO⟩;have VL:=h3.step Vw Vu
      have⟨k7,k8⟩:=VL.I))
  all_goals
   go_wp2;go_end0;refine⟨rfl,Z4,((eR.oS st1.drew).J (.oK Vq)).J (.oS Vw),?_,dX.step VN Vw Vr⟩;simp only[decide_true,true_and];exact VO
 .rcases hf with hf|hf
  all_goals
   rw[hf]at h1⊢
   have HA:Hid (∀(w3:aw) (Z1:ax) (v:LV),eM S (k+1) (some d) w3 Z1 db m1->U8 195 #[ah db,aa f.num,vP v] w3 (kr S k (some d) w3 Z1 db (m1.put f.num [qq v]))):=
    λw3 Z1 v VM=>xU S k (some d) w3 Z1 db m1 f.num v VM ok1 (.inl ok2) Vc
   have⟨k1,k2⟩:=h1.I;go_in
   go_wp2_with fail;refine hD.V ?_;rintro en w1 ⟨rfl,VX,Vs,Vt⟩;obtain⟨Z1,st1,Vv,VS⟩:∃Z1,fK w Z w1 Z1/\eM S (k+1) (some d) w1.drew Z1 db m1/\∀x,Z1 x->x<w1.heap.size:=⟨_,Vs.clip,Vt.clip.O (λ_ _ _=>rfl),λx q=>q.2⟩;clear Vs Vt;have Vz:¬Z fb:=λq=>by have:=(VP fb q).1;omega
   have VA:=h1.step st1 Vz;have VB:dX w1.drew fb _ 220:=VA;have VJ:ee w1.drew rb (b.extract 0 e) z deep:=dX.step hr0 st1.drew VE;have Vr:¬Z1 rb:=st1.not VQ VE;have Vu:¬Z1 fb:=st1.not VI Vz;have VK:UOK w1.drew:=hu w1 Z1 st1;clear k1 k2 hD;have⟨k1,k2⟩:=VA.I;have⟨k3,k4⟩:=VB.I;go_upto_region 1 with fail
   go_region_with
    (first
     |(
       go_at_call 194;refine(hV w1.drew VJ VK).V ?_;intro en w3 hq;rcases hq.part with⟨x,rfl,rfl,Vq⟩|⟨x,rfl,rfl,Vq,VN⟩;.unfold dY;go_wp2;exact⟨rfl,rfl,Z1,(eR.oS st1.drew).J (.oK Vq)⟩
       have h3:=VB.kept Vq Ve
       have⟨k5,k6⟩:=h3.I)
     |(
       go_at_call 195;refine(HA.o w3 Z1 x.1 (eR.dr Vv Vq Vr)).V ?_;rintro en w4 ⟨rfl,Z4,Vw,VO⟩;have VL:=h3.step Vw Vu
       have⟨k7,k8⟩:=VL.I))
   all_goals
    go_wp2;go_end0;refine⟨rfl,Z4,((eR.oS st1.drew).J (.oK Vq)).J (.oS Vw),?_,dX.step VN Vw Vr⟩;exact VO
end
def pK.sh (r:pK)(k:Nat):pK:=⟨r.num,r.kind,k+r.a,k+r.fr,k+r.e,r.n⟩
def oY (c:au)(i j:Nat):(c.extract i j).data.toList=(c.data.toList.take j).drop i:=by
 rw[cJ,Array.toList_extract,List.extract_eq_take_drop,List.drop_take]
def jz {a b:au}(h:a.data.toList=b.data.toList):a=b:=cN (cV.1 h)
def tL (b t:au)(i j:Nat):(b++t).extract (b.size+i) (b.size+j)=t.extract i j:=by
 refine jz ?_;simp
section
variable {b t:au}
def Ij {a e:Nat}{m:Int}{z:Nat}(h:iT t a e= .ok (m,z)):iT (b++t) (b.size+a) (b.size+e)= .ok (m,b.size+z):=(yW 10 0 0).1 m z h
def Gr {a e:Nat}{r:pK}(h:fN t a e= .ok r):fN (b++t) (b.size+a) (b.size+e)= .ok (r.sh b.size):=by
 unfold fN at*
 cases h1:iT t a e with
 |error x=>simp_all
 |ok x=>
  obtain⟨n,fr⟩:=x;rw[h1]at h;rw[Ij h1];simp only at*;split at h;.cases h
  .rw[dO ‹_›];split at h
   .rw[dP ‹_›]
    cases h2:iT t fr e with
    |error x=>simp_all
    |ok x=>
     rw[h2]at h;rw[Ij h2];cases h;rfl
   .rw[dO ‹_›];split at h
    .rw[dP ‹_›];split at h;.rw[dP Vc];cases h;rw[de,tL];rfl
     .cases h
    .rw[dO ‹_›];split at h
     .rw[dP ‹_›];split at h;.rw[dP Vc];cases h;rw[de,tL];rfl
      .cases h
     .rw[dO ‹_›];split at h
      .rw[dP ‹_›]
       cases h2:iT t fr e with
       |error x=>simp_all
       |ok x=>
        obtain⟨q,bh⟩:=x;rw[h2]at h;rw[Ij h2];simp only at*;split at h;.rw[dP Vc];cases h;simp[pK.sh,de]
        .cases h
      .cases h
def CB {k e:Nat}{l':List PV}:∀F l a,fW t k e F l a= .ok l'->fW (b++t) k (b.size+e) F l (b.size+a)= .ok l'
 |0,_,_,h=>h
 |F+1,l,a,h=>by
  rw[fW]at*;by_cases hl:a<e
  .rw[dP hl]at h;rw[dP (show b.size+a<b.size+e by omega)];split at h
   .rw[dP ‹_›]
    cases h2:iT t a e with
    |error x=>simp_all
    |ok x=>
     rw[h2]at h;rw[Ij h2];exact CB F _ _ h
   .rw[dO ‹_›];simp only at*;generalize(if eJ k=5 then 4 else 8)=z at*;split at h;.rw[dP Vc,de,tL];exact CB F _ _ h
    .cases h
  grind
def xd {S:eD}:∀(F:Nat) (d:MT) (m:PM) (a e deep:Nat) (m':PM),eW S t F d m a e deep= .ok m'->eW S (b++t) F d m (b.size+a) (b.size+e) deep= .ok m'
 |0,_,_,_,_,_,_,h=>h
 |F+1,d,m,a,e,deep,m',h=>by
  by_cases hl:a<e
  .cases hr:fN t a e with
   |error x=>rw[jk hl hr]at h;cases h
   |ok r=>
    rw[jy hl hr]at h;rw[jy Vc (Gr hr)]
    cases hs:kE S t F d m r deep with
    |error x=>rw[hs]at h;cases h
    |ok m1=>
     rw[hs]at h
     have Vq:kE S (b++t) F d m (r.sh b.size) deep= .ok m1:=by
      have hx:(b++t).extract (r.sh b.size).a (r.sh b.size).e=t.extract r.a r.e:=tL b t r.a r.e;have hy:(b++t).extract (r.sh b.size).fr (r.sh b.size).e=t.extract r.fr r.e:=tL b t r.fr r.e;unfold kE at*;rw[hx];show(match d9 d.fs r.num with|none=>_|some f=>if r.kind=fV S f then _ else if r.kind=2/\f.isRep=true then _ else _)=_;split at hs;.simp_all
      .rename_i f hf
       try (rw[hf];simp only)
       split at hs
       .rw[dP ‹_›];unfold qo at*
        have:∀v,oo S t F f m r deep= .ok v->oo S (b++t) F f m (r.sh b.size) deep= .ok v:=λv hv=>by
         unfold oo zK og at*;rw[hy];split at hv
         .rename_i sub _;split at hv;.cases hv
          .rename_i sm Vp;split at Vp;.grind
           .rw[dO ‹_›,show(r.sh b.size).fr=b.size+r.fr from rfl,show(r.sh b.size).e=b.size+r.e from rfl,xd F sub _ r.fr r.e (deep+1) sm Vp];exact hv
         .split at hv;.rw[dP ‹_›];grind
          .rw[dO ‹_›];exact hv
        cases hv:oo S t F f m r deep with
        |error x=>rw[hv]at hs;cases hs
        |ok v=>simp_all
       .rw[dO ‹_›];split at hs
        .rw[dP ‹_›];unfold mI at*;split at hs;.cases hs
         .rename_i l' hp;rw[show(r.sh b.size).fr=b.size+r.fr from rfl,show(r.sh b.size).e=b.size+r.e from rfl,show b.size+r.e-(b.size+r.fr)=r.e-r.fr by omega,CB _ _ _ hp];exact hs
        simp_all
     rw[Vq];exact xd F d m1 r.e e deep m' h
  .rw[iP hl]at h;rw[iP Vc];exact h
end
def rd (S:eD)(t:au)(d:MT)(m:PM)(deep:Nat):Fx PM:=eW S t (t.size+1) d m 0 t.size deep
def MC (S:eD)(nm b:au):iV S nm b=match S.msg nm with|none=> .error (5,0)|some d=>rd S b d PM.none 1:=rfl
section
variable {S:eD} {d:MT} {m m1 m2:PM} {deep:Nat} {s t:au}
def Gs (h1:rd S s d m deep= .ok m1)(h2:rd S t d m1 deep= .ok m2):rd S (s++t) d m deep= .ok m2:=by
 unfold rd at*;have hz:(s++t).size=s.size+t.size:=Vd;rw[<-nZ (s.size+1) (s.size+1) d m 0 s.size deep (Ag.app s t) Vc Vc]at h1;rw[(rm Vc _ _ d m 0 (aP _) Vc Vc).2 m1 h1 (t.size+1) Vc,hz];exact xd (t.size+1) d m1 0 t.size deep m2 h2
def SR (h:rd S t d m deep= .ok m1){F:Nat}(hF:t.size<F):eW S (s++t) F d m s.size (s.size+t.size) deep= .ok m1:=by
 rw[nZ (b:=s++t) (t.size+1) F d m s.size (s.size+t.size) deep (Ag.refl _ _) Vc Vc];exact xd (t.size+1) d m 0 t.size deep m1 h
def CD {r:pK}(hr:fN t 0 t.size= .ok r)(he:r.e=t.size)(hs:kE S t t.size d m r deep= .ok m1):rd S t d m deep= .ok m1:=by
 have⟨_,_,h3,_,_,_⟩:=je hr;unfold rd;rw[jy Vc hr,hs];exact iP Vc
end
def bl (l:ap):au:=⟨l.toArray⟩
def iH (l:ap):(bl l).data.toList=l:=rfl
def fR (l:ap):(bl l).size=l.length:=Vi
def pB (l r:ap):bl (l++r)=bl l++bl r:=jz (by rw[oX,iH,iH,iH])
def CE (b:au):bl b.data.toList=b:=jz rfl
section
open Vo
def JC (c:Int):Prop:= -9223372036854775808<=c/\c<=9223372036854775807
def rV (c:Int)(n:Nat):Nat:=((if c<0 then-(c+1)else c)%n).toNat
def ik (c:Int){n:Nat}(h:0<n):rV c n<n:=by
 unfold rV;have h1:0<=(if c<0 then-(c+1)else c)%(n:Int):=Int.emod_nonneg _ Vc;have h2:(if c<0 then-(c+1)else c)%(n:Int)<n:=Int.emod_lt_of_pos _ Vc;omega
def MD (w:aw)(c:Int)(n:Nat)(hc:JC c)(h:0<n):Calls prog 32 #[aa c,aa n] w λe w'=>e= .returned (aa (rV c n))/\w'=w:=by
 obtain⟨c1,c2⟩:=hc;have e0:((rV c n:Nat):Int)=(if c<0 then-(c+1)else c)%n:=(by unfold rV;have h1:0<=(if c<0 then-(c+1)else c)%(n:Int):=Int.emod_nonneg _ Vc;omega);generalize rV c n=q at*;have HE:Hid _:=e0;clear e0;by_cases hl:c<0
 .go_in
  go_wp2;go_ret;rw[HE.o,dP hl,<-Int.neg_tmod,dB Vc];exact⟨rfl,rfl⟩
 .go_in
  go_wp2;go_ret;rw[HE.o,dO Vc];exact⟨rfl,rfl⟩
def jp (raw:ar)(i n:Nat):Nat:=rV ((raw[i]?).getD 0) n
structure Gv (w:aw)(Z:ax)(gb:Nat)(raw:ar)(i:Nat):Prop where
 rng:∀x∈raw,JC x
 few:raw.length<1099511627776
 at_:∃rv,dX w gb #[rv,aa i] 73/\ix w Z rv raw.length (raw.map λx=>aa x)
 ne:¬Z gb
def Gv.O {w w':aw}{Z:ax}{gb i:Nat}{raw:ar}(h:Gv w Z gb raw i)(hg:w'.heap[gb]?=w.heap[gb]?)(hk:∀b,Z b->b<w.heap.size->w'.heap[b]?=w.heap[b]?):Gv w' Z gb raw i:=by
 obtain⟨h1,h0,⟨rv,h2,h3⟩,h4⟩:=h;exact⟨h1,h0,⟨rv,hg.J h2,h3.O hk⟩,h4⟩
def mG (w:aw)(Z:ax)(gb:Nat)(raw:ar)(i n:Nat)(hG:Gv w Z gb raw i)(h:0<n)(hi:i<1099511627776):Calls prog 60 #[ah gb,aa n] w λe w'=>e= .returned (aa (jp raw i n))/\Gv w' Z gb raw (i+1)/\ec [gb] w w':=by
 obtain⟨hr,hf,⟨rv,hb,Vp⟩,hz⟩:=hG;obtain⟨a,c,rfl⟩:=Vp.form;have⟨k1,k2⟩:=hb.I;have e1:wrap64 ((i:Int)+1)=((i+1:Nat):Int):=(by simp only[wrap64];omega)
 have Vq:∀W,ak w W->Gv (W.setCell (aj gb 1) (aa ((i+1:Nat):Int))) Z gb raw (i+1)/\ec [gb] w (W.setCell (aj gb 1) (aa ((i+1:Nat):Int))):=λW hW=>
  ⟨⟨hr,hf,⟨_,by have:=(hb.G hW hb.lt).set 1 (aa ((i+1:Nat):Int));simpa using this,Vp.O λb q l=>(by rw[dW,dO (show¬gb=b from λe=>hz (by rw[e];exact q))];exact hW.block b l)⟩,hz⟩,(ec.oB hW).set1 Vd _ _⟩
 have HF:Hid _:=Vq;clear Vq;by_cases hl:i<raw.length
 .obtain⟨ad,rfl,_,_,hc⟩:=Vp.at Vc;have hx:raw[i]?=some raw[i]:=aO hl;have hc1:=hc w rfl i (aa raw[i]) (by rw[aT,hx];rfl);have hp:=λW=>MD W raw[i] n (hr _ (List.getElem_mem hl)) h
  have e2:jp raw i n=rV raw[i] n:=by unfold jp;rw[hx];rfl
  rw[e2];generalize raw[i]=x at*;have Vs:(i:Int)<(raw.length:Int):=Vc;clear hb Vp hc hx e2;go_in
  go_upto_region 2 with fail
  go_quiet (fail);go_wp2;go_quiet (fail);go_wp2_with fail;refine(hp _).V ?_;rintro e w2 ⟨rfl,rfl⟩;go_wp2;go_ret;exact⟨rfl,HF.o _ (im (Below.refl _ _) _)⟩
 .have hp:=λW=>MD W 0 n ⟨Vf,Vf⟩ h
  have e2:jp raw i n=rV 0 n:=by unfold jp;rw[bf Vc];rfl
  rw[e2];have Vs:¬(i:Int)<(raw.length:Int):=Vc;clear hb Vp e2;go_in
  go_upto_region 2 with fail
  go_quiet (fail);go_wp2_with fail;refine(hp _).V ?_;rintro e w2 ⟨rfl,rfl⟩;go_wp2;go_ret;exact⟨rfl,HF.o _ (im (Below.refl _ _) _)⟩
def gr (n:Nat):ap:= [UInt8.ofNat (48+n)]
def tM (w:aw)(n:Nat)(hn:n<10):Calls prog 61 #[aa n] w λe w'=>e= .returned (ag (bl (gr n)))/\ak w w':=by
 have h1:¬(9:Int)<(n:Int):=Vc
 have Vr:=run_convert_bytes_back (P:=prog) (w.U5 #[.int .u8 (48+n)] 5) 140 9 5 (aj w.heap.size 0) 1 (gr n) underlying140 underlying5 underlying9 λj hj=>by
  have hj:j<1:=hj;obtain rfl:j=0:=Vc;have:=(dX.new w #[.int .u8 (48+n)] 5).cell 0;rw[Ja,this];simp[gr];omega
 have hcv':(convert 140 9 (U9 w.heap.size 1 1)).run prog (w.U5 #[.int .u8 (48+n)] 5)= .ok (ag (bl (gr n))) (w.U5 #[.int .u8 (48+n)] 5):=Vr;clear Vr;generalize bl (gr n)=s at*;go_in
 go_wp2;go_ret;exact⟨rfl,(Below.refl _ _).alloc (aE _) _⟩
def Tm:List (ap):= [[105,110,116,51,50],[105,110,116,54,52],[117,105,110,116,51,50],[117,105,110,116,54,52],[115,105,110,116,51,50],[115,105,110,116,54,52],[98,111,111,108],[102,105,120,101,100,51,50],[102,105,120,101,100,54,52],[115,102,105,120,101,100,51,50],[115,102,105,120,101,100,54,52],[102,108,111,97,116],[100,111,117,98,108,101],[115,116,114,105,110,103],[98,121,116,101,115],[69]]
def gG (t:Nat):ap:=if 15<t then 77::gr (t-16)else(Tm[t]?).getD []
def Tn:aq:=(Tm.map λs=>ag (bl s)).toArray
def Pf (w:aw):Calls prog 105 #[] w λe w'=>∃b,e= .returned (U9 b 16 16)/\dX w' b Tn 9/\ak w w':=by
 go_in
 go_wp2;go_ret;exact⟨_,rfl,dX.new w Tn 9,(Below.refl _ _).alloc (aE _) _⟩
def Rk {t:Nat}(h:t<16):Tn[t]?=some (ag (bl (gG t))):=by
 unfold gG Tn;rw[dO Vc];have:∀t:Fin 16,Tm[t.val]?=some ((Tm[t.val]?).getD []):=Vf;have h2:=this ⟨t,h⟩;simp only[cE,aT];rw[h2];rfl
def ME (w:aw)(t:Nat)(ht:t<25):Calls prog 62 #[aa t] w λe w'=>e= .returned (ag (bl (gG t)))/\ak w w':=by
 by_cases h:15<t
 .have hd:=tM w (t-16) Vc;rw[show((t-16:Nat):Int)=(t:Int)-16 by omega]at hd;have e2:gG t=77::gr (t-16):=by unfold gG;rw[dP h]
  have h1:(15:Int)<(t:Int):=Vc;have hz:(bl (gr (t-16))).size=1:=by rw[fR];rfl
  rw[e2,show(77::gr (t-16))= [77]++gr (t-16)from rfl,pB];generalize bl (gr (t-16))=s at*;go_in
  go_wp2_with fail;refine hd.V ?_;rintro e w2 ⟨rfl,b2⟩;clear hd e2;go_wp2;go_ret;exact⟨rfl,b2⟩
 .have hT:=Pf w;have hx:=Rk (show t<16 by omega);have h1:¬(15:Int)<(t:Int):=Vc;generalize bl (gG t)=s at*;go_in
  go_wp2_with fail;refine hT.V ?_;rintro e w2 ⟨b,rfl,hb,b2⟩;have hc:=(hb.cell t).J hx;clear hx hT hb;go_wp2;go_ret;exact⟨rfl,b2⟩
end
end Go.Proofs.YtfebdimolnobaaaGreatDoor
