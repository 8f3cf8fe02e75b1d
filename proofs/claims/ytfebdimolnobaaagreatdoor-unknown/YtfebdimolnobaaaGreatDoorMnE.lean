import Derived.Test.YtfebdimolnobaaaGreatDoorMnB
import Derived.Test.YtfebdimolnobaaaGreatDoorFaceB
set_option maxRecDepth 100000
set_option maxHeartbeats 8000000
set_option linter.all false
namespace Go.Proofs.YtfebdimolnobaaaGreatDoor
open Go.RowKit Go.Proofs.Tryz
section
variable {raw:ar} {f:F3} {fs:List F3} {L:List (List F3)} {k:Nat} {one:Bool}
theorem Pv {p n:Nat}(h:raw.length<=p):jp raw p n=0:=by
 unfold jp;rw[bf h];unfold rV;simp
def tV (raw:ar)(s:Mk)(c:Nat):Prop:=∀i p,(s i p).2<=max p raw.length+c/\(raw.length<=p->(s i p).2<=p+8)
section
variable {raw:ar} {s s1 s2:Mk} {c d t p ky:Nat}
theorem CS:tV raw oZ c:=λi p=>⟨by show p<=_;omega,λ_=>by show p<=_;omega⟩
theorem GB (h:tV raw s c)(hc:10<=c)(z:Bool):(fG s raw t z p).2<=max p raw.length+c/\(raw.length<=p->(fG s raw t z p).2<=p+8):=by
 unfold fG;split;.exact h _ _
 .split<;>simp only<;>omega
theorem Iw (h:tV raw s c)(hc:10<=c):∀j,(iX s raw t p j).2<=max p raw.length+c+8*j
 |0=>by show p<=_;omega
 |j+1=>by
  have ih:=Iw h hc j;have:=GB (t:=t) (p:=(iX s raw t p j).2) h hc false;show(fG s raw t false (iX s raw t p j).2).2<=_;by_cases hl:raw.length<=(iX s raw t p j).2;.have:=this.2 hl;omega
  .have:=this.1;omega
theorem RB (hk:ky∈iu):(fG s raw ky false p).2<=p+2:=by
 have:¬15<ky:=by simp[iu]at hk;omega
 unfold fG;rw[dO this];split<;>simp only<;>omega
theorem M9 (h:tV raw s c)(hc:10<=c)(hk:ky∈iu):∀j,(ip s raw t ky p j).2<=max p raw.length+c+10*j
 |0=>by show p<=_;omega
 |j+1=>by
  have ih:=M9 h hc hk j;have hq:=RB (s:=s) (raw:=raw) (p:=(ip s raw t ky p j).2) hk;have:=GB (t:=t) (p:=(fG s raw ky false (ip s raw t ky p j).2).2) h hc false;show(fG s raw t false (fG s raw ky false (ip s raw t ky p j).2).2).2<=_;by_cases hl:raw.length<=(fG s raw ky false (ip s raw t ky p j).2).2;.have:=this.2 hl;omega
  .have:=this.1;omega
theorem RC (h1:tV raw s1 c)(h2:tV raw s2 c)(hc:10<=c)(hk:f.2.2∈iu):(pE s1 s2 raw f p).2<=max p raw.length+c+41:=by
 have n3:jp raw p 3<3:=ik _ Vf;have n4:jp raw p 4<4:=ik _ Vf;unfold pE;split;.have:=Iw (t:=f.1) (p:=p+1) h1 hc (jp raw p 3+1);omega
 .split;.have:=M9 (t:=f.1) (p:=p+1) h2 hc hk (jp raw p 4+1);omega
  .have:=(GB (t:=f.1) (p:=p) h1 hc (decide (f.2.1=0))).1;simp only;omega
theorem Na (h1:tV raw s1 c)(h2:tV raw s2 c)(hc:10<=c)(hk:∀f∈fs,f.2.2∈iu):∀k,k<=fs.length->(gH s1 s2 raw d fs p k).2.2<=max p raw.length+c+41+k/\(raw.length<=p->(gH s1 s2 raw d fs p k).2.2=p+k)
 |0,_=>⟨by show p<=_;omega,λ_=>rfl⟩
 |k+1,hkl=>by
  have ih:=Na h1 h2 hc hk k Vc;obtain⟨f,hf⟩:∃f,fs[k]?=some f:=⟨_,aO Vc⟩;rw[gH,hf];simp only[Option.getD_some];by_cases hl:raw.length<=(gH s1 s2 raw d fs p k).2.2
  .have hs:MP raw d f.1 f.2.1 (gH s1 s2 raw d fs p k).2.1 (gH s1 s2 raw d fs p k).2.2=true:=by unfold MP;rw[Pv hl];rfl
   rw[dP hs];exact⟨by simp only;omega,λh=>by have:=ih.2 h;simp only;omega⟩
  .have hn:¬raw.length<=p:=λh=>hl (by rw[ih.2 h];omega)
   refine⟨?_,λh=>absurd h hn⟩;have:=RC (p:=(gH s1 s2 raw d fs p k).2.2+1) h1 h2 hc (hk f (aL hf));split<;>simp only<;>omega
theorem CT (h1:tV raw s1 c)(h2:tV raw s2 c)(hc:10<=c)(hk:∀f∈fs,f.2.2∈iu)(h7:fs.length<=7):(kX s1 s2 raw d fs p).2<=max p raw.length+(c+60)/\(raw.length<=p->(kX s1 s2 raw d fs p).2<=p+8):=by
 have:=Na (d:=d) (p:=p) h1 h2 hc hk fs.length (aE _);unfold kX;simp only;exact⟨Vc,λh=>by have:=this.2 h;omega⟩
theorem tV.V {c':Nat}(h:tV raw s c)(hc:c<=c'):tV raw s c':=λi p=>⟨by have:=(h i p).1;omega,(h i p).2⟩
theorem CG.row (hD:CG L)(i:Nat):(∀f∈(L[i]?).getD [],f.2.2∈iu)/\((L[i]?).getD []).length<=7:=by
 cases h:L[i]? with
 |none=>exact⟨λf hf=>(by cases hf),aP _⟩
 |some fs=>
  obtain⟨_,h7,hf⟩:=hD.fs fs (aL h);exact⟨λf h=>(hf f h).2.2.1,h7⟩
theorem CU (hD:CG L):∀d,tV raw (gS raw L d) (10+60*(d+1))
 |0=>λi _=>CT (c:=10) CS CS Vc (hD.row i).1 (hD.row i).2
 |1=>λi _=>CT (c:=70) (CU hD 0) CS Vc (hD.row i).1 (hD.row i).2
 |d+2=>λi p=>by
  have:=CT (d:=d+2) (p:=p) (c:=10+60*(d+2)) (CU hD (d+1)) ((CU hD d).V Vc) Vc (hD.row i).1 (hD.row i).2;exact⟨by have:=this.1;show(kX _ _ _ _ _ _).2<=_;omega,this.2⟩
def wP (k:Nat)(v:PV):Nat:=v.2.1.size+wK k v.2.2
def Wg (s:Mk)(k:Nat):Prop:=∀i p,wK k (s i p).1+4+8*p<=8*(s i p).2
theorem RD (z:Bool)(k:Nat):(Gt z k).size<=5:=by
 unfold Gt;split;.decide
 .rw[fR];have:∀l∈ED,l.length<=5:=Vf
  cases h:ED[k]? with
  |none=>exact aP _
  |some l=>exact this l (aL h)
theorem Ix (h:15<t->Wg s k)(z:Bool):wP k (fG s raw t z p).1+2+8*p<=8*(fG s raw t z p).2:=by
 have h0:=pI k;unfold fG wP;split;.rename_i Vp;have:=h Vp (t-16) p;show 0+wK k (s (t-16) p).1+2+8*p<=8*(s (t-16) p).2;omega
 .split;.have:=RD z (jp raw p 5);simp only;omega
  .show 0+wK k PM.none+2+8*p<=8*(p+2);omega
theorem Nb (h:15<t->Wg s k):∀j,((iX s raw t p j).1.map (wP k)).sum+8*p<=8*(iX s raw t p j).2
 |0=>by show 0+8*p<=8*p;omega
 |j+1=>by
  have ih:=Nb h j;have:=Ix (raw:=raw) (p:=(iX s raw t p j).2) h false;rw[iX];simp only[bS,List.sum_append,bK,dm,cH,List.sum_nil];omega
theorem RE (x y:PV):wP (k+1) (pC x y)=3+wP k x+wP k y:=by
 show 0+wK (k+1) (.mk [(1,[x]),(2,[y])] eS)=_;rw[jP];unfold wF wV wP;simp only[PM.fs,PM.unk,bK,dm,cH,List.sum_nil];have:eS.size=0:=rfl;omega
theorem SX (x y:PV)(l:List PV):((qJ ky x y l).map (wP k)).sum<=(l.map (wP k)).sum+wP k (pC x y):=by
 unfold qJ;split;.omega
 .have:(l.map (wP k)).sum=((l.take (mS ky x l)).map (wP k)).sum+((l.drop (mS ky x l)).map (wP k)).sum:=(by rw[<-List.sum_append,<-bS,ca]);simp only[bS,List.sum_append,bK,cH];omega
theorem Qf (h:15<t->Wg s k)(hk:ky∈iu):∀j,((ip s raw t ky p j).1.map (wP (k+1))).sum+8*p<=8*(ip s raw t ky p j).2
 |0=>by show 0+8*p<=8*p;omega
 |j+1=>by
  have ih:=Qf h hk j;have Vp:¬15<ky:=by simp[iu]at hk;omega
  have a:=Ix (s:=s) (raw:=raw) (t:=ky) (k:=k) (p:=(ip s raw t ky p j).2) (λh=>absurd h Vp) false;have b:=Ix (raw:=raw) (p:=(fG s raw ky false (ip s raw t ky p j).2).2) h false;rw[ip];have c:=SX (k:=k+1) (ky:=ky) (fG s raw ky false (ip s raw t ky p j).2).1 (fG s raw t false (fG s raw ky false (ip s raw t ky p j).2).2).1 (ip s raw t ky p j).1;rw[RE]at c;simp only;omega
theorem SY (h1:15<f.1->Wg s1 (k+1))(h2:f.2.1=4->15<f.1->Wg s2 k)(hk:f.2.2∈iu):((pE s1 s2 raw f p).1.map (wP (k+1))).sum+8*p<=8*(pE s1 s2 raw f p).2:=by
 unfold pE;split;.have:=Nb (raw:=raw) (p:=p+1) h1 (jp raw p 3+1);omega
 .split;.rename_i h4;have:=Qf (raw:=raw) (p:=p+1) (h2 h4) hk (jp raw p 4+1);omega
  .have:=Ix (raw:=raw) (p:=p) h1 (decide (f.2.1=0));simp only[bK,dm,cH,List.sum_nil];omega
theorem CV {h:Nat}(hs:MP raw d t h one p=false):(15<t->0<d)/\(h=4->0<d)/\(h=4->15<t->1<d):=by
 unfold MP Gw at hs;simp at hs;omega
theorem Qg (h1:0<d->Wg s1 (k+1))(h2:1<d->Wg s2 k)(hk:∀f∈fs,f.2.2∈iu):∀j,j<=fs.length->wF (k+1) (gH s1 s2 raw d fs p j).1+8*p<=8*(gH s1 s2 raw d fs p j).2.2
 |0,_=>by show 0+8*p<=8*p;omega
 |j+1,hj=>by
  have ih:=Qg h1 h2 hk j Vc;obtain⟨f,hf⟩:∃f,fs[j]?=some f:=⟨_,aO Vc⟩;rw[gH,hf];simp only[Option.getD_some];split;.simp only;omega
  .rename_i hs;obtain⟨a,_,b⟩:=CV (by simpa using hs);have:=SY (k:=k) (f:=f) (s1:=s1) (s2:=s2) (raw:=raw) (p:=(gH s1 s2 raw d fs p j).2.2+1) (λh=>h1 (a h)) (λh4 h=>h2 (b h4 h)) (hk f (aL hf));unfold wF at ih⊢;simp only[bS,List.sum_append,bK,dm,cH,List.sum_nil];have e:wV (k+1) (pE s1 s2 raw f ((gH s1 s2 raw d fs p j).2.2+1)).1=((pE s1 s2 raw f ((gH s1 s2 raw d fs p j).2.2+1)).1.map (wP (k+1))).sum:=rfl;omega
theorem GC (h1:0<d->Wg s1 (k+1))(h2:1<d->Wg s2 k)(hk:∀f∈fs,f.2.2∈iu):wK (k+2) (kX s1 s2 raw d fs p).1+4+8*p<=8*(kX s1 s2 raw d fs p).2:=by
 have:=Qg (raw:=raw) (p:=p) h1 h2 hk fs.length (aE _);unfold kX;simp only;rw[jP];have hu:(if jp raw (gH s1 s2 raw d fs p fs.length).2.2 4=0 then wg else eS).size<=3:=by split<;>decide
 show 1+_+wF (k+1) (gH s1 s2 raw d fs p fs.length).1+4+8*p<=_;have e:∀(a:List PF) (b:au),(PM.mk a b).unk.size=b.size:=λ_ _=>rfl
 rw[e];omega
theorem Iy (hD:CG L):∀d,Wg (gS raw L d) (d+3)
 |0=>λi _=>GC (k:=1) (λh=>absurd h Vc) (λh=>absurd h Vc) (hD.row i).1
 |1=>λi _=>GC (k:=2) (λ_=>Iy hD 0) (λh=>absurd h Vc) (hD.row i).1
 |d+2=>λi _=>GC (k:=d+3) (λ_=>Iy hD (d+1)) (λ_=>Iy hD d) (hD.row i).1
end
end
structure RF (S:eD)(M:Nat->MT)(x:F3)(f:fo):Prop where
 base:S.base f.ty=if 15<x.1 then 16 else x.1
 msg:15<x.1->S.msg f.ty=some (M (x.1-16))
 map:f.isMap=decide (x.2.1=4)
 rep:f.isRep=decide (x.2.1=1)
 one:gN f.how eS=decide (x.2.1=0)
 key:x.2.1=4->S.base f.key=x.2.2
structure ES (S:eD)(L:List (List F3))(M:Nat->MT):Prop where
 fld:∀i fs k x,L[i]?=some fs->fs[k]?=some x->∃f,d9 (M i).fs ((k+1:Nat):Int)=some f/\RF S M x f/\∀n∈lF (M i) f,x.2.1=3/\∃j y,n=((j+1:Nat):Int)/\fs[j]?=some y/\y.2.1=3
 big:∀i,i<L.length->d9 (M i).fs 1023=none
section
variable {S:eD} {R:MT->PM->Bool} {f:fo} {s:Mk} {raw:ar} {t p:Nat}
def GD (z:Bool)(ht:t<16):zF t (EE z (yY raw p t))=true/\0<=EE z (yY raw p t)/\EE z (yY raw p t)<2^64:=by
 have l1:jp raw p 1073741824<1073741824:=ik _ Vc;have hT:yX (jp raw p 1073741824) (jp raw (p+1) 6)<2^64:=by unfold yX;(repeat' split)<;>omega
 unfold yY;generalize yX (jp raw p 1073741824) (jp raw (p+1) 6)=v at*
 have hc:zF t ((JD t v:Nat):Int)=true/\JD t v<2^64:=by
  unfold zF JD mN;by_cases h1:t=0\/t=4\/t=9\/t=15;.simp only[dP h1,beq_iff_eq];split<;>split<;>omega
  .simp only[dO h1];by_cases h2:t=2\/t=7\/t=11;.simp only[dP h2,beq_iff_eq];omega
   .simp only[dO h2];by_cases h3:t=6;.simp only[dP h3,beq_iff_eq];split<;>omega
    .simp only[dO h3];exact⟨trivial,hT⟩
 unfold EE;split;.refine⟨?_,Vc,Vc⟩;have:∀t:Fin 16,zF t.val 1=true:=Vf;exact this ⟨t,ht⟩
 .exact⟨hc.1,Vc,Vc⟩
def RG (z:Bool){k:Nat}(h:k<5):Lib.validD (Gt z k).data.toList=true:=by
 have:k=0\/k=1\/k=2\/k=3\/k=4:=Vc;rcases this with rfl|rfl|rfl|rfl|rfl<;>cases z<;>decide+kernel
def GE (z:Bool)(hb:fB S f=if 15<t then 16 else t)(ht:t<19)(hm:15<t->∃T,fy S f=some T/\R T (s (t-16) p).1=true):eC S R f (fG s raw t z p).1=true:=by
 unfold fG;by_cases Vp:15<t;.obtain⟨T,h1,h2⟩:=hm Vp;rw[dP Vp]at hb⊢;unfold eC;rw[dP hb,h1];simp only;rw[h2,EQ];rfl
 .rw[dO Vp]at hb⊢;by_cases h13:t=13\/t=14
  .rw[dP h13];have h5:jp raw p 5<5:=ik _ Vf;unfold eC;rw[hb,dO Vc];rcases h13 with rfl|rfl;.rw[dP rfl];simp only;rw[RG z h5,GA];rfl
   .rw[dO Vf,dP rfl];simp only;rw[GA];rfl
  .rw[dO h13];have:=(GD (raw:=raw) (p:=p) z (by omega:t<16)).1;unfold eC;rw[hb,dO Vc,dO Vc,dO Vc];simp only;rw[this,EQ,GA];rfl
structure Qh (ky:Nat)(x:PV):Prop where
 lo:0<=x.1
 hi:x.1<2^64
 str:ky=13->x.1=0
 num:ky≠13->x.2.1=eS
def RH {ky:Nat}(hk:ky∈iu):Qh ky (fG s raw ky false p).1:=by
 have Vp:¬15<ky/\ky≠14/\ky<16:=by simp[iu]at hk;omega
 unfold fG;rw[dO Vp.1];by_cases h13:ky=13\/ky=14;.rw[dP h13];exact⟨cK _,Vd,λ_=>rfl,λh=>absurd h Vc⟩
 .rw[dO h13];have:=GD (raw:=raw) (p:=p) false Vp.2.2;exact⟨this.2.1,this.2.2,λh=>absurd h Vc,λ_=>rfl⟩
def kK (ky:Nat)(x:PV):LV:=FL (iJ ky) (x.1,x.2.1)
def Iz:Op.bytesLess eS.toList eS.toList=false:=Vg
def Nc {ky:Nat}(hk:ky∈iu){a b:PV}(ha:Qh ky a)(hb:Qh ky b):oA ky a b=true<->lG (kK ky a) (kK ky b):=by
 have Vv:To ky=iJ ky:=(by have:∀k∈iu,To k=iJ k:=Vf;exact this ky hk);obtain⟨a0,a1,a2,a3⟩:=ha;obtain⟨b0,b1,b2,b3⟩:=hb;unfold oA kK FL lG;rw[Vv];by_cases h13:ky=13;.subst h13;have e:iJ 13=false:=rfl;rw[e];simp[a2 rfl,b2 rfl]
 .rw[a3 h13,b3 h13];cases hs:iJ ky;.simp[h13,Iz]
  .simp only[if_true,dQ,Iz,aU,and_false,or_false];unfold Du;split<;>split<;>omega
def Nd {ky:Nat}{x y e:PV}{l:List PV}:qJ ky x y (e::l)=if oA ky (xg e) x=true then e::qJ ky x y l else if((xg e).1==x.1&&(xg e).2.1.toList==x.2.1.toList)=true then e::l else pC x y::e::l:=by
 unfold qJ EF;rw[mS];by_cases ha:oA ky (xg e) x=true;.rw[dP ha,dP ha];simp only[co,cX,List.drop_succ_cons];split<;>split<;>rfl
 .rw[dO ha,dO ha];simp only[cp,List.take_zero,List.drop_zero,aX]
def Pw {ky:Nat}{x y:PV}:qJ ky x y []= [pC x y]:=rfl
def CX {ky:Nat}{x y e:PV}{l:List PV}(h:e∈qJ ky x y l):e∈l\/e=pC x y:=by
 unfold qJ at h;split at h;.exact .inl h
 .rcases aW.1 h with h|h;.exact .inl (List.mem_of_mem_take h)
  .rcases aS.1 h with h|h;.exact .inr h
   .exact .inl (cG h)
def Nf {ky:Nat}(hk:ky∈iu){x y:PV}(hx:Qh ky x):∀{l:List PV},(∀e∈l,Qh ky (xg e))->l.Pairwise (λa b=>lG (kK ky (xg a)) (kK ky (xg b)))->(qJ ky x y l).Pairwise (λa b=>lG (kK ky (xg a)) (kK ky (xg b)))
 | [],_,_=>by rw[Pw];simp
 |e::l,h,hp=>by
  rw[Nd];have he:=h e aZ;have hl:∀e∈l,Qh ky (xg e):=λa b=>h a (aY _ b)
  rw[bu]at hp;split
  .rename_i ha;rw[bu];refine⟨λz hz=> ?_,Nf hk hx hl hp.2⟩;rcases CX hz with hz|rfl;.exact hp.1 z hz
   .exact(Nc hk he hx).1 ha
  .rename_i ha;split;.exact bu.2 hp
   .rename_i hn
    have Vt:lG (kK ky x) (kK ky (xg e)):=by
     rcases tq (kK ky x) (kK ky (xg e))with q|q|q;.exact q
     .exfalso;apply hn;unfold jF kK FL at q;simp only[aQ,beq_iff_eq];refine⟨?_,q.2.sy⟩;have q1:=q.1;have:=hx.lo;have:=hx.hi;have:=he.lo;have:=he.hi;simp only at q1;split at q1<;>omega
     .exact absurd ((Nc hk he hx).2 q) ha
    rw[bu];refine⟨λz hz=> ?_,bu.2 hp⟩;rcases aS.1 hz with rfl|hz;.exact Vt
    .exact kc Vt (hp.1 z hz)
def Ng {ky k:Nat}(hk:ky∈iu)(hm:f.isMap=true)(hb:S.base f.key=ky)(hv:∀p,eC S (dZ S k) (pF f) (fG s raw t false p).1=true):∀j,(∀e∈(ip s raw t ky p j).1,∃x y,e=pC x y/\Qh ky x/\eC S (dZ S k) (mT f) x=true/\eC S (dZ S k) (pF f) y=true)/\(ip s raw t ky p j).1.Pairwise (λa b=>lG (kK ky (xg a)) (kK ky (xg b)))/\(0<j->(ip s raw t ky p j).1≠ [])
 |0=>⟨λe h=>(by cases h),List.Pairwise.nil,λh=>absurd h Vc⟩
 |j+1=>by
  have ih:=Ng hk hm hb hv j;have Vp:ky<14/\ky≠16:=by simp[iu]at hk;omega
  have hK:=RH (s:=s) (raw:=raw) (p:=(ip s raw t ky p j).2) hk;rw[ip];refine⟨λe he=> ?_,Nf hk hK (λe he=> ?_) ih.2.1,λ_=> ?_⟩
  .rcases CX he with he|rfl;.exact ih.1 e he
   .exact⟨_,_,rfl,hK,GE false (by rw[jO (iO f).1];show S.base f.key=_;rw[hb,dO Vc]) Vc (λh=>absurd h Vc),hv _⟩
  .obtain⟨x,y,rfl,h,_⟩:=ih.1 e he;exact h
  .unfold qJ;split;.rename_i hh;intro e;rw[e]at hh;cases hh
   .simp
def Px {ky k:Nat}{l:List PV}(hm:f.isMap=true)(hb:S.base f.key=ky)(h1:∀e∈l,∃x y,e=pC x y/\Qh ky x/\eC S (dZ S k) (mT f) x=true/\eC S (dZ S k) (pF f) y=true)(h2:l.Pairwise (λa b=>lG (kK ky (xg a)) (kK ky (xg b))))(h3:l≠ []):fE S (dZ S (k+1)) f l=true:=by
 unfold fE;simp only[aQ];refine⟨⟨?_,?_⟩,?_⟩
 .unfold nP;rw[hm]
  cases l with
  |nil=>exact absurd rfl h3
  |cons a l=>cases l<;>simp
 .rw[cg];intro e he;obtain⟨x,y,rfl,_,a,b⟩:=h1 e he;unfold eC;have e16:fB S f=16:=by unfold fB;rw[hm];rfl
  rw[dP e16,kF hm];simp only;rw[dZ];have:=ER (S:=S) (R:=dZ S k) (f:=f) a b;show((decide ((0:Int)=0)&&ou eS)&&(gU S (dZ S k) (eP f) [] [(1,[x]),(2,[y])]&&pT (oW S (eP f)) eS))=true;rw[this,EQ];rfl
 .unfold ku;rw[dP hm,hb];refine CR (λe he=> ?_) (h2.imp_of_mem fun{a b} ha hb h=> ?_) (λk h=>by cases h);.obtain⟨x,y,rfl,_⟩:=h1 e he;exact⟨rfl,EQ⟩
  .obtain⟨x,y,rfl,_⟩:=h1 a ha;obtain⟨x',y',rfl,_⟩:=h1 b hb;exact h
end
section
variable {S:eD} {L:List (List F3)} {M:Nat->MT} {s1 s2:Mk} {raw:ar} {p d:Nat}
def RI (S:eD)(L:List (List F3))(M:Nat->MT)(s:Mk)(k:Nat):Prop:=∀i p,i<L.length->dZ S k (M i) (s i p).1=true
def Nh {x:F3}{f:fo}(hf:RF S M x f)(hx:x.1<16+L.length)(hL:L.length<=3)(hk:x.2.2∈iu)(h1:15<x.1->RI S L M s1 d)(h4:x.2.1=4->0<d)(h2:x.2.1=4->15<x.1->RI S L M s2 (d-1)):fE S (dZ S d) f (pE s1 s2 raw x p).1=true:=by
 have hm:=hf.map
 have Vs:x.2.1≠4->∀z p,eC S (dZ S d) f (fG s1 raw x.1 z p).1=true:=λh z p=>by
  have Vq:f.isMap=false:=by rw[hm];exact decide_eq_false h
  exact GE z (by rw[jO Vq];exact hf.base) Vc λVp=>⟨_,by rw[lB Vq];exact hf.msg Vp,h1 Vp _ _ Vc⟩
 unfold pE;by_cases e1:x.2.1=1
 .rw[dP e1];have Vq:f.isMap=false:=by rw[hm];exact decide_eq_false Vc
  have hr:f.isRep=true:=by rw[hf.rep];exact decide_eq_true e1
  have hv:∀j,∀v∈(iX s1 raw x.1 (p+1) j).1,eC S (dZ S d) f v=true:=λj=>by
   induction j with
   |zero=>intro v h;cases h
   |succ j ih=>
    intro v h;rw[iX]at h;rcases aW.1 h with h|h;.exact ih v h
    .rw[ba.1 h];exact Vs Vc _ _
  have hl:=uZ s1 raw x.1 (p+1) (jp raw p 3+1);unfold fE;simp only[aQ];refine⟨⟨?_,cg.2 (hv _)⟩,?_⟩;.unfold nP;rw[hl,hr,Vq];cases jp raw p 3<;>simp
  .unfold ku;rw[dO (by rw[Vq];decide),dO];intro h;rw[hf.one,dQ]at h;omega
 .rw[dO e1];by_cases e4:x.2.1=4
  .rw[dP e4];have Vu:f.isMap=true:=by rw[hm];exact decide_eq_true e4
   obtain⟨e,rfl⟩:∃e,d=e+1:=⟨d-1,by have:=h4 e4;omega⟩;have:=Ng (S:=S) (f:=f) (s:=s2) (raw:=raw) (t:=x.1) (p:=p+1) (k:=e) hk Vu (hf.key e4) (λq=>GE false (by rw[jO (iO f).2.1];exact hf.base) Vc λVp=>⟨_,by rw[lB (iO f).2.1];exact hf.msg Vp,h2 e4 Vp _ _ Vc⟩) (jp raw p 4+1);exact Px Vu (hf.key e4) this.1 this.2.1 (this.2.2 Vc)
  .rw[dO e4];have Vq:f.isMap=false:=by rw[hm];exact decide_eq_false e4
   have hv:=Vs e4 (decide (x.2.1=0)) p;unfold fE;simp only[List.all_cons,List.all_nil,dz,aQ];refine⟨⟨by unfold nP;rfl,hv⟩,?_⟩;unfold ku;rw[dO (by rw[Vq];decide)];split
   .rename_i h;rw[hf.one,dQ]at h;have hb:fB S f=if 15<x.1 then 16 else x.1:=by rw[jO Vq];exact hf.base
    have Vp:¬15<x.1:=λq=>h.2 (by rw[hb,dP q])
    show(!(decide ((fG s1 raw x.1 (decide (x.2.1=0)) p).1.1=0)&&ou (fG s1 raw x.1 (decide (x.2.1=0)) p).1.2.1))=true;rw[decide_eq_true h.1];unfold fG;rw[dO Vp];split;.have h5:jp raw p 5<5:=ik _ Vf;have:∀k:Fin 5,ou (Gt true k.val)=false:=Vg;have:=this ⟨jp raw p 5,h5⟩;simp only at this⊢;rw[this];rfl
    .simp only;unfold EE;split;.rfl
     .rename_i hz;have:¬((yY raw p x.1:Nat):Int)=0:=λe=>hz ⟨Vc,rfl⟩
      rw[decide_eq_false this];rfl
   .rfl
def ET (hS:ES S L M){i:Nat}{fs:List F3}(hi:L[i]?=some fs)(hL:L.length<=3)(hfo:∀f∈fs,f.1<16+L.length/\f.2.1<5/\f.2.2∈iu/\(f.2.1≠4->f.2.2=0))(h1:0<d->RI S L M s1 d)(h2:1<d->RI S L M s2 (d-1)):∀k,k<=fs.length->
  (∀x∈(gH s1 s2 raw d fs p k).1,kn S (dZ S d) (M i) x/\∃j y,j<k/\x.1=((j+1:Nat):Int)/\fs[j]?=some y/\(y.2.1=3->(gH s1 s2 raw d fs p k).2.1=true))/\(gH s1 s2 raw d fs p k).1.Pairwise (Sd (M i))
 |0,_=>⟨λx h=>(by cases h),List.Pairwise.nil⟩
 |k+1,hk=>by
  have ih:=ET hS hi hL hfo h1 h2 k Vc;obtain⟨x,hx⟩:∃x,fs[k]?=some x:=⟨_,aO Vc⟩;rw[gH,hx];simp only[Option.getD_some];split;.refine⟨λy hy=> ?_,ih.2⟩;obtain⟨a,j,z,hj,b⟩:=ih.1 y hy;exact⟨a,j,z,Vc,b⟩
  .rename_i hs;have hs:MP raw d x.1 x.2.1 (gH s1 s2 raw d fs p k).2.1 (gH s1 s2 raw d fs p k).2.2=false:=by simpa using hs
   obtain⟨a,a4,b⟩:=CV hs;obtain⟨f,hf,hF,hR⟩:=hS.fld i fs k x hi hx;obtain⟨q1,_,q3,_⟩:=hfo x (aL hx);have hl:=Nh (raw:=raw) (p:=(gH s1 s2 raw d fs p k).2.2+1) hF q1 hL q3 (λh=>h1 (a h)) a4 (λe h=>h2 (b e h));refine⟨λy hy=> ?_,?_⟩
   .rcases aW.1 hy with hy|hy;.obtain⟨c,j,z,hj,e1,e2,e3⟩:=ih.1 y hy;exact⟨c,j,z,Vc,e1,e2,λh=>by simp only;rw[e3 h];rfl⟩
    .rw[ba.1 hy];exact⟨⟨f,hf,hl⟩,k,x,Vc,rfl,hx,λh=>by simp only;rw[decide_eq_true h,dF]⟩
   .rw[ck];refine⟨ih.2,List.pairwise_singleton _ _,λy hy z hz=> ?_⟩;rw[ba.1 hz];obtain⟨_,j,w,hj,e1,e2,e3⟩:=ih.1 y hy;refine⟨by simp only;rw[e1];omega,λg hg hr=> ?_⟩;rw[show g=f from Option.some.inj (hg.sy.J hf)]at hr;obtain⟨r1,j',y',r2,r3,r4⟩:=hR _ hr;obtain rfl:j=j':=by rw[e1]at r2;omega
    rw[e2]at r3;cases r3;have h1:=e3 r4;unfold MP at hs;rw[h1,decide_eq_true r1]at hs;simp at hs
def Py:∃r,fN wg 0 wg.size= .ok r/\r.e=3/\r.num=1023:=by
 have h:(match fN wg 0 wg.size with| .ok r=>decide (r.e=3)&&decide (r.num=1023)| .error _=>false)=true:=Vg
 cases hr:fN wg 0 wg.size with
 |error x=>rw[hr]at h;cases h
 |ok r=>
  rw[hr]at h;simp only[aQ,dQ]at h;exact⟨r,rfl,h⟩
def RJ (hS:ES S L M){i:Nat}(hi:i<L.length):pT (oW S (M i)) wg=true:=by
 obtain⟨r,h1,h2,h3⟩:=Py;refine Iv h1 h2 ?_;unfold oW;rw[h3,hS.big i hi]
def vh (hS:ES S L M)(hD:CG L){i:Nat}{fs:List F3}(hi:L[i]?=some fs)(h1:0<d->RI S L M s1 d)(h2:1<d->RI S L M s2 (d-1)):dZ S (d+1) (M i) (kX s1 s2 raw d fs p).1=true:=by
 have:=ET (raw:=raw) (p:=p) hS hi hD.few.2 (hD.fs fs (aL hi)).2.2 h1 h2 fs.length (aE _);rw[dZ,aQ];refine⟨pG.2 ⟨λx hx=>(this.1 x hx).1,this.2,λy hy=>by cases hy⟩,?_⟩;show pT _ (if jp raw (gH s1 s2 raw d fs p fs.length).2.2 4=0 then wg else eS)=true;split;.exact RJ hS (bn.1 hi).1
 .rfl
def tW (hS:ES S L M)(hD:CG L):∀d,RI S L M (gS raw L d) (d+1)
 |0=>λi p hi=>by
  obtain⟨fs,Vr⟩:=gx hi;show dZ S 1 (M i) (kX oZ oZ raw 0 ((L[i]?).getD []) p).1=true;rw[Vr]
  exact vh hS hD Vr (λh=>absurd h Vc) (λh=>absurd h Vc)
 |1=>λi p hi=>by
  obtain⟨fs,Vr⟩:=gx hi;show dZ S 2 (M i) (kX (gS raw L 0) oZ raw 1 ((L[i]?).getD []) p).1=true;rw[Vr]
  exact vh hS hD Vr (λ_=>tW hS hD 0) (λh=>absurd h Vc)
 |d+2=>λi p hi=>by
  obtain⟨fs,Vr⟩:=gx hi;show dZ S (d+3) (M i) (kX (gS raw L (d+1)) (gS raw L d) raw (d+2) ((L[i]?).getD []) p).1=true;rw[Vr];exact vh hS hD Vr (λ_=>tW hS hD (d+1)) (λ_=>tW hS hD d)
end
section
variable {L:List (List F3)} {s s1 s2:Mk} {raw:ar} {p d t:Nat}
def SZ (s:Mk)(k:Nat):Prop:=∀i p,pQ k (s i p).1
def CY {k:Nat}(ht:t<19)(h:15<t->SZ s (k+1))(z:Bool):Dk (k+1) (fG s raw t z p).1:=by
 unfold fG;split;.rename_i Vp;exact⟨cK _,Vd,h Vp _ _⟩
 .split;.exact⟨cK _,Vd,pQ.none k⟩
  .have:=GD (raw:=raw) (p:=p) z (by omega:t<16);exact⟨this.2.1,this.2.2,pQ.none k⟩
def Ni {k ky:Nat}(ht:t<19)(hk:ky∈iu)(h:15<t->SZ s (k+1)):∀j,∀v∈(ip s raw t ky p j).1,Dk (k+2) v
 |0,v,hv=>by cases hv
 |j+1,v,hv=>by
  rw[ip]at hv;have Vp:ky<14:=by simp[iu]at hk;omega
  rcases CX hv with hv|rfl;.exact Ni ht hk h j v hv
  .refine⟨cK _,by show(0:Int)<_;omega,λx hx v hv=> ?_⟩;have a:=CY (k:=k) (s:=s) (raw:=raw) (t:=ky) (p:=(ip s raw t ky p j).2) Vc (λh=>absurd h Vc) false;have b:=CY (raw:=raw) (p:=(fG s raw ky false (ip s raw t ky p j).2).2) ht h false;have hx:x=(1,[(fG s raw ky false (ip s raw t ky p j).2).1])\/x=(2,[(fG s raw t false (fG s raw ky false (ip s raw t ky p j).2).2).1]):=by simpa [pC,PM.fs]using hx
   rcases hx with rfl|rfl;.rw[ba.1 hv];exact a
   .rw[ba.1 hv];exact b
def GG (hD:CG L)(i:Nat):∀f∈(L[i]?).getD [],f.1<16+L.length/\f.2.1<5/\f.2.2∈iu/\(f.2.1≠4->f.2.2=0):=by
 cases h:L[i]? with
 |none=>intro f hf;cases hf
 |some fs=>exact(hD.fs fs (aL h)).2.2
def zq {fs:List F3}(hL:L.length<=3)(hfo:∀f∈fs,f.1<16+L.length/\f.2.1<5/\f.2.2∈iu/\(f.2.1≠4->f.2.2=0))(h1:0<d->SZ s1 (d+1))(h2:1<d->SZ s2 d):∀k,k<=fs.length->∀x∈(gH s1 s2 raw d fs p k).1,∀v∈x.2,Dk (d+1) v
 |0,_,x,hx=>by cases hx
 |k+1,hk,x,hx=>by
  obtain⟨f,hf⟩:∃f,fs[k]?=some f:=⟨_,aO Vc⟩;rw[gH,hf]at hx;simp only[Option.getD_some]at hx;split at hx;.exact zq hL hfo h1 h2 k Vc x hx
  .rename_i hs;obtain⟨a,a4,b⟩:=CV (by simpa using hs);obtain⟨q1,_,q3,_⟩:=hfo f (aL hf);rcases aW.1 hx with hx|hx;.exact zq hL hfo h1 h2 k Vc x hx
   .rw[ba.1 hx];intro v hv;simp only at hv;unfold pE at hv;split at hv
    .have:∀j,∀v∈(iX s1 raw f.1 ((gH s1 s2 raw d fs p k).2.2+1+1) j).1,Dk (d+1) v:=λj=>by
      induction j with
      |zero=>intro v h;cases h
      |succ j ih=>
       intro v h;rw[iX]at h;rcases aW.1 h with h|h;.exact ih v h
       .rw[ba.1 h];exact CY Vc (λh=>h1 (a h)) false
     exact this _ v hv
    .split at hv;.rename_i e4;obtain⟨e,rfl⟩:∃e,d=e+1:=⟨d-1,by have:=a4 e4;omega⟩;exact Ni (k:=e) Vc q3 (λh=>h2 (b e4 h)) _ v hv
     .rw[ba.1 hv];exact CY Vc (λh=>h1 (a h)) _
def CZ (hD:CG L):∀d,SZ (gS raw L d) (d+2)
 |0=>λi p=>by
  show pQ 2 (kX oZ oZ raw 0 ((L[i]?).getD []) p).1
  exact zq hD.few.2 (GG hD i) (λh=>absurd h Vc) (λh=>absurd h Vc) _ (aE _)
 |1=>λi p=>by
  show pQ 3 (kX (gS raw L 0) oZ raw 1 ((L[i]?).getD []) p).1
  exact zq hD.few.2 (GG hD i) (λ_=>CZ hD 0) (λh=>absurd h Vc) _ (aE _)
 |d+2=>λi p=>by
  show pQ (d+4) (kX (gS raw L (d+1)) (gS raw L d) raw (d+2) ((L[i]?).getD []) p).1;exact zq hD.few.2 (GG hD i) (λ_=>CZ hD (d+1)) (λ_=>CZ hD d) _ (aE _)
end
end Go.Proofs.YtfebdimolnobaaaGreatDoor
