import Derived.Test.YtfebdimolnobaaaGreatDoorBuK
import Derived.Test.YtfebdimolnobaaaGreatDoorDfO
set_option maxRecDepth 100000
set_option maxHeartbeats 8000000
set_option linter.all false
namespace Go.Proofs.YtfebdimolnobaaaGreatDoor
open Go.RowKit Go.Proofs.Tryz
structure eR (w:aw)(Z:ax)(rb:Nat)(w':aw)(Z':ax):Prop where
 os:w'.os=w.os
 tape:w'.tape=w.tape
 output:w'.output=w.output
 size:w.heap.size<=w'.heap.size
 block:∀b,b<w.heap.size->¬Z b->b≠rb->w'.heap[b]?=w.heap[b]?
 grow:∀b,Z' b->Z b\/w.heap.size<=b
section
variable {a b c:aw} {Z Y X:ax} {rb n:Nat}
def eR.J (h:eR a Z rb b Y)(k:eR b Y rb c X):eR a Z rb c X:=
 ⟨k.os.J h.os,k.tape.J h.tape,k.output.J h.output,aM h.size k.size,λi hi q1 q2=>(k.block i (aI hi h.size) (λe=>(h.grow i e).elim q1 (λe=>Vc)) q2).J (h.block i hi q1 q2),
  λi q=>(k.grow i q).elim (h.grow i) (λe=> .inr (aM h.size e))⟩
def eR.oS (h:fK a Z b Y):eR a Z rb b Y:=⟨h.os,h.tape,h.output,h.size,λi hi q _=>h.block i hi q,h.grow⟩
def eR.oK (h:ec [rb] a b):eR a Z rb b Z:=⟨h.os,h.tape,h.output,h.size,λi hi _ q=>h.block i hi (by simpa using q),λ_ q=> .inl q⟩
def eR.oB (h:Below a.heap.size a b):eR a Z rb b Z:= .oK (.oB h)
def eR.refl (a:aw)(Z:ax)(rb:Nat):eR a Z rb a Z:= .oB (Below.refl _ _)
def eR.not (h:eR a Z rb b Y)(hb:n<a.heap.size)(hn:¬Z n):¬Y n:=λq=>(h.grow n q).elim hn (λe=>Vc)
def eR.G {B:Nat}(h:eR a Z rb b Y)(hB:B<=a.heap.size)(hZ:∀x,Z x->B<=x)(hr:B<=rb):Below B a b:=
 ⟨h.os,h.tape,h.output,h.size,λi hi=>h.block i Vc (λq=>by have:=hZ i q;omega) Vc⟩
def eR.clip (h:eR a Z rb b Y):eR a Z rb b (λx=>Y x/\x<b.heap.size):=⟨h.os,h.tape,h.output,h.size,h.block,λx q=>h.grow x q.1⟩
end
structure FG (S:eD)(mp:an)(d:MT)(f:fo)(g:GF):Prop where
 eq:g.f=f
 form:g.form=0\/g.form=1\/g.form=2\/g.form=3\/g.form=4
 map:f.isMap=decide (g.form=4)
 rep:f.isRep=decide (g.form=2)
 sin:gN f.how eS=decide (g.form=0)
 riv:g.riv=lF d f
 lone:g.form≠3->g.riv= []
 rlen:g.riv.length<=1073741824
 base:jB mp f.ty=S.base f.ty
 nest:S.base f.ty=16<->(S.msg f.ty).isSome=true
 key:g.form=4->jB mp f.key=S.base f.key/\S.base f.key<=14/\S.msg f.key=none/\iJ (S.base f.key)=fi jm f.key
structure lH (S:eD)(mp:an)(d:MT)(gs:List GF):Prop where
 srt:gs.Pairwise (λx y=>x.f.num<=y.f.num)
 len:gs.length<=2001
 no:∀n,d9 d.fs n=none->iI gs n=none
 yes:∀n f,d9 d.fs n=some f->∃g,iI gs n=some g/\FG S mp d f g
structure tu (w:aw)(B:Nat)(S:eD)(mp:an):Prop where
 u:UOK w
 u1:2<B
 u2:3<B
 le:B<=w.heap.size
 md:∀t d,S.msg t=some d->∃mb gs,zH mp t=some mb/\jh w (λb=>b<B) mp mb d.name gs/\lH S mp d gs
def tu.on {w w':aw}{B:Nat}{S:eD}{mp:an}(h:tu w B S mp)(hb:Below B w w'):tu w' B S mp:=
 ⟨h.u.O (hb.block _ h.u1) (hb.block _ h.u2),h.u1,h.u2,aM h.le hb.size,λt d q=>by
  have⟨mb,gs,h1,h2,h3⟩:=h.md t d q
  exact⟨mb,gs,h1,h2.O (λb q _=>hb.block b q),h3⟩⟩
structure Fg (S:eD):Prop where
 good:Aw S
 name:∀d∈S.ms,gN d.name eS=false
def iD (S:eD)(k:Nat)(d:MT)(w:aw)(Z:ax)(rb db:Nat)(s:au)(deep:Nat)(R:Fx (PM×Nat))(en:Ending)(w':aw):Prop:=
 match R with
 | .error x=>en=dY x.1 x.2/\∃Z',eR w Z rb w' Z'
 | .ok x=>en= .returned (.tuple #[])/\∃Z',eR w Z rb w' Z'/\eM S (k+1) (some d) w' Z' db x.1/\ee w' rb s x.2 deep
def iD.pre {S:eD}{k:Nat}{d:MT}{w w1:aw}{Z Z1:ax}{rb db:Nat}{s:au}{deep:Nat}{R:Fx (PM×Nat)}{en:Ending}{w':aw}(h:eR w Z rb w1 Z1)(k1:iD S k d w1 Z1 rb db s deep R en w'):iD S k d w Z rb db s deep R en w':=by
 unfold iD at*;split at k1;.exact⟨k1.1,k1.2.imp λ_ q=>h.J q⟩
 .obtain⟨q1,Z',q2,q3⟩:=k1;exact⟨q1,Z',h.J q2,q3⟩
def pN (e:Nat):Fx PM->Fx (PM×Nat)
 | .error x=> .error x
 | .ok m=> .ok (m,e)
def kx (S:eD)(b:au)(F:Nat)(d:MT)(f:fo)(m:PM)(deep:Nat):Fx pK->Fx (PM×Nat)
 | .error x=> .error x
 | .ok r=>pN r.e (zO S b F d f m r deep)
def rS (f:fo):∀(l:List fo) (m:PM),iU f l m=m.without ((l.filter λo=>gN o.how f.how&&i8 o.how&&decide (o.num≠f.num)).map (·.num))
 | [],m=>by
  cases m;simp only[iU,PM.without,PM.fs,PM.unk,List.filter_nil,dm];congr 1
  exact(cZ.2 Vd).sy
 |o::l,m=>by
  rw[iU,rS f l];rw[cl];split
  .rw[bK,<-vw];unfold PM.without;simp only[PM.fs,PM.unk,List.filter_filter];congr 1;refine List.filter_congr λx _=> ?_
   rw[<-Bool.decide_and];congr 1;simp[aS,not_or,and_comm]
  .rfl
def yg (d:MT)(f:fo)(m:PM):iU f d.fs m=m.without (lF d f):=rS f d.fs m
def jo (m:PM):m.without []=m:=by
 cases m;simp only[PM.without,PM.fs,PM.unk];congr 1;exact cZ.2 Vd
def qu (n:Int)(ns:ar)(h:n∉ns):∀l:List PF,gR (l.filter λf=>decide (f.1∉ns)) n=gR l n
 | []=>rfl
 |x::l=>by
  rw[cl,gR];by_cases q:x.1∈ns
  .have:decide (x.1∉ns)=false:=by simp[q]
   rw[this,dO Vd,dO (λe:x.1=n=>h (by rw[<-e];exact q)),qu n ns h l]
  .have:decide (x.1∉ns)=true:=by simp[q]
   rw[this,dP rfl,gR,qu n ns h l]
def vA {m:PM}{n:Int}{ns:ar}(h:n∉ns):(m.without ns).get n=m.get n:=qu n ns h m.fs
def Hi (d:MT)(f:fo):f.num∉lF d f:=λh=>by
 unfold lF at h;have⟨o,ho,e⟩:=aR.1 h;have:=(bA.1 ho).2;simp only[aQ,dQ]at this;exact this.2 e
def WM.without {S:eD}{a:Nat}{d:MT}{m:PM}(h:WM S a d m)(f:fo):WM S a d (m.without (lF d f)):=by
 rw[<-yg];exact h.dropF f d.fs
section
open Vo
section
variable {w:aw} {s b:au} {deep num:Int} {z k:Nat} {r:pK} {S:eD} {mp:an} {d:MT} {f:fo} {g:GF} {m:PM}
theorem Hm (w:aw)(P:ax)(mp:an)(g:GF)(fb:Nat)(h:eZ w P mp g fb)(hf:g.form=4):
  Calls prog 188 #[ah fb] w λe w'=>∃pv,e= .returned (.agg #[aa (jB mp g.f.key),pv])/\ak w w':=by
 have⟨pv,rv,h1,_,_,h4⟩:=h.blk;rw[dP hf]at h4;obtain⟨eb,rfl,hE⟩:=h4;have⟨B0,K0⟩:=d8 w #[aa 0,.pointer none] 216;have Vs:=h1.alloc (am #[aa 0,.pointer none] 216);have⟨k1,k2⟩:=Vs.I;have HF:=qV (w.alloc (am #[aa 0,.pointer none] 216)) P mp eb eS _ 1 (hE.msg.O (λb _ hl=>B0.block b hl)) (uq g.f.key g.f.ty) Vd;rw[DI]at HF;unfold gZ at k1;go_in
 go_wp2_with fail;refine HF.V ?_;rintro e w2 ⟨⟨vb,rfl,hV⟩,rfl⟩;have⟨Vu,rv2,h5,_,_,h6⟩:=hV.blk;have Vr:eI mp (lL oe g.f.key 1)=jB mp g.f.key:=by unfold eI;rw[dO (by simp[lL])];rfl
 rw[Vr]at h5;rw[dO (by simp[lL])]at h6;obtain⟨q,hq⟩:∃q,Vu= .pointer q:=(by subst h6;unfold gZ;split<;>exact⟨_,rfl⟩);subst hq;have⟨k3,k4⟩:=h5.I;have⟨k5,k6⟩:=K0.I;clear k1 k2 h6;go_wp2;refine dR (el results188 _ _ rfl (dX.new w _ _) underlying216 Vh) rfl ?_;exact⟨_,rfl,(Below.refl _ _).alloc (aE _) _⟩
theorem pS.part {α:Type}{rb:Nat}{r:Fx (α×Nat)}{V:α->Value}{e:Ending}{w':aw}(h:pS w rb s deep r V e w'):
  (∃x,r= .error x/\e=dY x.1 x.2/\ec [rb] w w')\/∃x,r= .ok x/\e= .returned (V x.1)/\ec [rb] w w'/\ee w' rb s x.2 deep:=by
 obtain⟨h1,h2⟩:=h
 cases r with
 |error x=>exact .inl ⟨x,rfl,h2,h1⟩
 |ok x=>exact .inr ⟨x,rfl,h2.1,h1,h2.2⟩
theorem qv {a:Nat}{kind:Int}(h:fM s a num kind z= .ok r):z<r.e/\r.fr<=r.e/\r.e<=s.size/\0<=r.n/\r.n<2^64/\z<=r.fr:=by
 have Vp:∀(k:Nat) (y:Int×Nat),k<=8->1<=k->jt s z k= .ok y->z<y.2/\y.2<=s.size/\0<=y.1/\y.1<2^64:=λk y h1 h2 q=>by
  unfold jt at q;split at q;.cases q;have:=uw (s:=s.extract z (z+k)) (by rw[bg];omega);exact⟨Ve,by simpa,this.1,this.2⟩
  .cases q
 unfold fM at h;split at h
 .cases hv:iT s z s.size with
  |error x=>rw[hv]at h;cases h
  |ok x=>
   rw[hv]at h;cases h;have⟨v0,v1,v2,v3⟩:=jj (m:=x.1) (z:=x.2) hv;exact⟨v2,Ve,v3,v0,v1,aE _⟩
 .split at h
  .cases hv:jt s z 8 with
   |error x=>rw[hv]at h;cases h
   |ok x=>
    rw[hv]at h;cases h;have⟨v0,v1,v2,v3⟩:=Vp 8 x Vc Vc hv;exact⟨v0,Ve,v1,v2,v3,aE _⟩
  .split at h
   .cases hv:jt s z 4 with
    |error x=>rw[hv]at h;cases h
    |ok x=>
     rw[hv]at h;cases h;have⟨v0,v1,v2,v3⟩:=Vp 4 x Vc Vc hv;exact⟨v0,Ve,v1,v2,v3,aE _⟩
   .cases hv:fk s z with
    |error x=>rw[hv]at h;cases h
    |ok x=>
     rw[hv]at h;cases h;have⟨v0,v1,v2⟩:=ju (z:=x.1) (e:=x.2) hv;exact⟨Ve,v1,v2,Vd,Vd,Ve⟩
theorem nC {a:Nat}(hk:k=0\/k=1\/k=2\/k=5)(h:fM s a num k z= .ok r):r.kind=k:=by
 rcases hk with rfl|rfl|rfl|rfl;.rw[Fv]at h;cases hv:iT s z s.size<;>rw[hv]at h<;>cases h;rfl
 .rw[Fw]at h;cases hv:jt s z 8<;>rw[hv]at h<;>cases h;rfl
 .rw[ux]at h;cases hv:fk s z<;>rw[hv]at h<;>cases h;rfl
 .rw[Fy]at h;cases hv:jt s z 4<;>rw[hv]at h<;>cases h;rfl
theorem DU (k:Nat):eJ k=0\/eJ k=1\/eJ k=2\/eJ k=5:=by
 unfold eJ;split;.exact .inl rfl
 .split;.exact .inr (.inl rfl)
  .split;.exact .inr (.inr (.inr rfl))
   .split;.exact .inl rfl
    .exact .inr (.inr (.inl rfl))
theorem DV {x:LV×Nat}(hk:k<=15)(h:gE s z k= .ok x):z<x.2/\x.2<=s.size/\0<=x.1.1/\x.1.1<2^64:=by
 rw[xT s 0 0 z k hk]at h
 cases hr:fM s 0 0 (eJ k) z with
 |error y=>rw[hr]at h;cases h
 |ok r=>
  rw[hr]at h;have⟨h1,_,h3,h4,h5,_⟩:=qv hr;simp only[DL]at h
  cases hv:zL s k r with
  |error y=>rw[hv]at h;cases h
  |ok v=>
   rw[hv]at h;cases h;refine⟨h1,h3,?_⟩;unfold zL at hv;split at hv
   .split at hv;.cases hv;simp
    .cases hv
   .split at hv;.cases hv;simp
    .cases hv;exact iZ h4 h5
theorem Hn {F deep a e:Nat}(fg:FG S mp d f g)(hf:g.form=2)(hb:S.base f.ty<=15)(he:e<=b.size):
  kx S b F d f m deep (fM (b.extract 0 e) a num (eJ (S.base f.ty)) z)=match gE (b.extract 0 e) z (S.base f.ty)with| .error x=> .error x| .ok x=> .ok (m.put f.num (m.get f.num++ [qq x.1]),x.2):=by
 rw[xT (b.extract 0 e) a num z _ hb]
 cases hr:fM (b.extract 0 e) a num (eJ (S.base f.ty)) z with
 |error x=>rfl
 |ok r=>
  have hk:=nC (DU _) hr;have⟨_,_,h3,_⟩:=qv hr;rw[gJ he]at h3;have hm:f.isMap=false:=by rw[fg.map,hf];rfl
  have Vt:f.isRep=true:=by rw[fg.rep,hf];rfl
  have hs:fy S f=none:=by
   unfold fy;rw[hm]
   cases hq:S.msg f.ty with
   |none=>rfl
   |some x=>have:=fg.nest.2 (by rw[hq];rfl);omega
  simp only[kx,zO,DL];rw[dP (by unfold fV;rw[hm];exact hk)];unfold qo oo;rw[hs];simp only;rw[DM rfl hb hk h3 he]
  cases zL (b.extract 0 e) (S.base f.ty) r with
  |error x=>rfl
  |ok v=>
   simp only[Hf,pN,gX,hm,Vt,if_true,aU,if_false];rfl
theorem DW {F deep a e:Nat}(fg:FG S mp d f g)(hf:g.form=2)(hw:eJ (S.base f.ty)≠2):
  kx S b F d f m deep (fM (b.extract 0 e) a num 2 z)=match fk (b.extract 0 e) z with| .error x=> .error x| .ok y=>(match fW b (S.base f.ty) y.2 (y.2-y.1) (m.get f.num) y.1 with| .error x=> .error x| .ok l=> .ok (m.put f.num l,y.2)):=by
 have e2:fM (b.extract 0 e) a num 2 z=_:=ux (b.extract 0 e) a num z;rw[e2];have hm:f.isMap=false:=by rw[fg.map,hf];rfl
 cases fk (b.extract 0 e) z with
 |error x=>rfl
 |ok y=>
  simp only[kx,zO];rw[dO (by unfold fV;rw[hm];exact λq=>hw q.sy)];unfold mI;cases fW b (S.base f.ty) y.2 (y.2-y.1) (m.get f.num) y.1<;>rfl
def ND (m:PM):Prop:=m.fs.Pairwise (λa b=>a.1<b.1)
theorem AD {n:Int}:∀{fs:List PF},fs.Pairwise (λa b=>a.1<b.1)->∃fp fq,(∀x∈fp,x.1<n)/\(∀x∈fq,n<x.1)/\(fs=fp++fq\/∃old,fs=fp++(n,old)::fq)
 | [],_=>⟨[],[],Vd,Vd,.inl rfl⟩
 |x::l,h=>by
  rw[bu]at h;by_cases h1:x.1<n;.have⟨fp,fq,q1,q2,q3⟩:=AD (n:=n) h.2;refine⟨x::fp,fq,λy hy=>(aS.1 hy).elim (λe=>by rw[e];exact h1) (q1 y),q2,q3.imp (λe=>by rw[e];rfl) (λ⟨o,e⟩=>⟨o,by rw[e];rfl⟩)⟩
  .by_cases h2:x.1=n;.exact⟨[],l,Vd,λy hy=>by have:=h.1 y hy;omega,.inr ⟨x.2,by rw[<-h2];rfl⟩⟩
   .exact⟨[],x::l,Vd,λy hy=>(aS.1 hy).elim (λe=>by rw[e];omega) (λq=>by have:=h.1 y q;omega),.inl rfl⟩
theorem tx (h:ND m)(n:Int):∃fp fq,(∀x∈fp,x.1<n)/\(∀x∈fq,n<x.1)/\(∀vs,m.put n vs= .mk (fp++((if vs.isEmpty then []else [(n,vs)])++fq)) m.unk)/\(m.fs=fp++fq\/∃old,m.fs=fp++(n,old)::fq):=by
 have⟨fp,fq,q1,q2,q3⟩:=AD (n:=n) h
 have Vq:∀x∈fp++fq,x.1≠n:=λx hx=>by
  rcases aW.1 hx with hx|hx;.have:=q1 x hx;omega
  .have:=q2 x hx;omega
 refine⟨fp,fq,q1,q2,λvs=> ?_,q3⟩;unfold PM.put
 cases hv:vs.isEmpty with
 |true=>
  rw[mX];simp only[if_true,aX];rcases q3 with e|⟨old,e⟩;.rw[e,mY n _ Vq]
  .rw[e,cL,cl,dO Vd,<-cL,mY n _ Vq]
 |false=>
  simp only[aU,if_false];rcases q3 with e|⟨old,e⟩;.rw[e,ti n vs fq q2 fp q1];rfl
  .rw[e,wL n vs old fq q2 fp q1];rfl
theorem Ho (h:ND m)(n:Int)(vs us:List PV):(m.put n vs).put n us=m.put n us:=by
 have⟨fp,fq,q1,q2,q3,_⟩:=tx h n;rw[q3 vs,q3 us];unfold PM.put;simp only[PM.fs,PM.unk]
 have Vq:∀x∈fp++fq,x.1≠n:=λx hx=>by
  rcases aW.1 hx with hx|hx;.have:=q1 x hx;omega
  .have:=q2 x hx;omega
 cases us.isEmpty with
 |true=>
  rw[mX]
  cases vs.isEmpty with
  |true=>simp only[if_true,aX];rw[mY n _ Vq]
  |false=>
   simp only[aU,if_false,if_true,aX,bo]
   rw[cL,cl,dO Vd,<-cL,mY n _ Vq]
 |false=>
  cases vs.isEmpty with
  |true=>simp only[aU,if_false,if_true,aX,bo];rw[ti n us fq q2 fp q1]
  |false=>simp only[aU,if_false,aX,bo];rw[wL n us vs fq q2 fp q1]
theorem DX (h:ND m)(n:Int)(vs:List PV):(m.put n vs).get n=vs:=by
 have⟨fp,fq,q1,q2,q3,_⟩:=tx h n;rw[q3 vs];unfold PM.get;simp only[PM.fs]
 cases hv:vs.isEmpty with
 |true=>
  simp only[if_true,aX]
  rw[nV n _ λx hx=>by
   rcases aW.1 hx with hx|hx;.have:=q1 x hx;omega
   .have:=q2 x hx;omega]
  exact(List.isEmpty_iff.1 hv).sy
 |false=>
  simp only[aU,if_false,bo,aX];exact qZ n vs fq fp q1
theorem Hp (h:ND m)(hf:∀f∈m.fs,f.2≠ [])(n:Int):m.put n (m.get n)=m:=by
 have⟨fp,fq,q1,q2,q3,q4⟩:=tx h n;have hm:m= .mk m.fs m.unk:=by cases m;rfl
 rcases q4 with e|⟨old,e⟩
 .have hg:m.get n= []:=by
   unfold PM.get;rw[e]
   exact nV n _ λx hx=>by
    rcases aW.1 hx with hx|hx;.have:=q1 x hx;omega
    .have:=q2 x hx;omega
  rw[hg,q3]
  conv=>rhs;rw[hm,e]
  rfl
 .have hg:m.get n=old:=(by unfold PM.get;rw[e];exact qZ n old fq fp q1);have:=hf (n,old) (by rw[e];simp);rw[hg,q3]
  conv=>rhs;rw[hm,e]
  cases old with
  |nil=>exact absurd rfl this
  |cons _ _=>rfl
theorem eM.srt {T:Option MT}{Z:ax}{db:Nat}(h:eM S (k+1) T w Z db m):ND m/\∀f∈m.fs,f.2≠ []:=by
 obtain⟨sv,uv,l,Y,hy,hs⟩:=h;refine⟨?_,hs.filled⟩;have h1:=hy.c.srt;have h2:=hs.nums;unfold ND;have h3:(l.map (·.1)).Pairwise (·< ·):=cw.2 h1;rw[<-h2]at h3;exact cw.1 h3
end
section
variable {S:eD} {d:MT} {f:fo} {mp:an} {g:GF} {w:aw}
structure px (w:aw)(B:Nat)(S:eD)(mp:an)(k:Nat)(d:MT)(Z:ax)(rb db:Nat)(b:au)(e a z deep:Nat)(m:PM):Prop where
 cx:tu w B S mp
 hr:ee w rb (b.extract 0 e) z deep
 hd:eM S (k+1) (some d) w Z db m
 hZ:∀x,Z x->B<=x/\x<w.heap.size
 rB:B<=rb
 rZ:¬Z rb
 az:a<z
 ze:z<=e
 eb:e<=b.size
 bs:b.size<=268435456
 wm:WM S a d m
theorem oN (hf:d9 d.fs f.num=some f)(hk:pM S f= .vals):oJ S (some d) f.num .vals/\∀kd,oJ S (some d) f.num kd->kd= .vals:=
 ⟨λd' f' e1 e2=>by cases e1;rw[hf]at e2;cases e2;exact hk.sy,λkd q=>by rw[q d f rfl hf,hk]⟩
theorem lO (fg:FG S mp d f g)(h4:g.form≠4)(hb:S.base f.ty<=15):pM S f= .vals/\fy S f=none/\f.isMap=false:=by
 have hm:f.isMap=false:=by rw[fg.map];simp[h4]
 have hs:fy S f=none:=by
  unfold fy;rw[hm]
  cases hq:S.msg f.ty with
  |none=>rfl
  |some x=>have:=fg.nest.2 (by rw[hq];rfl);omega
 exact⟨by unfold pM;rw[hm,hs];rfl,hs,hm⟩
theorem eR.dr {k:Nat}{T:Option MT}{w':aw}{Z:ax}{rb db:Nat}{m:PM}(h:eM S k T w Z db m)(hk:ec [rb] w w')(hr:¬Z rb):eM S k T w' Z db m:=
 h.O λb q hl=>hk.block b hl (by simp;exact λe=>hr (e▸q))
def Lo (m:PM)(n:Int):Fx (LV×Nat)->Fx (PM×Nat)
 | .error x=> .error x
 | .ok x=> .ok (m.put n (m.get n++ [qq x.1]),x.2)
theorem gK {P:ax}{pv:Value}(h:if g.form=4 then∃eb,pv=gZ (some eb)/\mJ w P mp g.f.key g.f.ty eb else pv=gZ (zH mp g.f.ty)):∃q,pv= .pointer q:=by
 split at h;.obtain⟨eb,rfl,_⟩:=h;exact⟨_,rfl⟩
 .subst h;unfold gZ;split<;>exact⟨_,rfl⟩
theorem FN (w:aw)(B:Nat)(S:eD)(mp:an)(k:Nat)(d:MT)(f:fo)(g:GF)(fb:Nat)(Z:ax)(rb db:Nat)(b:au)(e a z deep F:Nat)(num:Int)(m:PM)
  (I:px w B S mp k d Z rb db b e a z deep m) (hfa:eZ w (λb=>b<B) mp g fb) (fg:FG S mp d f g) (hf:g.form=2) (hb:S.base f.ty<=15) (hff:d9 d.fs f.num=some f):
  Calls prog 192 #[ah fb,aa (eJ (S.base f.ty)),ah rb,ah db] w (iD S k d w Z rb db (b.extract 0 e) deep (kx S b F d f m deep (fM (b.extract 0 e) a num (eJ (S.base f.ty)) z))):=by
 have Vs:kx S b F d f m deep (fM (b.extract 0 e) a num (eJ (S.base f.ty)) z)=Lo m f.num (gE (b.extract 0 e) z (S.base f.ty)):=(by rw[Hn fg hf hb I.eb];cases gE (b.extract 0 e) z (S.base f.ty)<;>rfl);rw[Vs];clear Vs;have⟨pv,rv,h1,hfB,_,Vu⟩:=hfa.blk;have Vv:eI mp g=S.base f.ty:=by unfold eI;rw[dO Vc,fg.eq,fg.base]
 rw[Vv,fg.eq]at h1;have⟨VB,_,_⟩:=lO fg Vc hb;have⟨ok1,ok2⟩:=oN hff VB;have hes:(b.extract 0 e).size=e:=gJ I.eb;have hl:=I.wm.len;have hab:=I.az;have hze:=I.ze;have heb:=I.eb;have hbs:=I.bs;have Vw:rb<w.heap.size:=dX.lt I.hr;have hW:=qi w (S.base f.ty) pv Vc
 have hV:∀w1,ee w1 rb (b.extract 0 e) z deep->UOK w1->U8 194 #[.agg #[aa (S.base f.ty),pv],ah rb] w1 (pS w1 rb (b.extract 0 e) deep (gE (b.extract 0 e) z (S.base f.ty)) vP):=
  λw1 h1 h2=>qm w1 rb _ z deep _ pv h1 Vc Vc hb h2 (by have:=I.cx.u1;have:=I.rB;omega) (by have:=I.cx.u2;have:=I.rB;omega)
 obtain⟨R,hR⟩:=Y9 (gE (b.extract 0 e) z (S.base f.ty));rw[hR]at hV⊢;have HR:Hid (gE (b.extract 0 e) z (S.base f.ty)=R):=hR;clear hR;have⟨k1,k2⟩:=h1.I;obtain⟨pq,rfl⟩:=gK Vu;clear Vu;go_in
 go_wp2_with fail;refine hW.V ?_;rintro en w2 ⟨rfl,B2⟩;have h2:=h1.G B2 h1.lt;have Vx:ee w2 rb (b.extract 0 e) z deep:=dX.G I.hr B2 Vw;have Vy:UOK w2:=(I.cx.on (B2.V I.cx.le)).u;have Vz:=I.hd.O (λx _ q=>B2.block x q);have⟨k3,k4⟩:=h2.I;clear k1 k2 hW;have VA:dX w2.drew fb #[aa f.num,aa g.form,aa (S.base f.ty),.pointer pq,rv] 220:=h2;have hfl:fb<w2.heap.size:=h2.lt;have Vq:eM S (k+1) (some d) w2.drew Z db m:=Vz.O (λ_ _ _=>rfl);have hrb:=I.rB;have Vt:=I.rZ
 have hA:∀w3:aw,∀v:LV,eM S (k+1) (some d) w3 Z db m->U8 268 #[ah db,aa f.num,vP v] w3 (kr S k (some d) w3 Z db (m.put f.num (m.get f.num++ [qq v]))):=
  λw3 v VC=>yk S k (some d) w3 Z db m f.num v VC ok1 (.inl ok2) Vc (by have:=hl.2.2 f.num;omega)
 go_upto_region 1 with fail
 go_region_with
  (first
   |(
     go_at_call 194;refine(hV w2.drew Vx Vy).V ?_;intro en w3 hq;rcases hq.part with⟨x,rfl,rfl,Vp⟩|⟨x,rfl,rfl,Vp,VD⟩;.unfold dY;go_wp2;exact⟨rfl,rfl,Z,(eR.oB B2.drew).J (.oK Vp)⟩
     have h3:=VA.kept Vp Ve
     have⟨k5,k6⟩:=h3.I)
   |(
     go_at_call 268;refine(hA w3 x.1 (eR.dr Vq Vp Vt)).V ?_;rintro en w4 ⟨rfl,Z4,Vr,VE⟩;have h4:=h3.step Vr (λq=>by have:=(I.hZ fb q).1;omega)
     have⟨k7,k8⟩:=h4.I))
 all_goals
  go_wp2;go_end0;refine⟨rfl,Z4,((eR.oB B2.drew).J (.oK Vp)).J (.oS Vr),VE,?_⟩;exact dX.step VD Vr Vt
end
def Lp (m:PM)(n:Int)(e:Nat):Fx (List PV)->Fx (PM×Nat)
 | .error x=> .error x
 | .ok l=> .ok (m.put n l,e)
def rT (k:Nat)(b:au)(n:Int)(m:PM):Fx (Nat×Nat)->Fx (PM×Nat)
 | .error x=> .error x
 | .ok y=>Lp m n y.2 (fW b k y.2 (y.2-y.1) (m.get n) y.1)
def GW.part {w:aw}{rb:Nat}{s:au}{deep:Int}{r:Fx (Nat×Nat)}{e:Ending}{w':aw}(h:GW w rb s deep r e w'):
  (∃x,r= .error x/\e=dY x.1 x.2/\ec [rb] w w')\/∃x nb,r= .ok x/\e= .returned (ah nb)/\ec [rb] w w'/\w.heap.size<=nb/\nb≠rb/\ee w' nb (s.extract 0 x.2) x.1 deep/\ee w' rb s x.2 deep:=by
 obtain⟨h1,h2⟩:=h;grind
def mB (w:aw)(nb e:Nat):Nat:=
 match w.cell? (aj nb 1)with
 |some (.int _ n)=>((e:Int)-n).toNat
 |_=>0
def iy {w:aw}{nb a e:Nat}{s:au}{deep:Int}(h:ee w nb s a deep):mB w nb e=e-a:=by
 unfold mB;rw[dX.cell h];simp
structure QJ (S:eD)(k:Nat)(d:MT)(B:Nat)(w wr:aw)(Z Z':ax)(rb nb db fb y1 y2:Nat)(b s:au)(deep:Nat)(fcs:aq)(bs:Nat)(m:PM)(n:Int)(a:Nat)(l:List PV)(F:Nat)(P:Fx (List PV)):Prop where
 st:eR w Z rb wr Z'
 rn:ee wr nb (b.extract 0 y2) a deep
 rr:ee wr rb s y2 deep
 dr:eM S (k+1) (some d) wr Z' db (m.put n l)
 fd:dX wr fb fcs 220
 lo:y1<=a
 hi:a<=y2
 ll:l.length<=a
 eq:Hid (P=fW b bs y2 F l a)
 fu:y2-a<=F
 zz:∀x,Z' x->B<=x/\x<wr.heap.size
 zn:¬Z' nb
def eR.keptN {a b c:aw}{Z Y:ax}{rb nb:Nat}(h:eR a Z rb b Y)(k:ec [nb] b c)(hn:a.heap.size<=nb):eR a Z rb c Y:=
 ⟨k.os.J h.os,k.tape.J h.tape,k.output.J h.output,aM h.size k.size,λi hi q1 q2=>(k.block i (aI hi h.size) (by grind)).J (h.block i hi q1 q2),h.grow⟩
def FQ (w:aw)(B:Nat)(S:eD)(mp:an)(k:Nat)(d:MT)(f:fo)(g:GF)(fb:Nat)(Z:ax)(rb db:Nat)(b:au)(e a z deep F:Nat)(num:Int)(m:PM)
  (I:px w B S mp k d Z rb db b e a z deep m) (hfa:eZ w (λb=>b<B) mp g fb) (fg:FG S mp d f g) (hf:g.form=2) (hb:S.base f.ty<=15) (hw:eJ (S.base f.ty)≠2) (hff:d9 d.fs f.num=some f):
  Calls prog 192 #[ah fb,aa 2,ah rb,ah db] w (iD S k d w Z rb db (b.extract 0 e) deep (kx S b F d f m deep (fM (b.extract 0 e) a num 2 z))):=by
 have Vv:kx S b F d f m deep (fM (b.extract 0 e) a num 2 z)=rT (S.base f.ty) b f.num m (fk (b.extract 0 e) z):=(by rw[DW fg hf hw];rfl);rw[Vv];clear Vv;have⟨pv,rv,h1,hfB,_,VK⟩:=hfa.blk;have VM:eI mp g=S.base f.ty:=by unfold eI;rw[dO Vc,fg.eq,fg.base]
 rw[VM,fg.eq]at h1;have⟨We,_,_⟩:=lO fg Vc hb;have⟨ok1,ok2⟩:=oN hff We;have VN:(b.extract 0 e).size=e:=gJ I.eb;have hl:=I.wm.len;have hab:=I.az;have hze:=I.ze;have heb:=I.eb;have hbs:=I.bs;have VO:=I.rB;have VC:=I.rZ;have hu1:=I.cx.u1;have hu2:=I.cx.u2;have VD:rb<w.heap.size:=dX.lt I.hr;have hW:=qi w (S.base f.ty) pv Vc;have VE:∀w2,ee w2 rb (b.extract 0 e) z deep->U8 197 #[ah rb] w2 (GW w2 rb (b.extract 0 e) deep (fk (b.extract 0 e) z)):=λw2 h=>oI w2 rb _ z deep h Vc
 have Vp:=I.hd.srt;obtain⟨R,hR⟩:=Y9 (fk (b.extract 0 e) z);rw[hR]at VE⊢;have HR:Hid (fk (b.extract 0 e) z=R):=hR;clear hR;obtain⟨pq,rfl⟩:=gK VK;clear VK;have⟨k1,k2⟩:=h1.I;have hne:((2:Int)==(eJ (S.base f.ty):Int))=false:=by grind
 go_in
 go_wp2_with fail;refine hW.V ?_;rintro en w2 ⟨rfl,B2⟩;have h2:=h1.G B2 h1.lt;have VP:ee w2 rb (b.extract 0 e) z deep:=dX.G I.hr B2 VD;have VQ:=I.hd.O (λx _ q=>B2.block x q);clear k1 k2 hW;go_wp2_with fail;refine(VE w2 VP).V ?_;intro en w3 hq;rcases hq.part with⟨x,rfl,rfl,Vq⟩|⟨y,nb,rfl,rfl,Vq,Wf,hnr,Vu,VA⟩;.unfold dY;go_wp2;exact⟨rfl,rfl,Z,(eR.oB B2).J (.oK Vq)⟩
 obtain⟨y1,y2⟩:=y;have⟨v0,v1,v2⟩:=ju HR.o;rw[VN]at v2;have VR:(b.extract 0 e).extract 0 y2=b.extract 0 y2:=kI I.eb v2;simp only[VR]at Vu;have VS:(b.extract 0 y2).size=y2:=gJ Vc;have h3:=h2.kept Vq (by grind);have hd3:=eR.dr VQ Vq VC;have VF:w.heap.size<=nb:=aM B2.size Wf;have VT:=I.cx.le
 have P0:QJ S k d B w w3 Z Z rb nb db fb y1 y2 b (b.extract 0 e) deep #[aa f.num,aa g.form,aa (S.base f.ty),.pointer pq,rv] (S.base f.ty) m f.num y1 (m.get f.num) (y2-y1) (fW b (S.base f.ty) y2 (y2-y1) (m.get f.num) y1):=
  ⟨(eR.oB B2).J (.oK Vq),Vu,VA,by rw[Hp Vp.1 Vp.2];omega,h3,aE _,v1,by grind,rfl,aE _,λx q=>⟨(I.hZ x q).1,aI (I.hZ x q).2 (aM B2.size Vq.size)⟩,λq=>by have:=(I.hZ nb q).2;omega⟩
 obtain⟨P,hP⟩:=Y9 (fW b (S.base f.ty) y2 (y2-y1) (m.get f.num) y1);have HQ:Hid (rT (S.base f.ty) b f.num m (.ok (y1,y2))=Lp m f.num y2 P):=(by show Lp m f.num y2 (fW b (S.base f.ty) y2 (y2-y1) (m.get f.num) y1)=_;rw[hP]);rw[hP]at P0;clear hP;go_wp2;go_loopw [30] (λ_ wr=>∃Z' a' l F',QJ S k d B w wr Z Z' rb nb db fb y1 y2 b (b.extract 0 e) deep #[aa f.num,aa g.form,aa (S.base f.ty),.pointer pq,rv] (S.base f.ty) m f.num a' l F' P) (λ_ wr=>mB wr nb y2)
 case atStart=>grind
 case round=>
  obtain⟨Z',a',l,F',O⟩:=hrel;have hM:=sf wr nb _ a' deep O.rn;rw[VS]at hM;have hlo:=O.lo;have hhi:=O.hi;have hll:=O.ll;go_wp2_with fail;refine hM.V ?_;rintro en w4 ⟨rfl,q,rfl⟩;by_cases hlt:a'<y2
  .have hd:decide (a'<y2)=true:=decide_eq_true hlt;obtain⟨F2,rfl⟩:∃F2,F'=F2+1:=⟨F'-1,by have:=O.fu;omega⟩;have VU:Below B w wr:=O.st.G VT (λx q=>(I.hZ x q).1) VO;have hu:UOK (wr.drewN q).drew:=(I.cx.on VU).u
   have hV:∀w1,ee w1 nb (b.extract 0 y2) a' deep->UOK w1->U8 194 #[.agg #[aa (S.base f.ty),.pointer pq],ah nb] w1 (pS w1 nb (b.extract 0 y2) deep (gE (b.extract 0 y2) a' (S.base f.ty)) vP):=
    λw1 h1 h2=>qm w1 nb _ a' deep _ _ h1 Vc Vc hb h2 Vc Vc
   have VV:S.base f.ty≠13:=λq=>hw (by rw[q];rfl)
   have VW:S.base f.ty≠14:=λq=>hw (by rw[q];rfl)
   have Vw:gE (b.extract 0 y2) a' (S.base f.ty)=match jE (b.extract 0 y2) a' (S.base f.ty)with| .error x=> .error x| .ok x=> .ok ((x.1,⟨#[]⟩),x.2):=(by unfold gE;rw[dO VV,dO VW];cases jE (b.extract 0 y2) a' (S.base f.ty)<;>rfl)
   have Vx:=Ay (k:=S.base f.ty) (F:=F2) (l:=l) (show y2<=b.size by omega) hlt
   have Vt:Hid (∀x,gE (b.extract 0 y2) a' (S.base f.ty)= .error x->rT (S.base f.ty) b f.num m (.ok (y1,y2))= .error x):=λx hx=>by
    rw[HQ.o,O.eq.o,Vx];rw[Vw]at hx
    cases hn:jE (b.extract 0 y2) a' (S.base f.ty)with
    |error y=>rw[hn]at hx;cases hx;rfl
    |ok y=>grind
   have VG:Hid (∀x,gE (b.extract 0 y2) a' (S.base f.ty)= .ok x->P=fW b (S.base f.ty) y2 F2 (l++ [qq x.1]) x.2):=λx hx=>by
    rw[O.eq.o,Vx];rw[Vw]at hx
    cases hn:jE (b.extract 0 y2) a' (S.base f.ty)with
    |error y=>grind
    |ok y=>rw[hn]at hx;cases hx;rfl
   clear Vw Vx;have VX:eM S (k+1) (some d) (wr.drewN q).drew Z' db (m.put f.num l):=O.dr.O (λ_ _ _=>rfl)
   have hA:∀w5:aw,∀v:LV,eM S (k+1) (some d) w5 Z' db (m.put f.num l)->U8 268 #[ah db,aa f.num,vP v] w5 (kr S k (some d) w5 Z' db (m.put f.num (l++ [qq v]))):=λw5 v Wh=>by
    have h1:=PM.put_len m f.num l;have h2:=DX Vp.1 f.num l;have:=yk S k (some d) w5 Z' db (m.put f.num l) f.num v Wh ok1 (.inl ok2) Vc (by grind);rw[h2,Ho Vp.1]at this;exact this
   obtain⟨Rv,VB⟩:=Y9 (gE (b.extract 0 y2) a' (S.base f.ty))
   have VY:Hid (∀x,Rv= .ok x->a'<x.2/\x.2<=y2):=λx hx=>by
    have:=DV hb (VB.J hx);omega
   rw[VB]at hV Vt VG;clear VB;have VH:dX (wr.drewN q).drew fb #[aa f.num,aa g.form,aa (S.base f.ty),.pointer pq,rv] 220:=O.fd;have hfl:fb<wr.heap.size:=dX.lt O.fd;have VZ:ee (wr.drewN q).drew nb (b.extract 0 y2) a' deep:=O.rn;have Vv:ee (wr.drewN q).drew rb (b.extract 0 e) y2 deep:=O.rr;have VI:eR w Z rb (wr.drewN q).drew Z':=O.st.J (.oB (im (Below.refl _ _) q).drew);have Vy:=O.zn;have V0:=O.zz;have V7:¬Z' rb:=O.st.not VD VC;have⟨k3,k4⟩:=VH.I;have⟨k9,k10⟩:=dX.I O.fd;have HM:Hid (mB wr nb y2=y2-a'):=iy O.rn;have V8:Hid (y2-a'<=F2+1):=O.fu;clear O hM;go_upto_region 4 with fail
   go_region_with
    (first
     |(
       go_at_call 194;refine(hV (wr.drewN q).drew VZ hu).V ?_;intro en w5 Wk;rcases Wk.part with⟨x,rfl,rfl,Vr⟩|⟨x,rfl,rfl,Vr,VL⟩;.unfold dY;go_wp2;rw[Vt.o x rfl];exact⟨rfl,rfl,Z',VI.keptN Vr VF⟩
       have h5:=VH.kept Vr (by grind)
       have⟨k5,k6⟩:=h5.I)
     |(
       go_at_call 268;refine(hA w5 x.1 (eR.dr VX Vr Vy)).V ?_;rintro en w6 ⟨rfl,Z6,Vs,Wl⟩;have h6:=h5.step Vs (λq=>by grind)
       have⟨k7,k8⟩:=h6.I))
   all_goals
    have V9:=VY.o x rfl;have VJ:ee w6 nb (b.extract 0 y2) x.2 deep:=dX.step VL Vs Vy;have Wb:=(VI.keptN Vr VF).J (.oS Vs);have Wd:ee w6 rb (b.extract 0 e) y2 deep:=dX.step (dX.kept Vv Vr (by grind)) Vs V7;have Vz:nb<w5.heap.size:=dX.lt VL
    have PN:QJ S k d B w w6 Z (λi=>Z6 i/\i<w6.heap.size) rb nb db fb y1 y2 b (b.extract 0 e) deep #[aa f.num,aa g.form,aa (S.base f.ty),.pointer pq,rv] (S.base f.ty) m f.num x.2 (l++ [qq x.1]) F2 P:=
     ⟨Wb.clip,VJ,Wd,Wl.clip,h6,Vc,V9.2,by grind,VG.o x rfl,by have:=V8.o;omega,λi q=>⟨(Vs.grow i q.1).elim (λe=>(V0 i e).1) (λe=>Vc),q.2⟩,λq=>Vs.not Vz Vy q.1⟩
    go_wp2;go_roundw
    case rel=>grind
    case measure=>rw[HM.o,iy VJ];omega
  .have hd:decide (a'<y2)=false:=decide_eq_false hlt
   have HE:Hid (rT (S.base f.ty) b f.num m (.ok (y1,y2))= .ok (m.put f.num l,y2)):=by
    show _=_;rw[HQ.o,O.eq.o]
    have:fW b (S.base f.ty) y2 F' l a'= .ok l:=by
     cases F' with
     |zero=>rfl
     |succ F'=>rw[fW,dO hlt]
    rw[this];rfl
   go_wp2;go_end0;rw[HE.o];exact⟨rfl,Z',O.st.J (.oB (im (Below.refl _ _) q)),O.dr.O (λ_ _ _=>rfl),O.rr⟩
end
section
variable {w:aw} {S:eD} {mp:an} {d sub:MT} {rb z deep:Nat} {b s:au} {m:PM} {num:Int} {f:fo} {g:GF}
def Ow (S:eD)(mp:an)(B:Nat)(b:au)(F:Nat):Prop:=
 ∀(w:aw) (Z:ax) (sub:MT) (m:PM) (a e deep k mb:Nat) (gs:List GF) (nm:au) (rb db:Nat),tu w B S mp->jh w (λb=>b<B) mp mb nm gs->lH S mp sub gs->mg S sub->ee w rb (b.extract 0 e) a deep->eM S (k+1) (some sub) w Z db m->
  (∀x,Z x->B<=x/\x<w.heap.size)->B<=rb->¬Z rb->a<=e->e<=b.size->e-a<F->k+deep=8->WM S a sub m->
  U8 83 #[ah mb,ah rb,ah db] w (iD S k sub w Z rb db (b.extract 0 e) deep (pN e (eW S b F sub m a e deep)))
theorem px.on {w1:aw}{B:Nat}{k:Nat}{Z Z1:ax}{db:Nat}{e a:Nat}{m1:PM}(I:px w B S mp k d Z rb db b e a z deep m)(st:eR w Z rb w1 Z1)(hd:eM S (k+1) (some d) w1 Z1 db m1)(hr:ee w1 rb (b.extract 0 e) z deep)(hw:WM S a d m1):
  px w1 B S mp k d (λi=>Z1 i/\i<w1.heap.size) rb db b e a z deep m1:=
 ⟨I.cx.on (st.G I.cx.le (λx q=>(I.hZ x q).1) I.rB),hr,hd.clip,λx q=>⟨(st.grow x q.1).elim (λq=>(I.hZ x q).1) (λq=>aM I.cx.le q),q.2⟩,I.rB,λq=>st.not (dX.lt I.hr) I.rZ q.1,I.az,I.ze,I.eb,I.bs,hw⟩
def Ox (sin:Bool)(m:PM)(n:Int):Fx (LV×Nat)->Fx (PM×Nat)
 | .error x=> .error x
 | .ok x=> .ok (if sin=true/\x.1.1=0/\gN x.1.2 eS=true then m.put n []else m.put n [qq x.1],x.2)
theorem Hq {F a e:Nat}(fg:FG S mp d f g)(h4:g.form≠4)(h2:g.form≠2)(hb:S.base f.ty<=15)(he:e<=b.size):
  kx S b F d f m deep (fM (b.extract 0 e) a num (eJ (S.base f.ty)) z)=Ox (decide (g.form=0)) (m.without g.riv) f.num (gE (b.extract 0 e) z (S.base f.ty)):=by
 rw[xT (b.extract 0 e) a num z _ hb]
 cases hr:fM (b.extract 0 e) a num (eJ (S.base f.ty)) z with
 |error x=>rfl
 |ok r=>
  have hk:=nC (DU _) hr;have⟨_,_,h3,_⟩:=qv hr;rw[gJ he]at h3;have⟨_,hs,hm⟩:=lO fg h4 hb;have Vs:f.isRep=false:=by rw[fg.rep];simp[h2]
  simp only[kx,zO,DL];rw[dP (by unfold fV;rw[hm];exact hk)];unfold qo oo;rw[hs];simp only;rw[DM rfl hb hk h3 he]
  cases zL (b.extract 0 e) (S.base f.ty) r with
  |error x=>rfl
  |ok v=>
   simp only[Hf,pN,Ox];unfold gX;rw[hm,Vs,hs,fg.sin,yg,fg.riv];simp only[aU,if_false,Option.isNone_none,dz,aQ,dQ];by_cases h0:g.form=0;.have Vt:=fg.lone Vc;rw[<-fg.riv,Vt,jo];simp only[h0,true_and];rfl
   .simp only[h0,false_and,if_false];rfl
theorem tz (fg:FG S mp d f g)(hS:Fg S)(hs:fy S f=some sub)(hd:deep<=8):pR S sub (deep+1)=decide (8<(deep:Int)+lw mp g)/\0<=lw mp g/\lw mp g<=2/\eI mp g=16:=by
 unfold lw;by_cases h4:g.form=4
 .have Vp:eI mp g=16:=by unfold eI;rw[dP h4]
  have hm:f.isMap=true:=by rw[fg.map,h4];rfl
  have Vu:sub=eP f:=(by unfold fy at hs;rw[dP hm]at hs;exact(Option.some.inj hs).sy);subst Vu
  have Vq:pR S (eP f) (deep+1)=if deep+1=8 then(S.msg f.ty).isSome else decide (8<deep+1):=by
   unfold pR eP;have e1:gN eS eS=true:=by unfold gN;simp
   simp only[e1,dA,dy];by_cases q:deep+1=8;.simp[q]
   .have q2:(deep+1 !=8)=true:=Ve;rw[q2,dP rfl,dO q]
  have Vr:jB mp g.f.ty=S.base f.ty:=by rw[fg.eq,fg.base]
  by_cases hn:S.base f.ty=16
  .have hl:(if g.form=4/\jB mp g.f.ty=16 then(2:Int)else if eI mp g=16 then 1 else 0)=2:=dP ⟨h4,by rw[Vr];exact hn⟩;rw[hl,Vq,fg.nest.1 hn];refine⟨?_,Vc,Vc,Vp⟩;split;.simp;omega
   .rw[decide_eq_decide];omega
  .have Vv:(S.msg f.ty).isSome=false:=by rw[cm];exact λq=>hn (fg.nest.2 q)
   have hl:(if g.form=4/\jB mp g.f.ty=16 then(2:Int)else if eI mp g=16 then 1 else 0)=1:=by rw[dO (λq=>hn (by rw[<-Vr];exact q.2)),dP Vp]
   rw[hl,Vq,Vv];refine⟨?_,Vc,Vc,Vp⟩;split;.simp;omega
   .rw[decide_eq_decide];omega
 .have hm:¬f.isMap=true:=by rw[fg.map];simp[h4]
  unfold fy at hs;rw[dO hm]at hs;have hb:S.base f.ty=16:=fg.nest.2 (by rw[hs];rfl);have Vp:eI mp g=16:=by unfold eI;rw[dO h4,fg.eq,fg.base,hb]
  rw[dO (λq=>h4 q.1),dP Vp];refine⟨?_,Vc,Vc,Vp⟩;unfold pR;rw[hS.name sub (jw hs)];simp;omega
def Lq (M:PM->PM)(e:Nat):Fx PM->Fx (PM×Nat)
 | .error x=> .error x
 | .ok sm=> .ok (M sm,e)
def yn (S:eD)(b:au)(F:Nat)(sub:MT)(m0:PM)(deep:Nat)(M:PM->PM):Fx (Nat×Nat)->Fx (PM×Nat)
 | .error x=> .error x
 | .ok y=>Lq M y.2 (eW S b F sub m0 y.1 y.2 (deep+1))
theorem Hr {F a e:Nat}(fg:FG S mp d f g)(hS:Fg S)(hs:fy S f=some sub)(hd:deep<=8):
  kx S b F d f m deep (fM (b.extract 0 e) a num 2 z)=yn S b F sub (eY f m).2.2 deep (λsm=>gX S d f m ((eY f m).1,(eY f m).2.1,sm)) (ol (b.extract 0 e) z deep (lw mp g)):=by
 have e2:fM (b.extract 0 e) a num 2 z=_:=ux (b.extract 0 e) a num z;rw[e2];unfold ol
 cases fk (b.extract 0 e) z with
 |error x=>rfl
 |ok y=>
  have⟨h1,_,_,h4⟩:=tz fg hS hs hd
  have hw:fV S f=2:=by
   unfold fV;split;.rfl
   .rename_i q;unfold fy at hs;rw[dO q]at hs;have:=fg.nest.2 (by rw[hs];rfl);unfold eD.wire;rw[this];rfl
  simp only[kx,zO];rw[dP hw.sy];unfold qo oo zK;rw[hs];simp only;rw[h1];by_cases q:8<(deep:Int)+lw mp g;.rw[dP q];simp[q,yn,Hf,pN]
  .rw[dO q];simp only[q,decide_false,aU,if_false,yn];cases eW S b F sub (eY f m).2.2 y.1 y.2 (deep+1)<;>rfl
theorem Kq.part {deep:Int}{r:Fx (Nat×Nat)}{e:Ending}{w':aw}(h:Kq w rb s deep r e w'):
  (∃x,r= .error x/\e=dY x.1 x.2/\ec [rb] w w')\/∃x nb,r= .ok x/\e= .returned (ah nb)/\ec [rb] w w'/\w.heap.size<=nb/\nb≠rb/\ee w' nb (s.extract 0 x.2) x.1 (deep+1)/\ee w' rb s x.2 deep:=by
 obtain⟨h1,h2⟩:=h
 cases r with
 |error x=>exact .inl ⟨x,rfl,h2,h1⟩
 |ok x=>
  obtain⟨nb,q1,q2,q3,q4,q5⟩:=h2;exact .inr ⟨x,nb,rfl,q1,h1,q2,q3,q4,q5⟩
theorem wO {deep lv:Int}{y:Nat×Nat}(h:ol s z deep lv= .ok y):fk s z= .ok y/\deep+lv<=8:=by
 unfold ol at h
 cases hw:fk s z with
 |error x=>rw[hw]at h;cases h
 |ok x=>
  rw[hw]at h;simp only at h;split at h;.cases h
  .cases h;exact⟨rfl,Vc⟩
end
end Go.Proofs.YtfebdimolnobaaaGreatDoor
