import Derived.Test.YtfebdimolnobaaaGreatDoorPmA
set_option maxRecDepth 100000
set_option maxHeartbeats 8000000
set_option linter.all false
namespace Go.Proofs.YtfebdimolnobaaaGreatDoor
open Go.RowKit Go.Proofs.Tryz
section
variable {n:Int} {a:Nat} {m:PM} {S:eD} {d:MT}
theorem nt (n:Int)(vs:List PV):∀(l:List PF) (done:Bool) (x:PF),x∈ic n vs done l->(x=(n,vs)/\done=false)\/x∈l
 | [],done,x,h=>by
  cases done;.simp[ic]at h;exact .inl ⟨h,rfl⟩
  .simp[ic]at h
 |y::l,done,x,h=>by
  rw[ic,aW,aW]at h;rcases h with h|h|h
  .by_cases q:(!done&&decide (n<=y.1))=true;.rw[dP q]at h;simp at h q;exact .inl ⟨h,q.1⟩
   .rw[dO q]at h;cases h
  .by_cases q:y.1=n;.rw[dP q]at h;cases h
   .rw[dO q]at h;simp at h;exact .inr (by simp[h])
  .rcases nt n vs l _ x h with⟨h1,h2⟩|h;.simp at h2;exact .inl ⟨h1,h2.1⟩
   .exact .inr (by simp[h])
theorem td (n:Int)(vs:List PV):∀(l:List PF) (done:Bool),(ic n vs done l).length<=l.length+(if done then 0 else 1)
 | [],done=>by cases done<;>simp[ic]
 |y::l,done=>by
  rw[ic,aN,aN];have h:=td n vs l (done||decide (n<=y.1));cases done;.by_cases q:n<=y.1<;>by_cases e:y.1=n<;>simp[q,e]at h⊢<;>omega
  .by_cases e:y.1=n<;>simp[e]at h⊢<;>omega
theorem nw {v:PV}:∀{l:List PF},v∈gR l n->∃x∈l,x.1=n/\x.2=gR l n
 | [],h=>by simp[gR]at h
 |x::l,h=>by
  by_cases q:x.1=n;.exact⟨x,Vd,q,by simp[gR,q]⟩
  .simp only[gR,q,if_false]at h⊢;have⟨y,h1,h2,h3⟩:=nw h;exact⟨y,by simp[h1],h2,h3⟩
theorem xK:∀{l:List PF},(∀x∈l,x.2.length<=a)->(gR l n).length<=a
 | [],_=>by simp[gR]
 |x::l,h=>by
  by_cases q:x.1=n;.simp only[gR,q,if_true];exact h x Vd
  .simp only[gR,q,if_false];exact xK (λy hy=>h y (by simp[hy]))
theorem tf (n:Int)(vs:List PV):∀(l:List PF),gR (ic n vs false l) n=vs
 | []=>by simp[ic,gR]
 |y::l=>by
  rw[ic];by_cases q:n<=y.1;.simp[q,gR]
  .have e:¬y.1=n:=Vc;simp[q,e,gR,tf n vs l]
theorem rQ (n n':Int)(vs:List PV)(hn:n'≠n):∀(l:List PF) (done:Bool),gR (ic n vs done l) n'=gR l n'
 | [],done=>by cases done<;>simp[ic,gR,Ne.sy hn]
 |y::l,done=>by
  rw[ic];have ih:=rQ n n' vs hn l (done||decide (n<=y.1));have Vs:¬n=n':=λe=>hn e.sy
  by_cases q:(!done&&decide (n<=y.1))=true
  .rw[dP q];by_cases e:y.1=n
   .have e2:¬y.1=n':=λx=>hn (by rw[<-x,e])
    simp only[e,if_true,bo,aX,gR,Vs,if_false];rw[e]at ih;rw[ih]
   .by_cases e2:y.1=n';.subst e2;simp only[e,if_false,bo,aX,gR,if_true,Vs]
    .simp only[e,if_false,bo,aX,gR,Vs,e2];exact ih
  .rw[dO q];by_cases e:y.1=n
   .have e2:¬y.1=n':=λx=>hn (by rw[<-x,e])
    simp only[e,if_true,aX,gR,Vs,if_false];rw[e]at ih;exact ih
   .by_cases e2:y.1=n';.subst e2;simp only[e,if_false,bo,aX,gR,if_true]
    .simp only[e,if_false,bo,aX,gR,e2];exact ih
theorem PM.get_put (m:PM)(n:Int)(vs:List PV)(h:vs≠ []):(m.put n vs).get n=vs:=by
 have he:vs.isEmpty=false:=by cases vs with
  |nil=>exact absurd rfl h
  |cons _ _=>rfl
 unfold PM.put PM.get;rw[he];exact tf n vs m.fs
theorem PM.get_put_ne (m:PM)(n n':Int)(vs:List PV)(h:n'≠n):(m.put n vs).get n'=m.get n':=rQ n n' vs h m.fs _
structure Ff (t:au)(v:PV):Prop where
 lo:0<=v.1
 hi:v.1<2^64
 sz:v.2.1.size<=268435456
 str:gN t lD=true->v.1=0
 num:gN t lD=false->v.2.1=eS
structure Tv (a:Nat)(t:au)(v:PV):Prop where
 key:∃rest,v.2.2.get 1=fQ v::rest
 ky:Ff t (fQ v)
 len:v.2.2.fs.length<=a+2
 m:v.1=0/\v.2.1=eS
structure Kz (S:eD)(t:au)(v:PV):Prop where
 lo:0<=v.1
 hi:v.1<2^64
 sz:v.2.1.size<=268435456
 m:v.2.2=PM.none
 txt:S.wire t=2->v.1=0
 num:S.wire t≠2->v.2.1=eS
inductive WM (S:eD)(a:Nat):MT->PM->Prop where
 |mk (d:MT) (fs:List PF) (u:au) (hl:fs.length<=a) (hu:u.size<=a) (hv:∀x∈fs,x.2.length<=a)
  (hm:∀x∈fs,∀f,d9 d.fs x.1=some f->f.isMap=true->∀v∈x.2,Tv a f.key v)
  (hz:∀x∈fs,∀f sub,d9 d.fs x.1=some f->f.isMap=false->fy S f=some sub->∀v∈x.2,v.1=0/\v.2.1=eS)
  (hs:∀x∈fs,∀f sub,d9 d.fs x.1=some f->f.isMap=false->fy S f=some sub->∀v∈x.2,WM S a sub v.2.2)
  (ht:∀x∈fs,∀f,d9 d.fs x.1=some f->fy S f=none->∀v∈x.2,Kz S f.ty v):WM S a d (.mk fs u)
theorem WM.len (h:WM S a d m):m.fs.length<=a/\m.unk.size<=a/\∀n,(m.get n).length<=a:=by
 cases h with
 |mk _ fs u hl hu hv _ _ _ _=>exact⟨hl,hu,λn=>xK hv⟩
theorem WM.V {a':Nat}(ha:a<=a')(h:WM S a d m):WM S a' d m:=by
 induction h with
 |mk d fs u hl hu hv hm hz hs ht ih=>
  exact .mk d fs u Vc Vc (λx hx=>aM (hv x hx) ha) (λx hx f hf hi v hv=>let q:=hm x hx f hf hi v hv;⟨q.key,q.ky,by have:=q.len;omega,q.m⟩)
   hz ih ht
theorem WM.none (S:eD)(a:Nat)(d:MT):WM S a d PM.none:=
 .mk d [] eS (aP _) (aP _) (λ_ h=>by cases h) (λ_ h=>by cases h) (λ_ h=>by cases h) (λ_ h=>by cases h) (λ_ h=>by cases h)
structure Tw (S:eD)(a:Nat)(d:MT)(n:Int)(vs:List PV):Prop where
 hv:vs.length<=a
 hm:∀f,d9 d.fs n=some f->f.isMap=true->∀v∈vs,Tv a f.key v
 hz:∀f sub,d9 d.fs n=some f->f.isMap=false->fy S f=some sub->∀v∈vs,v.1=0/\v.2.1=eS
 hs:∀f sub,d9 d.fs n=some f->f.isMap=false->fy S f=some sub->∀v∈vs,WM S a sub v.2.2
 ht:∀f,d9 d.fs n=some f->fy S f=none->∀v∈vs,Kz S f.ty v
theorem WM.put {a':Nat}(h:WM S a d m)(ha:a+1<=a'){vs:List PV}(hv:Tw S a' d n vs):WM S a' d (m.put n vs):=by
 have h2:=h.V (show a<=a' by omega);have hl:=h.len.1
 cases h2 with
 |mk _ fs u _ hu Vq hm hz hs ht=>
  refine .mk d _ u ?_ hu ?_ ?_ ?_ ?_ ?_;.have:=td n vs fs vs.isEmpty;have h3:(PM.mk fs u).fs.length<=a:=hl;simp only[PM.fs]at h3⊢;split at this<;>omega
  .intro x hx;rcases nt n vs fs _ x hx with⟨rfl,_⟩|hx;.exact hv.hv
   .exact Vq x hx
  .intro x hx;rcases nt n vs fs _ x hx with⟨rfl,_⟩|hx;.exact hv.hm
   .exact hm x hx
  .intro x hx;rcases nt n vs fs _ x hx with⟨rfl,_⟩|hx;.exact hv.hz
   .exact hz x hx
  .intro x hx;rcases nt n vs fs _ x hx with⟨rfl,_⟩|hx;.exact hv.hs
   .exact hs x hx
  .intro x hx;rcases nt n vs fs _ x hx with⟨rfl,_⟩|hx;.exact hv.ht
   .exact ht x hx
theorem WM.drop (h:WM S a d m)(n:Int):WM S a d (m.put n []):=by
 cases h with
 |mk _ fs u hl hu Vq hm hz hs ht=>
  have Vp:∀x,x∈ic n [] true fs->x∈fs:=λx hx=>(nt n [] fs true x hx).resolve_left (λq=>by cases q.2)
  refine .mk d _ u ?_ hu (λx hx=>Vq x (Vp x hx)) (λx hx=>hm x (Vp x hx)) (λx hx=>hz x (Vp x hx)) (λx hx=>hs x (Vp x hx)) (λx hx=>ht x (Vp x hx));have:=td n [] fs true;simp only[PM.fs,List.isEmpty_nil]at this⊢;simp at this;omega
theorem WM.O {a':Nat}(h:WM S a d m)(s:au)(hs:a+s.size<=a'):WM S a' d (m.O s):=by
 have hl:=h.len.2.1;have h2:=h.V (show a<=a' by omega)
 cases h2 with
 |mk _ fs u h1 hu Vq hm hz Vr ht=>
  refine .mk d fs _ h1 ?_ Vq hm hz Vr ht;simp only[PM.unk]at hl⊢;rw[bH];omega
theorem WM.vals (h:WM S a d m)(n:Int):Tw S a d n (m.get n):=by
 cases h with
 |mk _ fs u hl hu Vq hm hz hs ht=>
  refine⟨xK Vq,?_,?_,?_,?_⟩;.intro f hf hi v hv;have⟨x,h1,h2,h3⟩:=nw hv;exact hm x h1 f (by rw[h2];exact hf) hi v (by rw[h3];exact hv)
  .intro f sub hf hi Vr v hv;have⟨x,h1,h2,h3⟩:=nw hv;exact hz x h1 f sub (by rw[h2];exact hf) hi Vr v (by rw[h3];exact hv)
  .intro f sub hf hi Vr v hv;have⟨x,h1,h2,h3⟩:=nw hv;exact hs x h1 f sub (by rw[h2];exact hf) hi Vr v (by rw[h3];exact hv)
  .intro f hf Vr v hv;have⟨x,h1,h2,h3⟩:=nw hv;exact ht x h1 f (by rw[h2];exact hf) Vr v (by rw[h3];exact hv)
theorem WM.dropF (f:fo):∀(l:List fo) {m:PM},WM S a d m->WM S a d (iU f l m)
 | [],_,h=>h
 |o::l,m,h=>by
  rw[Go.Proofs.YtfebdimolnobaaaGreatDoor.iU];refine WM.dropF f l ?_;split;.exact h.drop _
  .exact h
end
def je {b:au}{a e:Nat}{r:pK}(h:fN b a e= .ok r):r.a=a/\a<r.fr/\a+2<=r.e/\r.fr<=r.e/\r.e<=e/\0<=r.n/\r.n<2^64/\1<=r.num/\r.num<=536870911:=by
 unfold fN at h
 cases h1:iT b a e with
 |error x=>rw[h1]at h;cases h
 |ok x=>
  obtain⟨t,fr⟩:=x;rw[h1]at h;have⟨v1,v2,v3,v4⟩:=jj h1;simp only at h;by_cases q:t/8<1\/536870911<t/8;.rw[dP q]at h;cases h
  .rw[dO q]at h;by_cases k0:t%8=0
   .rw[dP k0]at h
    cases h2:iT b fr e with
    |error x=>rw[h2]at h;cases h
    |ok x=>
     obtain⟨n,en⟩:=x;rw[h2]at h;have⟨u1,u2,u3,u4⟩:=jj h2;simp only[Except.ok.injEq]at h;subst h;refine⟨rfl,?_,?_,?_,?_,u1,u2,?_,?_⟩<;>simp only<;>omega
   .rw[dO k0]at h;have Vw:∀(k:Nat),k<=8->0<=xB (b.extract fr (fr+k))/\xB (b.extract fr (fr+k))<2^64:=λk hk=>uw (by rw[bg];omega)
    by_cases k1:t%8=1
    .rw[dP k1]at h;by_cases z:fr+8<=e;.rw[dP z]at h;simp only[Except.ok.injEq]at h;subst h;refine⟨rfl,?_,?_,?_,?_,(Vw 8 Vc).1,(Vw 8 Vc).2,?_,?_⟩<;>simp only<;>omega
     .rw[dO z]at h;cases h
    .rw[dO k1]at h;by_cases k5:t%8=5
     .rw[dP k5]at h;by_cases z:fr+4<=e;.rw[dP z]at h;simp only[Except.ok.injEq]at h;subst h;refine⟨rfl,?_,?_,?_,?_,(Vw 4 Vc).1,(Vw 4 Vc).2,?_,?_⟩<;>simp only<;>omega
      .rw[dO z]at h;cases h
     .rw[dO k5]at h;by_cases k2:t%8=2
      .rw[dP k2]at h
       cases h2:iT b fr e with
       |error x=>rw[h2]at h;cases h
       |ok x=>
        obtain⟨n,bh⟩:=x;rw[h2]at h;have⟨u1,u2,u3,u4⟩:=jj h2;simp only at h;by_cases z:(bh:Int)+n<=e;.rw[dP z]at h;simp only[Except.ok.injEq]at h;subst h;refine⟨rfl,?_,?_,?_,?_,Vd,Vd,?_,?_⟩<;>simp only<;>omega
        .rw[dO z]at h;cases h
      .rw[dO k2]at h;cases h
def Fu (n:Int):0<=mN n/\mN n<2^64:=by unfold mN;split<;>omega
def Av {n:Int}(h0:0<=n)(h1:n<2^64):0<=Dg n/\Dg n<2^64:=by unfold Dg;split<;>omega
def iZ {k:Nat}{n:Int}(h0:0<=n)(h1:n<2^64):0<=lC k n/\lC k n<2^64:=by
 unfold lC;split;.exact Fu n
 .split;.omega
  .split;.exact Av Vc Vc
   .split;.exact Av h0 h1
    .split;.split<;>omega
     .exact⟨h0,h1⟩
def fA:∀{l:List fo} {n:Int} {f:fo},d9 l n=some f->f.num=n/\f∈l
 | [],_,_,h=>by cases h
 |x::l,n,f,h=>by
  rw[d9]at h;by_cases q:x.num=n;.rw[dP q]at h;cases h;exact⟨q,Vd⟩
  .rw[dO q]at h;have⟨h1,h2⟩:=fA h;exact⟨h1,by simp[h2]⟩
def jw:∀{l:List MT} {s:au} {d:MT},lr l s=some d->d∈l
 | [],_,_,h=>by cases h
 |x::l,s,d,h=>by
  rw[lr]at h;by_cases q:gN x.name s=true;.rw[dP q]at h;cases h;simp
  .rw[dO q]at h;simp[jw h]
structure QD (S:eD)(t:au):Prop where
 no:S.msg t=none
 w1:S.wire t=2->gN t lD=true
 w2:gN t lD=true->S.wire t=2
structure Aw (S:eD):Prop where
 wire:∀t,(S.msg t).isSome=true->S.wire t=2
 key:∀d∈S.ms,∀f∈d.fs,f.isMap=true->QD S f.key
def mg (S:eD)(d:MT):Prop:=∀f∈d.fs,f.isMap=true->QD S f.key
def BO:gN lK xA=false:=by
 unfold gN;rw[ByteArray.toList_eq,ByteArray.toList_eq];decide
def Aw.sub {S:eD}(hS:Aw S){f:fo}{sub:MT}(h:fy S f=some sub):mg S sub:=by
 unfold fy at h;by_cases q:f.isMap=true
 .rw[dP q]at h;cases h;intro g hg hm;have e:∀(x y z:au) (n:Int),fo.isMap ⟨x,y,z,lK,n⟩=false:=λ_ _ _ _=>BO
  simp only[eP,aS,bX,or_false]at hg;rcases hg with rfl|rfl;.rw[e]at hm;cases hm
  .rw[e]at hm;cases hm
 .rw[dO q]at h;exact λg hg hm=>hS.key sub (jw h) g hg hm
def Kz.none (S:eD)(t:au):Kz S t PV.none:=⟨Vf,Vf,Vf,rfl,λ_=>rfl,λ_=>rfl⟩
def He {S:eD}{b:au}{f:fo}{r:pK}{v:PV}(h:og S b f r= .ok v)(hk:r.kind=S.wire f.ty)(hb:b.size<=268435456)(h0:0<=r.n)(h1:r.n<2^64):Kz S f.ty v:=by
 unfold og at h;by_cases k:r.kind=2
 .rw[dP k]at h;split at h;.cases h
  .cases h;exact⟨Vd,Vd,by simp only[bg];omega,rfl,λ_=>rfl,λq=>absurd (hk.sy.J k) q⟩
 .rw[dO k]at h;cases h;exact⟨(iZ h0 h1).1,(iZ h0 h1).2,aP _,rfl,λq=>absurd (hk.J q) k,λ_=>rfl⟩
def th {b:au}{k e:Nat}{P:PV->Prop}(hP:∀n:Int,0<=n->n<2^64->P (lC k n,eS,PM.none)):∀(F:Nat) (l:List PV) (a:Nat) (l':List PV),fW b k e F l a= .ok l'->a<=e->l.length<=a->(∀v∈l,P v)->l'.length<=e/\∀v∈l',P v
 |0,l,a,l',h,ha,hl,hp=>by
  rw[fW]at h;cases h
  exact⟨Vc,hp⟩
 |F+1,l,a,l',h,ha,hl,hp=>by
  rw[fW]at h
  have Vy:∀n:Int,0<=n->n<2^64->∀v∈l++ [(lC k n,eS,PM.none)],P v:=λn h0 h1 v hv=>by
   simp only[aW,ba]at hv;rcases hv with hv|rfl;.exact hp v hv
   .exact hP n h0 h1
  by_cases q:a<e
  .rw[dP q]at h;by_cases z:eJ k=0
   .rw[dP z]at h
    cases h2:iT b a e with
    |error x=>rw[h2]at h;cases h
    |ok x=>
     obtain⟨n,y⟩:=x;rw[h2]at h;have⟨u1,u2,u3,u4⟩:=jj h2;exact th hP F _ y l' h u4 Ve (Vy n u1 u2)
   .rw[dO z]at h;simp only at h;generalize hy:(if eJ k=5 then 4 else 8)=y at h;have hy8:1<=y/\y<=8:=(by split at hy<;>omega);by_cases z2:a+y<=e;.rw[dP z2]at h;have hr:=uw (s:=b.extract a (a+y)) (by rw[bg];omega);exact th hP F _ (a+y) l' h z2 Ve (Vy _ hr.1 hr.2)
    .rw[dO z2]at h;cases h
  .rw[dO q]at h;cases h;exact⟨Vc,hp⟩
def xL (t:au)(v:PV):∀(l:List PV) (done:Bool) (x:PV),x∈gz t v done l->x=v\/x∈l
 | [],done,x,h=>by
  cases done;.simp[gz]at h;exact .inl h
  .simp[gz]at h
 |y::l,done,x,h=>by
  rw[gz,aW,aW]at h;rcases h with h|h|h
  .split at h;.simp at h;exact .inl h
   .cases h
  .split at h;.cases h
   .simp at h;exact .inr (by simp[h])
  .rcases xL t v l _ x h with h|h;.exact .inl h
   .exact .inr (by simp[h])
def xM (t:au)(v:PV):∀(l:List PV) (done:Bool),(gz t v done l).length<=l.length+(if done then 0 else 1)
 | [],done=>by cases done<;>simp[gz]
 |y::l,done=>by
  rw[gz,aN,aN];generalize hq:(kN t (fQ v) (fQ y)||iC (fQ v) (fQ y))=q;have h:=xM t v l (done||q);cases done<;>cases q<;>cases iC (fQ v) (fQ y)<;>simp at h⊢<;>omega
def PM.put_len (m:PM)(n:Int)(vs:List PV):(m.put n vs).fs.length<=m.fs.length+1:=by
 have:=td n vs m.fs vs.isEmpty;show(ic n vs vs.isEmpty m.fs).length<=_;split at this<;>omega
def BP {S:eD}{a:Nat}{f:fo}{sm:PM}(hk:QD S f.key)(h:WM S a (eP f) sm):Tv a f.key (0,eS,gA sm):=by
 have hl:=h.len.1
 have h1:=(h.vals 1).ht ⟨oe,f.key,eS,lK,1⟩ (by simp[eP,d9]) (by
  unfold fy;rw[dO (by show¬gN lK xA=true;rw[BO];decide)]
  exact hk.no)
 have hg:(gA sm).get 1=(if(sm.get 1).isEmpty then [PV.none]else sm.get 1):=by
  show(fT (fT sm 1) 2).get 1=_
  have e2:∀m:PM,(fT m 2).get 1=m.get 1:=λm=>by
   unfold fT;split;.exact PM.get_put_ne m 2 1 _ Vf
   .rfl
  rw[e2];unfold fT;split;.exact PM.get_put sm 1 [PV.none] Vd
  .rfl
 have VD:∃x rest,(gA sm).get 1=x::rest/\Kz S f.key x:=by
  rw[hg]
  cases he:sm.get 1 with
  |nil=>exact⟨PV.none,[],rfl,Kz.none S _⟩
  |cons x rest=>exact⟨x,rest,rfl,h1 x (by rw[he];simp)⟩
 obtain⟨x,rest,e1,hx⟩:=VD;have Vz:fQ (0,eS,gA sm)=x:=(by show((gA sm).get 1).headD PV.none=x;rw[e1];rfl);refine⟨⟨rest,by rw[Vz];exact e1⟩,?_,?_,rfl,rfl⟩;.rw[Vz];refine⟨hx.lo,hx.hi,hx.sz,λq=>hx.txt (hk.w2 q),λq=>hx.num (λz=> ?_)⟩;rw[hk.w1 z]at q;cases q
 .show(fT (fT sm 1) 2).fs.length<=a+2
  have e:∀(m:PM) (n:Int),(fT m n).fs.length<=m.fs.length+1:=λm n=>by
   unfold fT;split;.exact PM.put_len m n _
   .omega
  have:=e sm 1;have:=e (fT sm 1) 2;omega
def mW {S:eD}{a:Nat}{d:MT}{m:PM}{n:Int}{f:fo}{sub:MT}(h:WM S a d m)(hf:d9 d.fs n=some f)(hs:fy S f=some sub):((eY f m).1=0/\(eY f m).2.1=eS)/\WM S a sub (eY f m).2.2:=by
 have hn:=(fA hf).1;unfold eY;by_cases q:(f.isRep||f.isMap)=true;.rw[dP q];exact⟨⟨rfl,rfl⟩,WM.none S a sub⟩
 .rw[dO q]
  have hm:f.isMap=false:=by
   cases hh:f.isMap with
   |false=>rfl
   |true=>rw[hh,dF]at q;exact absurd rfl q
  rw[hn]
  cases hg:m.get n with
  |nil=>exact⟨⟨rfl,rfl⟩,WM.none S a sub⟩
  |cons x rest=>
   have hx:x∈m.get n:=by rw[hg];simp
   exact⟨(h.vals n).hz f sub hf hm hs x hx,(h.vals n).hs f sub hf hm hs x hx⟩
def xN {S:eD}{a a':Nat}{d:MT}{m sm:PM}{n:Int}{f:fo}{sub:MT}(hd:mg S d)(h:WM S a d m)(hf:d9 d.fs n=some f)(hs:fy S f=some sub)(ha:a+1<=a')(Vv:WM S a' sub sm):
  WM S a' d (gX S d f m ((eY f m).1,(eY f m).2.1,sm)):=by
 have⟨hn,VC⟩:=fA hf;have⟨⟨s1,s2⟩,_⟩:=mW h hf hs;have hlen:=h.len.2.2 n;unfold gX;rw[hn,s1,s2];have Vp:∀g,d9 d.fs n=some g->g=f:=λg hg=>by rw[hf]at hg;exact(Option.some.inj hg).sy
 have hold:=h.vals n;by_cases q:f.isMap=true
 .rw[dP q];have Vx:sub=eP f:=(by unfold fy at hs;rw[dP q]at hs;exact(Option.some.inj hs).sy);subst Vx;refine h.put ha ⟨?_,λg hg _ v hv=> ?_,λg Vq hg hm _=> ?_,λg Vq hg hm _=> ?_,λg hg Vu=> ?_⟩;.have:=xM f.key (0,eS,gA sm) (m.get n) false;show(gz f.key (0,eS,gA sm) false (m.get n)).length<=a';simp at this;omega
  .rw[Vp g hg];rcases xL _ _ _ _ _ hv with rfl|hv;.exact BP (hd f VC q) Vv
   .have:=hold.hm f hf q v hv;exact⟨this.key,this.ky,by have:=this.len;omega,this.m⟩
  .rw[Vp g hg,q]at hm;cases hm
  .rw[Vp g hg,q]at hm;cases hm
  .rw[Vp g hg,hs]at Vu;cases Vu
 .rw[dO q]
  have Vs:f.isMap=false:=by
   cases hh:f.isMap with
   |false=>rfl
   |true=>exact absurd hh q
  by_cases r:f.isRep=true
  .rw[dP r];refine h.put ha ⟨Ve,λg hg hm=> ?_,λg Vq hg _ Vr v hv=> ?_,λg Vq hg _ Vr v hv=> ?_,λg hg Vu=> ?_⟩;.rw[Vp g hg,Vs]at hm;cases hm
   .rw[Vp g hg]at Vr;simp only[aW,ba]at hv;rcases hv with hv|rfl;.exact hold.hz f Vq hf Vs Vr v hv
    .exact⟨rfl,rfl⟩
   .rw[Vp g hg,hs]at Vr;cases Vr;simp only[aW,ba]at hv;rcases hv with hv|rfl;.exact(hold.hs f sub hf Vs hs v hv).V Vc
    .exact Vv
   .rw[Vp g hg,hs]at Vu;cases Vu
  .rw[dO r,dO (by rw[hs];simp)];refine(h.dropF f d.fs).put ha ⟨Ve,λg hg hm=> ?_,λg Vq hg _ Vr v hv=> ?_,λg Vq hg _ Vr v hv=> ?_,λg hg Vu=> ?_⟩;.rw[Vp g hg,Vs]at hm;cases hm
   .simp only[ba]at hv;subst hv;exact⟨rfl,rfl⟩
   .rw[Vp g hg,hs]at Vr;cases Vr;simp only[ba]at hv;subst hv;exact Vv
   .rw[Vp g hg,hs]at Vu;cases Vu
def wI {S:eD}{a:Nat}{d:MT}{n:Int}{f:fo}{vs:List PV}(hf:d9 d.fs n=some f)(hs:fy S f=none)(hl:vs.length<=a)(hv:∀v∈vs,Kz S f.ty v):Tw S a d n vs:=by
 have Vp:∀g,d9 d.fs n=some g->g=f:=λg hg=>by rw[hf]at hg;exact(Option.some.inj hg).sy
 refine⟨hl,λg hg hm=> ?_,λg Vq hg _ Vr=> ?_,λg Vq hg _ Vr=> ?_,λg hg _ v hx=> ?_⟩;.rw[Vp g hg]at hm;unfold fy at hs;rw[dP hm]at hs;cases hs
 .rw[Vp g hg,hs]at Vr;cases Vr
 .rw[Vp g hg,hs]at Vr;cases Vr
 .rw[Vp g hg];exact hv v hx
def xO {S:eD}{a a':Nat}{d:MT}{m:PM}{n:Int}{f:fo}{v:PV}(h:WM S a d m)(hf:d9 d.fs n=some f)(hs:fy S f=none)(ha:a+1<=a')(hv:Kz S f.ty v):WM S a' d (gX S d f m v):=by
 have⟨hn,VC⟩:=fA hf;have hlen:=h.len.2.2 n;unfold gX;rw[hn]
 have Vs:¬f.isMap=true:=λq=>by
  unfold fy at hs;rw[dP q]at hs;cases hs
 rw[dO Vs];split
 .refine h.put ha (wI hf hs Ve λx hx=> ?_);simp only[aW,ba]at hx;rcases hx with hx|rfl;.exact(h.vals n).ht f hf hs x hx
  .exact hv
 .split;.exact(h.drop n).V Vc
  .refine(h.dropF f d.fs).put ha (wI hf hs Ve λx hx=> ?_);simp only[ba]at hx;subst hx;exact hv
def lx {S:eD}{b:au}(hS:Aw S)(hb:b.size<=268435456):∀(F:Nat) (d:MT) (m:PM) (a e deep:Nat) (m':PM),eW S b F d m a e deep= .ok m'->mg S d->a<=e->e<=b.size->WM S a d m->WM S e d m'
 |0,d,m,a,e,deep,m',h,_,ha,_,hw=>by
  rw[eW]at h;cases h
  exact hw.V ha
 |F+1,d,m,a,e,deep,m',h,hd,ha,he,hw=>by
  rw[eW]at h;by_cases q:a<e
  .rw[dP q]at h
   cases hr:fN b a e with
   |error x=>rw[hr]at h;cases h
   |ok r=>
    rw[hr]at h;have⟨r1,r2,r3,r4,r5,r6,r7,_,_⟩:=je hr;have Vt:WM S r.e d (m.O (b.extract r.a r.e)):=hw.O _ (by rw[bg];omega);simp only at h
    cases hf:d9 d.fs r.num with
    |none=>
     rw[hf]at h
     exact lx hS hb F d _ r.e e deep m' h hd r5 he Vt
    |some f=>
     rw[hf]at h;simp only at h;by_cases k:r.kind=fV S f
     .rw[dP k]at h
      cases hs:fy S f with
      |some sub=>
       rw[hs]at h;simp only at h;by_cases hfar:pR S sub (deep+1)=true;.rw[dP hfar]at h;cases h
       .rw[dO hfar]at h
        cases hl:eW S b F sub (eY f m).2.2 r.fr r.e (deep+1)with
        |error x=>rw[hl]at h;cases h
        |ok sm=>
         rw[hl]at h;have Vv:=lx hS hb F sub _ r.fr r.e (deep+1) sm hl (hS.sub hs) r4 Vc ((mW hw hf hs).2.V Vc)
         exact lx hS hb F d _ r.e e deep m' h hd r5 he (xN hd hw hf hs Vc Vv)
      |none=>
       rw[hs]at h;simp only at h
       cases hv:og S b f r with
       |error x=>rw[hv]at h;cases h
       |ok v=>
        rw[hv]at h;have hk:r.kind=S.wire f.ty:=(by rw[k];unfold fV;rw[dO (λq=>by unfold fy at hs;rw[dP q]at hs;cases hs)]);exact lx hS hb F d _ r.e e deep m' h hd r5 he (xO hw hf hs Vc (He hv hk hb r6 r7))
     .rw[dO k]at h;by_cases k2:r.kind=2/\f.isRep=true
      .rw[dP k2]at h
       cases hp:mI S b f (m.get f.num) r.fr r.e with
       |error x=>rw[hp]at h;cases h
       |ok l=>
        rw[hp]at h;have Vs:¬f.isMap=true:=λq=>k (by unfold fV;rw[dP q];exact k2.1)
        have VA:S.wire f.ty≠2:=λq=>k (by unfold fV;rw[dO Vs,q];exact k2.1)
        have hs:fy S f=none:=by
         unfold fy;rw[dO Vs]
         cases hm:S.msg f.ty with
         |none=>rfl
         |some x=>exact absurd (hS.wire f.ty (by rw[hm];rfl)) VA
        have hn:=(fA hf).1;rw[hn]at hp h;have VB:=th (P:=Kz S f.ty) (λn h0 h1=>⟨(iZ h0 h1).1,(iZ h0 h1).2,aP _,rfl,λq=>absurd q VA,λ_=>rfl⟩) _ _ _ _ hp r4 (by have:=hw.len.2.2 r.num;omega) ((hw.vals r.num).ht f hf hs);exact lx hS hb F d _ r.e e deep m' h hd r5 he (hw.put Vc (wI hf hs VB.1 VB.2))
      .rw[dO k2]at h;exact lx hS hb F d _ r.e e deep m' h hd r5 he Vt
  .rw[dO q]at h;cases h;exact hw.V ha
section
variable {a:aC} {w w':aw} {n c k:Nat} {m:PM} {P:Value->PM->Prop} {Z:ax} {vv v:Value} {l:List PV}
theorem Ja (a:Addr):a.add 0=a:=by unfold Addr.add;simp
theorem lI {a:Addr}{j:Nat}{x:Option Value}(h:w.cell? (a.add (n+(j+1)))=x):w.cell? (aj ((a.add n).block) ((a.add n).off+(j+1)))=x:=by
 rw[show((aj ((a.add n).block) ((a.add n).off+(j+1))):Addr)=a.add (n+(j+1))by unfold Addr.add;by_cases h:n=0<;>simp[h,de]];exact h
def ix (w:aw)(Z:ax)(v:Value)(n:Nat)(xs:ay):Prop:=
 ∃a c,v= .slice a n c/\n<=c/\(0<n->∃ad:Addr,a=some ad/\Z ad.block/\ad.block<w.heap.size/\∀w':aw,w'.heap[ad.block]?=w.heap[ad.block]?->∀p u,xs[p]?=some u->w'.cell? (ad.add p)=some u)
section
variable {w w':aw} {Z Y:ax} {v:Value} {n:Nat} {xs:ay}
theorem ix.form (h:ix w Z v n xs):∃a c,v= .slice a n c:=by
 obtain⟨a,c,h,_⟩:=h;exact⟨a,c,h⟩
theorem ix.cap (h:ix w Z (.slice a n c) n xs):n<=c:=by
 obtain⟨a',c',h,h2,_⟩:=h;cases h;exact h2
theorem ix.at {m:Nat}(h:ix w Z (.slice a m c) n xs)(hn:0<n):∃ad:Addr,a=some ad/\Z ad.block/\ad.block<w.heap.size/\∀w':aw,w'.heap[ad.block]?=w.heap[ad.block]?->∀p u,xs[p]?=some u->w'.cell? (ad.add p)=some u:=by
 obtain⟨a',c',h,_,h3⟩:=h;cases h;exact h3 hn
theorem ix.O (h:ix w Z v n xs)(hk:∀b,Z b->b<w.heap.size->w'.heap[b]?=w.heap[b]?):ix w' Z v n xs:=by
 obtain⟨a,c,h1,h2,h3⟩:=h;refine⟨a,c,h1,h2,λhn=> ?_⟩;have⟨ad,q1,q2,q3,q4⟩:=h3 hn;have e:=hk _ q2 q3;refine⟨ad,q1,q2,?_,λw2 h2=>q4 w2 (h2.J e)⟩;rw[bU q3]at e;exact(bI.1 e).1
theorem ix.V (h:ix w Z v n xs)(hz:∀b,Z b->b<w.heap.size->Y b):ix w Y v n xs:=by
 obtain⟨a,c,h1,h2,h3⟩:=h;refine⟨a,c,h1,h2,λhn=> ?_⟩;have⟨ad,q1,q2,q3,q4⟩:=h3 hn;exact⟨ad,q1,hz _ q2 q3,q3,q4⟩
theorem eO.rd {T:TypeId}(h:eO w Z T k v n xs):ix w Z v n xs:=by
 obtain⟨a,c,rfl⟩:=iz h.1;refine⟨a,c,rfl,?_,λhn=> ?_⟩
 .rcases h.1.2 with⟨h1,h2⟩|⟨g,cap,cur,h1,h2,h3,h4,h5,h6,h7⟩;.cases h1;omega
  .cases h1;omega
 .obtain⟨g,rfl,_,Vq,hc⟩:=eH h.1 hn;refine⟨(aj g 0),rfl,h.2 g rfl,Vq,λw' hw p u hp=> ?_⟩;have:=hc w' hw p u hp
  rwa [show((aj g 0):Addr).add p=(aj g p)by unfold Addr.add;by_cases h:p=0<;>simp[h]]
end
def pO (P:Value->PM->Prop)(w:aw)(Z:ax)(vv:Value)(l:List PV):Prop:=∃Vp,ix w Z vv l.length Vp/\kB P Vp l
def tE (P:Value->PM->Prop)(w:aw)(Z:ax):ay->List PF->Prop
 |cs,[]=>cs= []
 |cs,f::fs=>∃vv rest,cs=aa f.1::vv::rest/\pO P w Z vv f.2/\tE P w Z rest fs
def gP:Nat->aw->(ax)->Value->PM->Prop
 |0,_,_,_,_=>False
 |k+1,w,Z,v,m=>∃cs,ix w Z v m.fs.length cs/\tE (gP k w Z) w Z cs m.fs
theorem pO.O {Q:Value->PM->Prop}(hP:∀v m,P v m->Q v m)(hk:∀b,Z b->b<w.heap.size->w'.heap[b]?=w.heap[b]?)(h:pO P w Z vv l):pO Q w' Z vv l:=by
 obtain⟨Vp,h1,h2⟩:=h;exact⟨Vp,h1.O hk,h2.imp hP⟩
theorem tE.O {Q:Value->PM->Prop}(hP:∀v m,P v m->Q v m)(hk:∀b,Z b->b<w.heap.size->w'.heap[b]?=w.heap[b]?):∀{fs:List PF} {cs:ay},tE P w Z cs fs->tE Q w' Z cs fs
 | [],_,h=>h
 |_::_,_,⟨vv,rest,h1,h2,h3⟩=>⟨vv,rest,h1,h2.O hP hk,tE.O hP hk h3⟩
theorem gP.O (hk:∀b,Z b->b<w.heap.size->w'.heap[b]?=w.heap[b]?):∀{k:Nat} {v:Value} {m:PM},gP k w Z v m->gP k w' Z v m
 |0,_,_,h=>h
 |_+1,_,_,⟨cs,h1,h2⟩=>⟨cs,h1.O hk,h2.O (λ_ _ h=>gP.O hk h) hk⟩
theorem gP.G (hb:Below n w w')(hn:w.heap.size<=n)(h:gP k w Z v m):gP k w' Z v m:=
 h.O (λb _ hl=>hb.block b (aI hl hn))
theorem pO.G (hb:Below n w w')(hn:w.heap.size<=n)(h:pO (gP k w Z) w Z v l):pO (gP k w' Z) w' Z v l:=
 h.O (λ_ _ h=>h.G hb hn) (λb _ hl=>hb.block b (aI hl hn))
theorem tE.G (hb:Below n w w')(hn:w.heap.size<=n){cs:ay}{l:List PF}(h:tE (gP k w Z) w Z cs l):tE (gP k w' Z) w' Z cs l:=
 h.O (λ_ _ h=>h.G hb hn) (λb _ hl=>hb.block b (aI hl hn))
theorem tE.V {Q:Value->PM->Prop}{Y:ax}(hP:∀v m,P v m->Q v m)(hz:∀b,Z b->b<w.heap.size->Y b):∀{fs:List PF} {cs:ay},tE P w Z cs fs->tE Q w Y cs fs
 | [],_,h=>h
 |_::_,_,⟨vv,rest,h1,⟨Vp,h2,h4⟩,h3⟩=>⟨vv,rest,h1,⟨Vp,h2.V hz,h4.imp hP⟩,tE.V hP hz h3⟩
theorem gP.V {Y:ax}(hz:∀b,Z b->b<w.heap.size->Y b):∀{k:Nat} {v:Value} {m:PM},gP k w Z v m->gP k w Y v m
 |0,_,_,h=>h
 |_+1,_,_,⟨cs,h1,h2⟩=>⟨cs,h1.V hz,h2.V (λ_ _ h=>gP.V hz h) hz⟩
theorem tE.get:∀{l:List PF} {cs:ay},tE P w Z cs l->∀{i:Nat} {f:PF},l[i]?=some f->
  ∃vv,pO P w Z vv f.2/\cs[i*2]?=some (aa f.1)/\cs[i*2+1]?=some vv
 | [],_,_,i,v,h=>by simp at h
 |x::l,_,⟨vv,rest,h1,h2,h3⟩,0,v,h=>by
  subst h1;simp at h;subst h
  exact⟨vv,h2,rfl,rfl⟩
 |x::l,_,⟨vv,rest,h1,h2,h3⟩,i+1,v,h=>by
  subst h1;have⟨vv,q1,q2,q3⟩:=tE.get h3 (i:=i) (f:=v) (by simpa using h);exact⟨vv,q1,by rw[show(i+1)*2=i*2+1+1 by omega];simpa using q2,by rw[show(i+1)*2+1=i*2+1+1+1 by omega];simpa using q3⟩
theorem pO.form (h:pO P w Z vv l):∃a c,vv= .slice a l.length c:=by
 obtain⟨Vp,h1,_⟩:=h;exact h1.form
theorem gP.form (h:gP k w Z v m):∃a c,v= .slice a m.fs.length c:=by
 cases k with
 |zero=>exact h.elim
 |succ k=>
  obtain⟨cs,h1,_⟩:=h;exact h1.form
theorem mz.rn {Q:Value->PM->Prop}(hP:∀v m,P v m->Q v m):∀{fs:List PF} {cs:ay},mz P w Z cs fs->tE Q w Z cs fs
 | [],_,h=>h
 |_::_,_,⟨vv,rest,h1,⟨Vp,h2,h4⟩,h3⟩=>⟨vv,rest,h1,⟨Vp,h2.rd,h4.imp hP⟩,mz.rn hP h3⟩
theorem qY.rn:∀{k:Nat} {v:Value} {m:PM},qY k w Z v m->gP k w Z v m
 |0,_,_,h=>h
 |_+1,_,_,⟨cs,h1,h2⟩=>⟨cs,h1.rd,h2.rn (λ_ _ h=>qY.rn h)⟩
end
end Go.Proofs.YtfebdimolnobaaaGreatDoor
