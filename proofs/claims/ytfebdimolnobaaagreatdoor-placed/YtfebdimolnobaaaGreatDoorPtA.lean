import Derived.Test.YtfebdimolnobaaaGreatDoorU8A
import Derived.Test.YtfebdimolnobaaaGreatDoorWkB
import Derived.Shelf.Spec.SlicesInsert
import Derived.Lib.AppendZerosOnto
set_option maxRecDepth 100000
set_option maxHeartbeats 8000000
set_option linter.all false
namespace Go.Proofs.YtfebdimolnobaaaGreatDoor
open Go.RowKit
def AJ (S:dG)(b:am)(F:Nat)(d:MT)(m:PM)(a e deep:Nat):Fx PM:=
 if sO S d deep then .error (11,(a:Int))else dQ S b F d m a e deep
def rO (S:dG)(b:am)(F:Nat)(f:ek)(m:PM)(r:rK)(deep:Nat):Fx PV:=
 match ed S f with
 |some sub=>
  match AJ S b F sub (eA f m).2.2 r.fr r.e (deep+1)with
  | .error x=> .error x
  | .ok sm=> .ok ((eA f m).1,(eA f m).2.1,sm)
 |none=>pJ S b f r
def Cd (S:dG)(d:MT)(f:ek)(m:PM):Fx PV->Fx PM
 | .error x=> .error x
 | .ok v=> .ok (iw S d f m v)
def rP (S:dG)(b:am)(F:Nat)(d:MT)(f:ek)(m:PM)(r:rK)(deep:Nat):Fx PM:=Cd S d f m (rO S b F f m r deep)
section
variable {S:dG} {b:am} {F a e deep:Nat} {d:MT} {m:PM}
theorem j7 (h:¬a<e):dQ S b F d m a e deep= .ok m:=by
 cases F with
 |zero=>rfl
 |succ F=>rw[dQ,if_neg h]
theorem io (h:a<e){x:Int×Int}(hr:fF b a e= .error x):dQ S b (F+1) d m a e deep= .error x:=by
 rw[dQ,if_pos h,hr]
def EQ (S:dG)(b:am)(F:Nat)(d:MT)(a e deep:Nat):Fx PM->Fx PM
 | .error x=> .error x
 | .ok m=>dQ S b F d m a e deep
theorem vE (h:a<e){r:rK}{f:ek}(hr:fF b a e= .ok r)(hf:dv d.fs r.num=some f)(hk:r.kind=eZ S f):dQ S b (F+1) d m a e deep=EQ S b F d r.e e deep (rP S b F d f m r deep):=by
 rw[dQ,if_pos h,hr];simp only;rw[hf];simp only;rw[if_pos hk];unfold rP rO AJ
 cases hs:ed S f with
 |some sub=>
  simp only
  by_cases hfar:sO S sub (deep+1)=true
  ·rw[if_pos hfar,if_pos hfar];rfl
  ·rw[if_neg hfar,if_neg hfar]
   cases dQ S b F sub (eA f m).2.2 r.fr r.e (deep+1)<;>rfl
 |none=>
  simp only
  cases pJ S b f r<;>rfl
theorem tf (h:a<e){r:rK}{f:ek}(hr:fF b a e= .ok r)(hf:dv d.fs r.num=some f)(hk:r.kind≠eZ S f)(h2:r.kind=2)(hp:f.isRep=true):
  dQ S b (F+1) d m a e deep=EQ S b F d r.e e deep (match mH S b f (m.get f.num) r.fr r.e with| .error x=> .error x| .ok l=> .ok (m.put f.num l)):=by
 rw[dQ,if_pos h,hr];simp only;rw[hf];simp only;rw[if_neg hk,if_pos ⟨h2,hp⟩]
 cases mH S b f (m.get f.num) r.fr r.e<;>rfl
theorem po (h:a<e){r:rK}(hr:fF b a e= .ok r)(hf:∀f,dv d.fs r.num=some f->r.kind≠eZ S f/\¬(r.kind=2/\f.isRep=true)):
  dQ S b (F+1) d m a e deep=dQ S b F d (m.keep (b.extract r.a r.e)) r.e e deep:=by
 rw[dQ,if_pos h,hr];simp only
 cases hh:dv d.fs r.num with
 |none=>rfl
 |some f=>
  obtain⟨h1,h2⟩:=hf f hh;simp only;rw[if_neg h1,if_neg h2]
end
theorem Hw {S:dG}{b:am}{F a e deep:Nat}{d:MT}{m m2:PM}{r:rK}{f:ek}(hS:vD S)(hb:b.size<=4000000)(hd:jB S d)(hw:WM S a d m)(hr:fF b a e= .ok r)(he:e<=b.size)(hf:dv d.fs r.num=some f)(hk:r.kind=eZ S f)
  (h:rP S b F d f m r deep= .ok m2):WM S r.e d m2:=by
 obtain⟨r1,r2,r3,r4,r5,r6,r7,_,_⟩:=mz hr;unfold rP rO at h
 cases hs:ed S f with
 |some sub=>
  rw[hs]at h;simp only at h;unfold AJ at h
  by_cases hfar:sO S sub (deep+1)=true
  ·rw[if_pos hfar]at h;cases h
  ·rw[if_neg hfar]at h
   cases hl:dQ S b F sub (eA f m).2.2 r.fr r.e (deep+1)with
   |error x=>rw[hl]at h;cases h
   |ok sm=>
    rw[hl]at h
    cases h
    have N8:=iU hS hb F sub _ r.fr r.e (deep+1) sm hl (hS.sub hs) r4 (by omega) ((j0 hw hf hs).2.mono (by omega));exact s9 hd hw hf hs (by omega) N8
 |none=>
  rw[hs]at h;simp only at h
  cases hv:pJ S b f r with
  |error x=>rw[hv]at h;cases h
  |ok v=>
   rw[hv]at h
   cases h
   have Oa:r.kind=S.wire f.ty:=by
    rw[hk];unfold eZ;rw[if_neg (fun q=>by unfold ed at hs;rw[if_pos q]at hs;cases hs)]
   exact td hw hf hs (by omega) (Cc hv Oa hb r6 r7)
theorem Hx {S:dG}{b:am}{a e:Nat}{d:MT}{m:PM}{r:rK}{f:ek}{l:List PV}(hS:vD S)(hw:WM S a d m)(hr:fF b a e= .ok r)(hf:dv d.fs r.num=some f)(hk:r.kind≠eZ S f)(h2:r.kind=2)
  (h:mH S b f (m.get f.num) r.fr r.e= .ok l):WM S r.e d (m.put f.num l)/\S.wire f.ty≠2:=by
 obtain⟨r1,r2,r3,r4,r5,r6,r7,_,_⟩:=mz hr;have N3:¬f.isMap=true:=fun q=>hk (by unfold eZ;rw[if_pos q];exact h2)
 have N2:S.wire f.ty≠2:=fun q=>hk (by unfold eZ;rw[if_neg N3,q];exact h2)
 have hs:ed S f=none:=by
  unfold ed;rw[if_neg N3]
  cases hm:S.msg f.ty with
  |none=>rfl
  |some x=>exact absurd (hS.wire f.ty (by rw[hm];rfl)) N2
 have hn:=(eY hf).1;rw[hn]at h⊢;have N7:=pY (P:=EP S f.ty) (fun n h0 h1=>⟨(iI h0 h1).1,(iI h0 h1).2,aM _,rfl,fun q=>absurd q N2,fun _=>rfl⟩) _ _ _ _ h r4 (by have:=hw.len.2.2 r.num;omega) ((hw.vals r.num).ht f hf hs);exact⟨hw.put (by omega) (sw hf hs N7.1 N7.2),N2⟩
theorem ER {b:am}{a e:Nat}{c p:Int}(h:fF b a e= .error (c,p)):c≠0:=by
 unfold fF at h
 have hv:∀{a c p},fA b a e= .error (c,p)->c≠0:=fun h=>by
  rcases(BS h).1 with rfl|rfl<;>decide
 cases h1:fA b a e with
 |error x=>
  obtain⟨c',p'⟩:=x;rw[h1]at h
  cases h
  exact hv h1
 |ok x=>
  obtain⟨t,fr⟩:=x;rw[h1]at h;simp only at h
  split at h
  ·cases h;decide
  ·split at h
   ·cases h2:fA b fr e with
    |error x=>
     obtain⟨c',p'⟩:=x;rw[h2]at h
     cases h
     exact hv h2
    |ok x=>rw[h2]at h;cases h
   ·split at h
    ·split at h
     ·cases h
     ·cases h;decide
    ·split at h
     ·split at h
      ·cases h
      ·cases h;decide
     ·split at h
      ·cases h2:fA b fr e with
       |error x=>
        obtain⟨c',p'⟩:=x;rw[h2]at h
        cases h
        exact hv h2
       |ok x=>
        rw[h2]at h;simp only at h
        split at h
        ·cases h
        ·cases h;decide
      ·cases h;decide
def eh (s:am)(a:Nat)(num kind:Int)(z:Nat):Fx rK:=
 if kind=0 then(match fA s z s.size with| .error y=> .error y| .ok y=> .ok ⟨num,0,a,z,y.2,y.1⟩)
 else if kind=1 then(match fh s z 8 with| .error y=> .error y| .ok y=> .ok ⟨num,1,a,z,y.2,y.1⟩)
 else if kind=5 then(match fh s z 4 with| .error y=> .error y| .ok y=> .ok ⟨num,5,a,z,y.2,y.1⟩)
 else(match dS s z with| .error y=> .error y| .ok y=> .ok ⟨num,2,a,y.1,y.2,0⟩)
theorem vF (s:am)(a:Nat):Hv s a=match iH s a with| .error x=> .error x| .ok x=>eh s a x.1.1 x.1.2 x.2:=by
 unfold Hv eh
 cases iH s a<;>rfl
theorem vG (s:am)(a:Nat)(num kind:Int)(z:Nat):jz s z kind=match eh s a num kind z with| .error x=> .error x| .ok r=> .ok ((),r.e):=by
 unfold jz eh
 split
 ·cases fA s z s.size<;>rfl
 ·split
  ·cases fh s z 8<;>rfl
  ·split
   ·cases fh s z 4<;>rfl
   ·cases dS s z<;>rfl
def uO (s:am)(k:Nat)(r:rK):Fx LV:=
 if k=13 then(if Lib.validD (s.extract r.fr r.e).data.toList then .ok (0,s.extract r.fr r.e)else .error (10,r.fr))
 else if k=14 then .ok (0,s.extract r.fr r.e)else .ok (eW k r.n,⟨#[]⟩)
def yT (s:am)(k:Nat):Fx rK->Fx (LV×Nat)
 | .error x=> .error x
 | .ok r=>match uO s k r with| .error x=> .error x| .ok v=> .ok (v,r.e)
theorem ES (s:am)(a:Nat)(num:Int)(z:Nat):eh s a num ((0:Nat):Int) z=match fA s z s.size with| .error y=> .error y| .ok y=> .ok ⟨num,0,a,z,y.2,y.1⟩:=rfl
theorem ET (s:am)(a:Nat)(num:Int)(z:Nat):eh s a num ((1:Nat):Int) z=match fh s z 8 with| .error y=> .error y| .ok y=> .ok ⟨num,1,a,z,y.2,y.1⟩:=rfl
theorem EU (s:am)(a:Nat)(num:Int)(z:Nat):eh s a num ((5:Nat):Int) z=match fh s z 4 with| .error y=> .error y| .ok y=> .ok ⟨num,5,a,z,y.2,y.1⟩:=rfl
theorem th (s:am)(a:Nat)(num:Int)(z:Nat):eh s a num ((2:Nat):Int) z=match dS s z with| .error y=> .error y| .ok y=> .ok ⟨num,2,a,y.1,y.2,0⟩:=rfl
theorem Dh {k:Nat}(hk:k<=15)(N2:k≠13)(N3:k≠14):dL k=0\/dL k=1\/dL k=5:=by
 unfold dL
 split
 ·exact .inl rfl
 ·split
  ·exact .inr (.inl rfl)
  ·split
   ·exact .inr (.inr rfl)
   ·split
    ·exact .inl rfl
    ·omega
theorem ti (s:am)(a:Nat)(num:Int)(z k:Nat)(hk:k<=15):eO s z k=yT s k (eh s a num (dL k) z):=by
 unfold eO
 by_cases N2:k=13
 ·subst N2;rw[if_pos rfl,show dL 13=2 from rfl,th];unfold oO
  cases dS s z with
  |error x=>rfl
  |ok x=>
   simp only[yT,uO,if_true]
   by_cases q:Lib.validD (s.extract x.1 x.2).data.toList=true
   ·simp only[q,if_true]
   ·simp only[q,if_false,aK]
 ·rw[if_neg N2]
  by_cases N3:k=14
  ·subst N3;rw[if_pos rfl,show dL 14=2 from rfl,th];unfold lr
   cases dS s z with
   |error x=>rfl
   |ok x=>rfl
  ·rw[if_neg N3];unfold eX;have hv:∀r:rK,uO s k r= .ok (eW k r.n,⟨#[]⟩):=fun r=>by unfold uO;rw[if_neg N2,if_neg N3]
   rcases Dh hk N2 N3 with e|e|e
   ·rw[if_pos e,e,ES]
    cases fA s z s.size with
    |error x=>rfl
    |ok x=>simp only[yT,hv]
   ·rw[if_neg (by omega),if_neg (by omega),e,ET]
    cases fh s z 8 with
    |error x=>rfl
    |ok x=>simp only[yT,hv]
   ·rw[if_neg (by omega),if_pos e,e,EU]
    cases fh s z 4 with
    |error x=>rfl
    |ok x=>simp only[yT,hv]
theorem EV:∀(l:List (List UInt8)) (s:List UInt8) (k n:Nat),yA l s k=some n->∃i,n=k+i/\l[i]?=some s
 | [],_,_,_,h=>by simp[yA]at h
 |x::l,s,k,n,h=>by
  rw[yA]at h
  split at h
  ·rename_i e
   cases h
   exact⟨0,rfl,by simp[eq_of_beq e]⟩
  ·obtain⟨i,h1,h2⟩:=EV l s (k+1) n h;exact⟨i+1,by omega,by simpa using h2⟩
theorem yU {S:dG}{t:am}:S.base t=13<->gy t oA=true:=by
 constructor
 ·intro h;unfold dG.base at h
  split at h
  ·rename_i k hk
   subst h;obtain⟨i,h1,h2⟩:=EV _ _ _ _ hk;obtain rfl:i=13:=by omega
   have:t.toList=oA.toList:=by
    have e:kW[13]?=some oA.toList:=by decide+kernel
    rw[e]at h2;exact(Option.some.inj h2).symm
   unfold gy;rw[this];simp
  ·split at h<;>omega
 ·intro h;have e:t.toList=oA.toList:=by simpa [gy]using h
  unfold dG.base;rw[e];have:yA kW oA.toList 0=some 13:=by decide+kernel
  rw[this]
theorem Ce {k:Nat}(hk:k<=15)(h:dL k=2):k=13\/k=14:=by
 unfold dL at h
 split at h
 ·omega
 ·split at h
  ·omega
  ·split at h
   ·omega
   ·split at h<;>omega
theorem yV {S:dG}{b:am}{f:ek}{r:rK}{k e:Nat}(hb:S.base f.ty=k)(hk:k<=15)(hr:r.kind=dL k)(he:r.e<=e)(hs:e<=b.size):
  pJ S b f r=match uO (b.extract 0 e) k r with| .error x=> .error x| .ok v=> .ok (v.1,v.2,PM.none):=by
 unfold pJ uO;rw[iE hs he,hb]
 by_cases h2:r.kind=2
 ·rw[if_pos h2]
  rcases Ce hk (hr▸h2)with rfl|rfl
  ·have hq:=yU.1 hb;rw[hq,Df];simp only[cu,if_true]
   all_goals (cases Lib.validD (b.extract r.fr r.e).data.toList<;>rfl)
  ·have hq:gy f.ty oA=false:=by
    rw[bN];intro q;rw[yU.2 q]at hb;omega
   rw[hq];rfl
 ·rw[if_neg h2];have N2:k≠13:=fun q=>h2 (by rw[hr,q];rfl)
  have N3:k≠14:=fun q=>h2 (by rw[hr,q];rfl)
  rw[if_neg N2,if_neg N3];rfl
theorem vH {b:am}{k e F a:Nat}{l:List PV}(he:e<=b.size)(ha:a<e):e7 b k e (F+1) l a=match eX (b.extract 0 e) a k with| .error x=> .error x| .ok x=>e7 b k e F (l++ [(x.1,eS,PM.none)]) x.2:=by
 rw[e7,if_pos ha];unfold eX
 by_cases h0:dL k=0
 ·rw[if_pos h0,if_pos h0,sl he]
  cases fA b a e with
  |error x=>rfl
  |ok x=>rfl
 ·rw[if_neg h0,if_neg h0]
  by_cases h5:dL k=5
  ·simp only[h5,if_true];rw[pT he]
   split<;>rfl
  ·simp only[h5,if_false];rw[pT he]
   split<;>rfl
def uS (S:dG)(b:am)(F:Nat)(d:MT)(f:ek)(m:PM)(r:rK)(deep:Nat):Fx PM:=
 if r.kind=eZ S f then rP S b F d f m r deep else match mH S b f (m.get f.num) r.fr r.e with| .error x=> .error x| .ok l=> .ok (m.put f.num l)
theorem Di {S:dG}{b:am}{F a e deep:Nat}{d:MT}{m:PM}{r:rK}{f:ek}(h:a<e)(hr:fF b a e= .ok r)(hf:dv d.fs r.num=some f)(hk:r.kind=eZ S f\/(r.kind=2/\f.isRep=true)):
  dQ S b (F+1) d m a e deep=EQ S b F d r.e e deep (uS S b F d f m r deep):=by
 unfold uS
 by_cases q:r.kind=eZ S f
 ·rw[if_pos q,vE h hr hf q]
 ·rw[if_neg q];obtain⟨h2,hp⟩:=hk.resolve_left q;exact tf h hr hf q h2 hp
section
attribute [local go_sem↓] Go.wp_at_zero Go.wp_at_succ
abbrev eP:=Int×Value×Value×Value
def du (x:eP):aq:= [aa x.1,x.2.1,x.2.2.1,x.2.2.2]
theorem eJ (x:eP):(du x).length=4:=rfl
theorem AK (x:eP)(n:Int)(w:an):
  Calls Tryz.prog 403 #[.agg #[aa x.1,x.2.1,x.2.2.1,x.2.2.2],aa n] w fun e w'=>e= .returned (aa (iS x.1 n))/\aj w w':=by
 have hC:=nY x.1 n;have B0:∀o,aj w (w.alloc o):=fun o=>(Below.refl w.heap.size w).alloc (ay _) o
 generalize iS x.1 n=c at hC⊢;go_enter Tryz.func403,Tryz.ntmps403
 go_wp2_with fail
 refine(hC _).mono ?_;rintro e w' ⟨rfl,rfl⟩;go_wp2;go_ret;exact⟨rfl,B0 _⟩
theorem EW (w:an)(v:Value)(l:List eP)(t:Int)(lo:Nat)(hrow:w.ownsRow lo 249 4 v l.length (l.flatMap du))(h1:∀x∈l,x.2.1.oneCell'=true/\x.2.2.1.oneCell'=true/\x.2.2.2.oneCell'=true)(hs:l.Pairwise (fun a b=>a.1<=b.1))(hl:l.length<=4194304):
  Calls Tryz.prog 402 #[v,aa t,.func (.func 403) #[] #[]] w fun e w'=>sq (l.map (·.1)) t e/\aj w w':=by
 obtain⟨a,c,rfl⟩:=gS hrow
 have HS:Hid (∀(i j:Nat) (x y:eP),l[i]?=some x->l[j]?=some y->i<=j->x.1<=y.1):=fun i j x y hx hy Oc=>by
  by_cases e:i=j
  ·subst e;rw[hx]at hy;obtain rfl:=Option.some.inj hy;exact cH _
  ·rw[bC]at hs;have hi:=gl hx;have hj:=gl hy;have:=hs i j hi hj (by omega);rw[aJ hi]at hx;rw[aJ hj]at hy;rw[<-Option.some.inj hx,<-Option.some.inj hy];exact this
 have HG:Hid (∀(i:Nat) (x:eP),l[i]?=some x->∃g,a=some (ai g 0)/\g<w.heap.size/\∀w':an,w'.heap[g]?=w.heap[g]?->w'.cell? (ai g (i*4))=some (aa x.1)/\w'.cell? (ai g (i*4+1))=some x.2.1/\w'.cell? (ai g (i*4+2))=some x.2.2.1/\w'.cell? (ai g (i*4+3))=some x.2.2.2):=fun i x hx=>by
  have hi:=gl hx;obtain⟨g,rfl,_,N3,N2⟩:=dE hrow (by omega);have hf:=fun j hj=>eE du 4 eJ l i x hx j hj
  refine⟨g,rfl,N3,fun w' hw=>⟨?_,?_,?_,?_⟩⟩
  ·exact N2 w' hw _ _ ((hf 0 (by omega)).trans rfl)
  ·exact N2 w' hw _ _ ((hf 1 (by omega)).trans rfl)
  ·exact N2 w' hw _ _ ((hf 2 (by omega)).trans rfl)
  ·exact N2 w' hw _ _ ((hf 3 (by omega)).trans rfl)
 go_enter Tryz.func402,Tryz.ntmps402
 go_wp2;go_loopw [9,10] (fun iv jv wr=>∃(i j:Nat),i<=j/\j<=l.length/\iv=aa i/\jv=aa j/\Hid (∀(k:Nat) (x:eP),l[k]?=some x->k<i->x.1<t)/\Hid (∀(k:Nat) (x:eP),l[k]?=some x->j<=k->t<=x.1)/\aj w wr) (fun iv jv _=>((intOf jv)-(intOf iv)).toNat)
 case atStart=>exact⟨0,l.length,aM _,ay _,rfl,rfl,(fun k x _ h=>by omega),(fun k x hx h=>by rw[aQ (by omega)]at hx;cases hx),Below.refl _ _⟩
 case round=>
  obtain⟨i,j,Oc,N7,rfl,rfl,H1,H2,CW⟩:=hrel
  by_cases hlt:i<j
  ·obtain⟨h,hh⟩:∃h,(i+j)/2=h:=⟨_,rfl⟩;have Oa:h<l.length:=by omega
   have Ob:i<=h:=by omega
   have hhj:h<j:=by omega
   obtain⟨x,hx⟩:=gx Oa;obtain⟨g,rfl,N3,N8⟩:=HG.out h x hx;obtain⟨c0,c1,c2,c3⟩:=N8 wr (CW.block g N3);obtain⟨o1,o2,o3⟩:=h1 x (aI hx);have hw1:IntKind.u64.wrap ((i:Int)+(j:Int))=(i:Int)+(j:Int):=eR (by omega) (by omega);have hdiv:((i:Int)+(j:Int))/2=(h:Int):=by omega
   have hw2:IntKind.i64.wrap (h:Int)=(h:Int):=by simp[IntKind.wrap,IntKind.bits,IntKind.signed];omega
   by_cases hxt:x.1<t
   ·have hd:decide (iS x.1 t<0)=true:=by simp[kZ,hxt]
    have HX:Hid (l[h]?=some x):=hx;go_wp2_with fail
    refine(AK x t _).mono ?_;rintro e w2 ⟨rfl,b2⟩;go_wp2;go_roundw
    case rel=>exact⟨h+1,j,by omega,N7,rfl,rfl,(fun k y hy hk=>Int.lt_of_le_of_lt (HS.out k h y x hy HX.out (by omega)) hxt),H2,dH CW b2⟩
    case measure=>simp[intOf];omega
   ·have hd:=decide_eq_false (fun q=>hxt ((kZ _ _).1 q));have HX:Hid (l[h]?=some x):=hx;go_wp2_with fail
    refine(AK x t _).mono ?_;rintro e w2 ⟨rfl,b2⟩;go_wp2;go_roundw
    case rel=>exact⟨i,h,Ob,by omega,rfl,rfl,H1,(fun k y hy hk=>Int.le_trans (by omega) (HS.out h k x y HX.out hy hk)),dH CW b2⟩
    case measure=>simp[intOf];omega
  ·obtain rfl:i=j:=by omega
   have hli:decide ((i:Int)<(i:Int))=false:=by simp
   by_cases hil:i<l.length
   ·obtain⟨x,hx⟩:=gx hil;obtain⟨g,rfl,N3,N8⟩:=HG.out i x hx;obtain⟨c0,c1,c2,c3⟩:=N8 wr (CW.block g N3);obtain⟨o1,o2,o3⟩:=h1 x (aI hx);have HX:=hx;have hti:=H2.out i x hx (ay _)
    have hd:(iS x.1 t==0)=decide (x.1=t):=by
     rw[b8];unfold iS
     by_cases q1:x.1<t
     ·simp[q1];omega
     ·by_cases q2:t<x.1
      ·simp[q1,q2];omega
      ·simp[q1,q2];omega
    have hN:decide ((l.map (·.1))[i]?=some t)=decide (x.1=t):=by rw[aO,hx];simp
    have HE:Hid (decide ((l.map (·.1))[i]?=some t)=decide (x.1=t)):=hN;go_wp2_with fail
    refine(AK x t _).mono ?_;rintro e w2 ⟨rfl,b2⟩;go_wp2;go_ret2;refine⟨⟨i,by rw[HE.out];rfl,by simpa using N7,?_,?_⟩,dH CW b2⟩
    ·intro k y hy hk;rw[aO]at hy;obtain⟨z,hz,rfl⟩:=Option.map_eq_some_iff.1 hy;exact H1.out k z hz hk
    ·intro k y hy hk;rw[aO]at hy;obtain⟨z,hz,rfl⟩:=Option.map_eq_some_iff.1 hy;exact H2.out k z hz hk
   ·have hli2:decide ((i:Int)<(l.length:Int))=false:=by simp;omega
    have HE:Hid (decide ((l.map (·.1))[i]?=some t)=false):=by
     show decide ((l.map (·.1))[i]?=some t)=false;rw[aQ (by rw[aV];omega)];simp
    go_wp2;go_ret2;refine⟨⟨i,by rw[HE.out];rfl,by simpa using N7,?_,?_⟩,CW⟩
    ·intro k y hy hk;rw[aO]at hy;obtain⟨z,hz,rfl⟩:=Option.map_eq_some_iff.1 hy;exact H1.out k z hz hk
    ·intro k y hy hk;rw[aO]at hy;obtain⟨z,hz,rfl⟩:=Option.map_eq_some_iff.1 hy;exact H2.out k z hz hk
end
theorem qG:(Tryz.prog.info? 249).map (fun i=>(i.zero,i.size,i.bytes))=some (some (.agg #[aa 0,ah,ah,.map none]),4,64):=by kernel_rfl
theorem js {P:Program}(w:an)(dT sT ty elem:TypeId)(k g o dLen dCap:Nat)(a:Addr)(sLen sCap:Nat)(N3:Array Value)(t:TypeId)(cs:aq)
  (hu:P.underlying dT=some (.slice elem)) (hs:(P.info? elem).map (·.size)=some k)
  (hg:w.heap[g]?=some (.cells N3 t (0,0))) (hn:cs.length=Nat.min sLen dLen*k)
  (Of:∀j v,cs[j]?=some v->w.cell? (a.add j)=some v) (hfit:o+cs.length<=N3.size) (h1:∀v∈cs,v.oneCell'=true):
  (Builtin.copy_ #[dT,sT] ty #[.slice (some (ai g o)) dLen dCap,.slice (some a) sLen sCap]).run P w=
   .ok (goInt (Nat.min sLen dLen)) (w.setRow g (N3.toList.take o++cs++N3.toList.drop (o+cs.length)).toArray):=by
 have hl:=run_loadCells_list (P:=P) w a cs Of;have OG:=run_storeCells_at P g o t cs 0 N3 w hg (by simpa using hfit) h1
 cases hq:P.info? elem with
 |none=>simp[hq]at hs
 |some i=>
  have hi:i.size=k:=by simpa [hq]using hs
  simp[Builtin.copy_,run_underlying hu,Builtin.lenOf,Builtin.firstCells,sizeOf,typeInfo,hq,hi,<-hn,hl,OG]
def xk (w:an)(v:Value)(n:Nat)(cs:aq)(e:Ending)(w':an):Prop:=
 ∃g cap,e= .returned (.slice (some (ai g 0)) n cap)/\w'.ownsRow 0 249 4 (.slice (some (ai g 0)) n cap) n cs/\w.grownBy w' v.ownBlock/\(v.ownBlock=some g\/w.heap.size<=g)
theorem xl (w:an)(v:Value)(cs xs:aq)(n vb:Nat)(hrow:w.ownsRow 0 249 4 v n cs)(hn:n<=4194304)(hv:de w vb xs.toArray 249)(hxl:xs.length=4)(h1v:∀u∈xs,u.oneCell'=true):
  Calls Tryz.prog 346 #[v,aa n,.slice (some (ai vb 0)) 1 1] w (xk w v (n+1) (cs++xs)):=by
 obtain⟨i0,Oh,Oq,Ok,OC⟩:=info_parts qG;have HN:∀j u,xs[j]?=some u->w.cell? (((ai vb 0):Addr).add j)=some u:=fun j u hu=>bl hv j u (by simpa using hu)
 obtain⟨a,c,rfl⟩:=gS hrow;go_enter Tryz.func346,Tryz.ntmps346
 go_wp2_with (at_builtin;refine wpList_append_lies _ rfl _ _ 181 rfl 0 249 i0 _ 4 64 Tryz.underlying181 Oh Oq Ok OC rfl (by omega) (.slice a n c) n cs rfl hrow (ai vb 0) 1 1 xs rfl hxl HN h1v (by omega) (by unfold maxLen;omega) (by omega) (by omega) _ rfl ?_;intro g cap w1 Ow Om O6 Oo)
 all_goals
  go_ret;exact⟨g,cap,rfl,Ow,by cases a<;>exact Om,by cases a<;>exact O6.imp id (fun e=>by omega)⟩
theorem ii {w w':an}{row:Option Nat}{g:Nat}{cs:Array Value}(h:w.grownBy w' row)(hg:row=some g\/w.heap.size<=g):w.grownBy (w'.setRow g cs) row:=
 ⟨h.os,h.tape,h.output,by simpa using h.size,fun k hk OD=>by
  rw[setRow_other _ _ _ _ (fun e=>by subst e;rcases hg with q|q;exact OD q.symm;omega)]
  exact h.block k hk OD⟩
theorem EX (N3 cs xs D:aq)(n i:Nat)(hcs:N3.take (n*4)=cs)(hcl:cs.length=n*4)(hxl:xs.length=4)(hi:i<n):
  ((N3.take ((i+1)*4)++cs.drop (i*4)++D).take (i*4)++xs++(N3.take ((i+1)*4)++cs.drop (i*4)++D).drop (i*4+xs.length)).take ((n+1)*4)=cs.take (i*4)++xs++cs.drop (i*4):=by
 have hcur:n*4<=N3.length:=by rw[<-hcs,be]at hcl;omega
 have hA:(N3.take ((i+1)*4)).length=i*4+4:=by rw[be];omega
 have e1:(N3.take ((i+1)*4)++cs.drop (i*4)++D).take (i*4)=cs.take (i*4):=by
  rw[aW,List.take_append_of_le_length (by omega),List.take_take,Nat.min_eq_left (by omega),<-hcs,List.take_take,Nat.min_eq_left (by omega)]
 have e2:(N3.take ((i+1)*4)++cs.drop (i*4)++D).drop (i*4+xs.length)=cs.drop (i*4)++D:=by
  rw[aW,hxl];exact List.drop_left' hA
 rw[e1,e2,<-aW];exact List.take_left' (by simp[hxl,hcl];omega)
theorem uT (w:an)(cs xs:aq)(g n c i vb:Nat)(N3:Array Value)(hb:w.heap[g]?=some (.cells N3 249 (0,0)))(hsz:N3.size=c*4)(hcs:N3.toList.take (n*4)=cs)(hcl:cs.length=n*4)(h1c:∀u∈cs,u.oneCell'=true)(hi:i<n)(hn:n<=4194304)(hroom:n+1<=c)(hc:c<=maxLen)(hv:de w vb xs.toArray 249)(hxl:xs.length=4)(h1v:∀u∈xs,u.oneCell'=true)(hvb:vb≠g):
  Calls Tryz.prog 346 #[.slice (some (ai g 0)) n c,aa i,.slice (some (ai vb 0)) 1 1] w (xk w (.slice (some (ai g 0)) n c) (n+1) (cs.take (i*4)++xs++cs.drop (i*4))):=by
 have hu:Tryz.prog.underlying 181=some (.slice 249):=Tryz.underlying181
 have Oi:(Tryz.prog.info? 249).map (·.size)=some 4:=by
  obtain⟨i0,Oh,Oq,Ok,OC⟩:=info_parts qG;rw[Oh];simp[Ok]
 have HN:∀(W:an),W.heap[vb]?=w.heap[vb]?->∀j u,xs[j]?=some u->W.cell? (((ai vb 0):Addr).add j)=some u:=fun W hW j u hu=>bl (hW.trans hv) j u (by simpa using hu)
 have OH:∀lb cb,(callFunc 404 #[.slice (some (ai vb 0)) 1 1,.slice (some (ai g ((i+1)*4))) lb cb]).run Tryz.prog w= .ok (.value (.bool false)) w:=fun lb cb=>by
  rw[run_callFunc_extern Tryz.func404 (by kernel_rfl) (by kernel_rfl) (by kernel_rfl) (e:=Extern.SlicesOverlaps.overlaps #[181,181] #[4]) (by kernel_rfl),
   Lib.run_overlaps_apart w 181 4 249 hu 4 Tryz.sizeOf249 (ai vb 0) (ai g ((i+1)*4)) 1 1 lb cb hvb 249 249 4 N3.size (by unfold World.shape?;rw[hv];simp[hxl]) (by unfold World.shape?;rw[hb]) (by omega) (hv.rules.2 _) (hv.rules.2 _)]
  rfl
 obtain⟨N2,Ob⟩:∃r:Array Value,Hid (r=(N3.toList.take ((i+1)*4)++cs.drop (i*4)++N3.toList.drop ((i+1)*4+(cs.drop (i*4)).length)).toArray):=⟨_,rfl⟩;have Od:(cs.drop (i*4)).length=(n-i)*4:=by rw[List.length_drop,hcl];omega
 have Oe:N2.size=N3.size:=by rw[Ob.out];simp[Od];omega
 have Of:∀(W:an),W.heap[g]?=w.heap[g]?->∀j v,(cs.drop (i*4))[j]?=some v->W.cell? (((ai g (i*4)):Addr).add j)=some v:=fun W hW j v hj=>by
  rw[Addr.add_lit,aZ (w:=w) (by exact hW),cell_of_row w g _ N3 _ _ hb,<-bi];rw[List.getElem?_drop]at hj
  have Oo:i*4+j<n*4:=by
   rw[<-hcl]
   by_cases q:i*4+j<cs.length
   ·exact q
   ·rw[aQ (by omega)]at hj;cases hj
  rw[<-hcs,bO Oo]at hj;exact hj
 have Oj:∀(W:an) ty dc sc,W.heap[g]?=w.heap[g]?->(Builtin.copy_ #[181,181] ty #[.slice (some (ai g ((i+1)*4))) (n+1-(i+1)) dc,.slice (some (ai g (i*4))) (n+1-i) sc]).run Tryz.prog W= .ok (goInt (Nat.min (n+1-i) (n+1-(i+1)))) (W.setRow g N2):=fun W ty dc sc hW=>by
  rw[Ob.out];exact js W _ _ ty 249 4 g ((i+1)*4) (n+1-(i+1)) dc (ai g (i*4)) (n+1-i) sc N3 249 (cs.drop (i*4)) hu Oi (hW.trans hb) (by rw[Od];simp only[Nat.min_def];split<;>omega) (Of W hW) (by rw[Od];omega) (fun v hv=>h1c v (List.mem_of_mem_drop hv))
 obtain⟨N8,Oc⟩:∃r:Array Value,Hid (r=(N2.toList.take (i*4)++xs++N2.toList.drop (i*4+xs.length)).toArray):=⟨_,rfl⟩
 have Ot:∀(W:an) ty dc,W.heap[g]?=some (.cells N2 249 (0,0))->W.heap[vb]?=w.heap[vb]?->(Builtin.copy_ #[181,181] ty #[.slice (some (ai g (i*4))) (n+1-i) dc,.slice (some (ai vb 0)) 1 1]).run Tryz.prog W= .ok (goInt (Nat.min 1 (n+1-i))) (W.setRow g N8):=fun W ty dc hW hV=>by
  rw[Oc.out];exact js W _ _ ty 249 4 g (i*4) (n+1-i) dc (ai vb 0) 1 1 N2 249 xs hu Oi hW (by rw[hxl];simp only[Nat.min_def];split<;>omega) (HN W hV) (by omega) h1v
 have Ok:¬((i:Int)=(n:Int)):=by omega
 have OI:IntKind.i64.wrap ((i:Int)+1)=(i:Int)+1:=by rw[IntKind.wrap_i64];omega
 have OJ:IntKind.i64.wrap ((n:Int)+1)=(n:Int)+1:=by rw[IntKind.wrap_i64];omega
 go_enter Tryz.func346,Tryz.ntmps346
 go_wp2_with (simp only[OH])
 have mixed:Tryz.prog.follows Departure.mixedOrders=true:=by kernel_rfl
 have OL:(0:Int)<=(i:Int)+1:=by omega
 have OM:i<=n:=by omega
 have ON:((i:Int)+1).toNat=i+1:=by omega
 have hb2:¬(c=i+1):=by omega
 have OO:(i:Int)<=(n:Int)+1:=by omega
 have hb4:¬(c=i):=by omega
 have Oz:(w.drew).heap[g]?=w.heap[g]?:=rfl;have OP:n+1-(i+1)=n-i:=by omega
 rw[OP]at Oj;have OA:(w.drew.setRow g N2).heap[g]?=some (.cells N2 249 (0,0)):=setRow_heap _ _ _ _ _ _ (Oz.trans hb);have OQ:(w.drew.setRow g N2).heap[vb]?=w.heap[vb]?:=setRow_other _ _ _ _ hvb;go_region_law_o (refine step_copy_runI rfl _ _ 181 181 rfl (.slice (some (ai g ((i+1)*4))) (n-i) (c-(i+1))) (.slice (some (ai g (i*4))) (n+1-i) (c-i)) (by simp[Act.eval,Act.put]) (by simp[Act.eval,Act.put]) (Oj _ _ _ _ Oz) ?_)
 go_wp2_with (at_builtin;refine wpList_copy_runI _ rfl _ _ 181 181 rfl _ _ rfl rfl (Ot _ _ _ OA OQ) ?_)
 go_ret;have G1:w.grownBy ((w.drew.setRow g N2).setRow g N8) (some g):=ii (ii ⟨rfl,rfl,rfl,ay _,fun _ _ _=>rfl⟩ (.inl rfl)) (.inl rfl);have hh:=setRow_heap _ g _ N8 _ _ OA;refine⟨g,c,rfl,⟨?_,.inr ⟨g,c,N8,rfl,aM _,hh,by omega,hc,?_,?_⟩⟩,G1,.inl rfl⟩
 ·simp[hxl,hcl];omega
 ·rw[Oc.out];simp;omega
 ·rw[Oc.out,Ob.out];exact EX N3.toList cs xs _ n i hcs hcl hxl hi
theorem EY (cs xs Z Y:aq)(n i:Nat)(hcl:cs.length=n*4)(hxl:xs.length=4)(hi:i<n):
  (((cs.take (i*4)++Z++Y).take (i*4)++xs++(cs.take (i*4)++Z++Y).drop (i*4+xs.length)).take ((i+1)*4)++cs.drop (i*4)++
   ((cs.take (i*4)++Z++Y).take (i*4)++xs++(cs.take (i*4)++Z++Y).drop (i*4+xs.length)).drop ((i+1)*4+(cs.drop (i*4)).length)).take ((n+1)*4)=cs.take (i*4)++xs++cs.drop (i*4):=by
 have hA:(cs.take (i*4)).length=i*4:=by rw[be];omega
 have e1:(cs.take (i*4)++Z++Y).take (i*4)=cs.take (i*4):=by
  rw[aW];exact List.take_left' hA
 rw[e1];rw[List.take_left' (l₁:=cs.take (i*4)++xs) (i:=(i+1)*4) (by simp[hxl,hA];omega)];exact List.take_left' (by simp[hxl,hcl];omega)
theorem uU (w:an)(cs xs:aq)(g n c i vb:Nat)(N3:Array Value)(hb:w.heap[g]?=some (.cells N3 249 (0,0)))(hcs:N3.toList.take (n*4)=cs)(hcl:cs.length=n*4)(h1c:∀u∈cs,u.oneCell'=true)(hi:i<n)(hn:n<=4194304)(hroom:c<n+1)(hc:n<=c)(hv:de w vb xs.toArray 249)(hxl:xs.length=4)(h1v:∀u∈xs,u.oneCell'=true):
  Calls Tryz.prog 346 #[.slice (some (ai g 0)) n c,aa i,.slice (some (ai vb 0)) 1 1] w (xk w (.slice (some (ai g 0)) n c) (n+1) (cs.take (i*4)++xs++cs.drop (i*4))):=by
 obtain rfl:c=n:=by omega
 have hu:Tryz.prog.underlying 181=some (.slice 249):=Tryz.underlying181;obtain⟨i0,Oh,Oq,OE,OF⟩:=info_parts qG;have Oi:(Tryz.prog.info? 249).map (·.size)=some 4:=by rw[Oh];simp[OE]
 have OR:g<w.heap.size:=de.lt hb;have OS:vb<w.heap.size:=hv.lt;have Od:(cs.drop (i*4)).length=(c-i)*4:=by rw[List.length_drop,hcl];omega
 have Oa:∀(W:an),W.heap[g]?=w.heap[g]?->∀j v,cs[j]?=some v->W.cell? (ai g j)=some v:=fun W hW j v hj=>by
  rw[aZ (w:=w) (by exact hW),cell_of_row w g _ N3 _ _ hb,<-bi]
  have Oo:j<c*4:=by
   rw[<-hcl]
   by_cases q:j<cs.length
   ·exact q
   ·rw[aQ (by omega)]at hj;cases hj
  rw[<-hcs,bO Oo]at hj;exact hj
 have hold:(Builtin.firstCells i0.size i (.slice (some (ai g 0)) i c)).run Tryz.prog w.drew= .ok (cs.take (i*4)).toArray w.drew:=by
  rw[OE]
  exact run_firstCells_some w.drew 4 i (ai g 0) i c (cs.take (i*4)) (by rw[be];omega) (fun j v hj=>by
   rw[Addr.add_lit,Nat.zero_add];rw[List.getElem?_take]at hj
   split at hj
   ·exact Oa _ rfl j v hj
   ·cases hj)
 obtain⟨G,HG⟩:∃G,Hid (G=grownCap w (c+1) c 249):=⟨_,rfl⟩;obtain⟨Z,HZ⟩:∃Z:Array Value,Hid (Z=Builtin.zeroCells (Value.agg #[aa 0,ah,ah,.map none]).cells (c+1-i)):=⟨_,rfl⟩;obtain⟨Y,HY⟩:∃Y:Array Value,Hid (Y=Builtin.zeroCells (Value.agg #[aa 0,ah,ah,.map none]).cells (G-(c+1))):=⟨_,rfl⟩;obtain⟨N7,Og⟩:∃R:Array Value,Hid (R=(cs.take (i*4)).toArray++Z++Y):=⟨_,rfl⟩;have OT:Z.size=(c+1-i)*4:=by rw[HZ.out];simp[Builtin.zeroCells,Value.cells]
 have OU:c+1<=G:=by rw[HG.out];exact grownCap_ge w _ _ _
 have OV:G<=maxLen:=by rw[HG.out];exact grownCap_le_maxLen w _ _ _ (by unfold maxLen;omega)
 have OW:Y.size=(G-(c+1))*4:=by rw[HY.out];simp[Builtin.zeroCells,Value.cells]
 have Ou:N7.size=G*4:=by rw[Og.out];simp[OT,OW,hcl];omega
 have OB:∀ty,(Builtin.append_ #[181,3] ty #[.slice (some (ai g 0)) i c,aa ((c:Int)+1-(i:Int))]).run Tryz.prog w=
   .ok (.slice (some (ai w.heap.size 0)) (c+1) G) (w.drew.alloc (.cells N7 249)):=fun ty=>by
  have h:=Lib.run_append_grow_zeros w 181 3 ty 249 i0 _ .i64 .i64 hu Tryz.underlying3 Oh Oq (some (ai g 0)) i c (cs.take (i*4)) hold (c+1-i) (by omega) (by omega) (by omega) (by omega) (by rw[OF];omega) (by rw[OF,show i+(c+1-i)=c+1 by omega];exact growslice_fits hroom (by omega));rw[show i+(c+1-i)=c+1 by omega,<-HG.out,<-HY.out,<-HZ.out,<-Og.out]at h;rw[show(c:Int)+1-(i:Int)=((c+1-i:Nat):Int)by omega];exact h
 obtain⟨N2,Ox⟩:∃r:Array Value,Hid (r=(N7.toList.take (i*4)++xs++N7.toList.drop (i*4+xs.length)).toArray):=⟨_,rfl⟩;have Oe:N2.size=N7.size:=by rw[Ox.out];simp[hxl,Ou];omega
 have Ol:∀(W:an) ty dc,W.heap[w.heap.size]?=some (.cells N7 249 (0,0))->W.heap[vb]?=w.heap[vb]?->(Builtin.copy_ #[181,181] ty #[.slice (some (ai w.heap.size (i*4))) (c+1-i) dc,.slice (some (ai vb 0)) 1 1]).run Tryz.prog W= .ok (goInt (Nat.min 1 (c+1-i))) (W.setRow w.heap.size N2):=fun W ty dc hW hV=>by
  rw[Ox.out];exact js W _ _ ty 249 4 w.heap.size (i*4) (c+1-i) dc (ai vb 0) 1 1 N7 249 xs hu Oi hW (by rw[hxl];simp only[Nat.min_def];split<;>omega) (fun j u hu=>bl (hV.trans hv) j u (by simpa using hu)) (by omega) h1v
 obtain⟨N8,Oy⟩:∃r:Array Value,Hid (r=(N2.toList.take ((i+1)*4)++cs.drop (i*4)++N2.toList.drop ((i+1)*4+(cs.drop (i*4)).length)).toArray):=⟨_,rfl⟩
 have Ov:∀(W:an) ty dc sc,W.heap[w.heap.size]?=some (.cells N2 249 (0,0))->W.heap[g]?=w.heap[g]?->(Builtin.copy_ #[181,181] ty #[.slice (some (ai w.heap.size ((i+1)*4))) (c-i) dc,.slice (some (ai g (i*4))) (c-i) sc]).run Tryz.prog W= .ok (goInt (Nat.min (c-i) (c-i))) (W.setRow w.heap.size N8):=fun W ty dc sc hW hV=>by
  rw[Oy.out]
  exact js W _ _ ty 249 4 w.heap.size ((i+1)*4) (c-i) dc (ai g (i*4)) (c-i) sc N2 249 (cs.drop (i*4)) hu Oi hW (by rw[Od];simp only[Nat.min_def];split<;>omega) (fun j v hj=>by
   rw[Addr.add_lit];rw[List.getElem?_drop]at hj
   exact Oa W hV _ v hj) (by rw[Od,Oe,Ou];omega) (fun v hv=>h1c v (List.mem_of_mem_drop hv))
 have E0:(w.alloc (.cells N7 249)).drew.heap[w.heap.size]?=some (.cells N7 249 (0,0)):=heap_alloc_new w.drew _;have OX:(w.alloc (.cells N7 249)).drew.heap[vb]?=w.heap[vb]?:=Below.heap_alloc w.drew _ vb OS;have OY:(w.alloc (.cells N7 249)).drew.heap[g]?=w.heap[g]?:=Below.heap_alloc w.drew _ g OR;have E1:((w.alloc (.cells N7 249)).drew.setRow w.heap.size N2).heap[w.heap.size]?=some (.cells N2 249 (0,0)):=setRow_heap _ _ _ _ _ _ E0;have OZ:((w.alloc (.cells N7 249)).drew.setRow w.heap.size N2).heap[g]?=w.heap[g]?:=(setRow_other _ _ _ _ (by omega)).trans OY;have Ok:¬((i:Int)=(c:Int)):=by omega
 have hz3:(c:Int)<(c:Int)+1:=by omega
 have OI:IntKind.i64.wrap ((i:Int)+1)=(i:Int)+1:=by rw[IntKind.wrap_i64];omega
 have OJ:IntKind.i64.wrap ((c:Int)+1)=(c:Int)+1:=by rw[IntKind.wrap_i64];omega
 have hw3:IntKind.i64.wrap ((c:Int)+1-(i:Int))=(c:Int)+1-(i:Int):=by rw[IntKind.wrap_i64];omega
 have mixed:Tryz.prog.follows Departure.mixedOrders=true:=by kernel_rfl
 have OL:(0:Int)<=(i:Int)+1:=by omega
 have OM:i<=c:=by omega
 have ON:((i:Int)+1).toNat=i+1:=by omega
 have hGi:¬(G=i):=by omega
 have hGim:¬(G=i+1):=by omega
 have hci:¬(c=i):=by omega
 have OO:(i:Int)<=(c:Int):=by omega
 have hc1:c+1-(i+1)=c-i:=by omega
 go_enter Tryz.func346,Tryz.ntmps346
 have O1:Hid (∀ty,(Builtin.append_ #[181,3] ty #[.slice (some (ai g 0)) i c,aa ((c:Int)+1-(i:Int))]).run Tryz.prog w= .ok (.slice (some (ai w.heap.size 0)) (c+1) G) ((w.alloc (.cells N7 249)).drew)):=OB;clear OB Oa hold;have O2:=fun ty dc=>Ol (w.alloc (.cells N7 249)).drew ty dc E0 OX
 clear Ol;go_wp2_with (at_builtin;(first|(refine Lib.wpList_append_run _ rfl _ _ _ _ rfl _ _ rfl rfl _ _ (O1.out _) ?_)|(refine wpList_copy_runI _ rfl _ _ 181 181 rfl _ _ rfl rfl (O2 _ _) ?_)))
 have E2:(((w.alloc (.cells N7 249)).drew.setRow w.heap.size N2).drew).heap[w.heap.size]?=some (.cells N2 249 (0,0)):=E1;have O3:(((w.alloc (.cells N7 249)).drew.setRow w.heap.size N2).drew).heap[g]?=w.heap[g]?:=OZ;go_region_law_o (refine step_copy_runI rfl _ _ 181 181 rfl (.slice (some (ai w.heap.size ((i+1)*4))) (c-i) (G-(i+1))) (.slice (some (ai g (i*4))) (c-i) (c-i)) (by simp[Act.eval,Act.put]) (by simp[Act.eval,Act.put]) (Ov _ _ _ _ E2 O3) ?_)
 go_wp2;go_ret
 have G1:w.grownBy ((((w.alloc (.cells N7 249)).drew.setRow w.heap.size N2).drew).setRow w.heap.size N8) (some g):=by
  have G0:w.grownBy ((w.alloc (.cells N7 249)).drew) (some g):=⟨rfl,rfl,rfl,by simp,fun k hk _=>Below.heap_alloc w _ k hk⟩;have G2:w.grownBy (((w.alloc (.cells N7 249)).drew.setRow w.heap.size N2).drew) (some g):=ii (cs:=N2) G0 (.inr (ay _))|>fun q=>⟨q.os,q.tape,q.output,q.size,q.block⟩
  exact ii G2 (.inr (ay _))
 have hh:=setRow_heap _ w.heap.size _ N8 _ _ E2;refine⟨w.heap.size,G,rfl,⟨?_,.inr ⟨w.heap.size,G,N8,rfl,aM _,hh,OU,OV,?_,?_⟩⟩,G1,.inr (ay _)⟩
 ·simp[hxl,hcl];omega
 ·rw[Oy.out];simp[Od,Oe,Ou];omega
 ·have O4:N7.toList=cs.take (i*4)++Z.toList++Y.toList:=by rw[Og.out];simp
  rw[Oy.out,Ox.out,O4];exact EY cs xs Z.toList Y.toList c i hcl hxl hi
theorem EZ (l:List eP)(i:Nat)(x:eP):(l.flatMap du).take (i*4)++du x++(l.flatMap du).drop (i*4)=(l.take i++x::l.drop i).flatMap du:=by
 have h:∀(l:List eP) (i:Nat),(l.flatMap du).take (i*4)=(l.take i).flatMap du/\(l.flatMap du).drop (i*4)=(l.drop i).flatMap du:=by
  intro l
  induction l with
  |nil=>intro i;simp
  |cons y l ih=>
   intro i
   cases i with
   |zero=>simp
   |succ i=>
    obtain⟨h1,h2⟩:=ih i
    constructor
    ·rw[bm,List.take_succ_cons,bm,<-h1,show(i+1)*4=(du y).length+i*4 by rw[eJ];omega,List.take_append,bY (by omega)]
     congr 2;omega
    ·rw[bm,List.drop_succ_cons,<-h2,show(i+1)*4=(du y).length+i*4 by rw[eJ];omega,List.drop_append,List.drop_of_length_le (by omega)];simp
 obtain⟨h1,h2⟩:=h l i;rw[h1,h2];simp
theorem E7 (w:an)(v:Value)(l:List eP)(i:Nat)(x:eP)(vb:Nat)(hrow:w.ownsRow 0 249 4 v l.length (l.flatMap du))(h1:∀u∈l.flatMap du,u.oneCell'=true)(hi:i<=l.length)(hl:l.length<=4194304)(hv:de w vb (du x).toArray 249)(hx:∀u∈du x,u.oneCell'=true)(hvb:v.ownBlock≠some vb):
  Calls Tryz.prog 346 #[v,aa i,.slice (some (ai vb 0)) 1 1] w (xk w v (l.length+1) ((l.take i++x::l.drop i).flatMap du)):=by
 rw[<-EZ]
 by_cases he:i=l.length
 ·subst he;have:=xl w v (l.flatMap du) (du x) l.length vb hrow hl hv rfl hx;have e1:(l.flatMap du).take (l.length*4)=l.flatMap du:=bY (by rw[hrow.1];exact ay _);have e2:(l.flatMap du).drop (l.length*4)= []:=List.drop_of_length_le (by rw[hrow.1];exact ay _);rw[e1,e2,bT];exact this
 ·rcases hrow.2 with⟨rfl,h0⟩|⟨g,cap,N3,rfl,hg,hb,hn,hm,hs,ht⟩
  ·omega
  ·have O5:vb≠g:=fun e=>hvb (by rw[e];rfl)
   by_cases hr:l.length+1<=cap
   ·exact uT w _ (du x) g l.length cap i vb N3 hb hs ht hrow.1 h1 (by omega) hl hr hm hv rfl hx O5
   ·exact uU w _ (du x) g l.length cap i vb N3 hb ht hrow.1 h1 (by omega) hl (by omega) hn hv rfl hx
end Go.Proofs.YtfebdimolnobaaaGreatDoor
