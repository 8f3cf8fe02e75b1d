import Derived.Test.YtfebdimolnobaaaGreatDoorRdC
import Derived.Deep.CutBlock
import Derived.Shelf.Unicode.ValidAny
import Derived.Laws.Bits64
import Derived.Lib.Builder
import Derived.Lib.AppendStr
import Derived.Lib.UnsafeStr
import Derived.Lib.MakeNoZero
import Derived.Shelf.RegionOpenPlain
import Derived.Shelf.Small.Bits
import Derived.Shelf.Strconv.Itoa0
import Derived.Test.YtfebdimolnobaaaGreatDoorRows
import Derived.Deep.Strs
import Derived.ProofKit
set_option maxRecDepth 100000
set_option maxHeartbeats 8000000
set_option linter.all false
namespace Go.Proofs.YtfebdimolnobaaaGreatDoor
open Go.RowKit Go.Proofs.Tryz


def Tryz.info102:(prog.info? 102).map (λi=>(i.zero,i.size,i.bytes))=some (some (.agg #[Vp,aa 0]),2,24):=VA
def mS (w:aw)(a b:Value)(t:TypeId):∀j u,[a,b][j]?=some u->(w.alloc (.cells #[a,b] t)).cell? (((aj w.heap.size 0):Addr).add j)=some u:=by
 intro j u c
 match j,c with
 |0,c=>simp at c;subst c;simp[Addr.add]
 |1,c=>simp at c;subst c;simp[Addr.add]
 |j+2,c=>simp at c
def ee.G {bs:aB}{a b c:aw}(h:ee bs a b)(k:Below b.heap.size b c):ee bs a c:=h.J (ee.oB k)
def ee.drewN {bs:aB}{a b:aw}(h:ee bs a b)(n:Nat):ee bs a (b.drewN n):=h.J ⟨rfl,rfl,rfl,aE _,λ_ _ _=>rfl⟩
def dZ.kept {w w1:aw}{bs:aB}{b:Nat}{cs:aq}{T:TypeId}(h:dZ w b cs T)(a:ee bs w w1)(c:b∉bs):dZ w1 b cs T:=(a.block b h.lt c).J h
def kT (t:au)(k:Nat):0<=gh t k/\gh t k<256:=by
 unfold gh;split;.rename_i h;have:=t[k].toNat_lt;omega
 .omega
def At (i:Nat):(2:Int)^(7*(i+1))=128*2^(7*i):=by
 rw[show 7*(i+1)=7*i+7 from by omega,Int.pow_add];omega
def xJ {i j:Nat}(h:i<=j):(2:Int)^i<=2^j:=by
 have:=dw (n:=2) Vy h
 exact_mod_cast this
def BJ {i:Nat}{n c:Int}(d:0<=n)(h1:n<2^(7*i)):0<=n+c%128*2^(7*i)/\n+c%128*2^(7*i)<2^(7*(i+1)):=by
 have g:(0:Int)<2^(7*i):=Int.pow_pos Vy;have a:0<=c%128:=Int.emod_nonneg _ Vy;have b:c%128<=127:=by have:=Int.emod_lt_of_pos c (show(0:Int)<128 by decide);omega
 rw[At];generalize(2:Int)^(7*i)=q at*;have e:0<=c%128*q:=Int.mul_nonneg a Vv;have f:c%128*q<=127*q:=Int.mul_le_mul_of_nonneg_right b Vv;omega
def gU {c:Int}(a:0<=c)(h1:c<2^64):IntKind.u64.wrap c=c:=by
 simp[IntKind.wrap,IntKind.signed,IntKind.bits];omega
def Kt {b:au}{a e:Nat}:∀f i n m z,mK b a e f i n= .ok (m,z)->i+f=10->0<=n->n<2^(7*i)->0<=m/\m<2^64/\a+i<z/\z<=e
 |0,i,n,m,z,h,_,_,_=>by simp[mK]at h
 |f+1,i,n,m,z,h,hi,h0,h1=>by
  rw[mK]at h;split at h
  .rename_i k;split at h;.simp at h
   .rename_i g;have d:=BJ (i:=i) (c:=gh b (a+i)) h0 h1;split at h
    .rename_i s;simp only[Except.ok.injEq,Prod.mk.injEq]at h;obtain⟨rfl,rfl⟩:=h;refine⟨d.1,?_,Vv,Vv⟩;by_cases hi9:i=9
     .subst hi9;have u:=kT b (a+9);have j:¬1<gh b (a+9):=λh=>g ⟨rfl,h⟩
      simp only[Nat.reduceMul,Int.reducePow]at h1⊢;omega
     .have q:(2:Int)^(7*(i+1))<=2^63:=xJ Vv;have r:=d.2;omega
    .have⟨l,o,v,p⟩:=Kt f (i+1) _ m z h Vv d.1 d.2;exact⟨l,o,Vv,p⟩
  .simp at h
def jm {b:au}{a e:Nat}{m:Int}{z:Nat}(h:iV b a e= .ok (m,z)):0<=m/\m<2^64/\a<z/\z<=e:=by
 have:=Kt 10 0 0 m z h rfl Vv Vy;simpa using this
section
variable {b:au} {a e fr:Nat} {t:Int}
end
end Go.Proofs.YtfebdimolnobaaaGreatDoor
namespace Go.Proofs
open Go.Shelf
def Tryz.laysVs_ren:Go.Shelf.Ren:=⟨fun|196=>325|259=>393|n=>n,fun|9=>9|4=>4|3=>3|5=>5|12=>12|119=>459|0=>0|46=>295|139=>462|138=>461|53=>53|n=>n,fun|3=>2|4=>3|n=>n⟩
theorem Tryz.laysVs:Go.Proofs.Lays.n196 Tryz.prog Tryz.laysVs_ren:=by constructor<;>first|kernel_rfl|(intro w;kernel_rfl)
end Go.Proofs
namespace Go.Proofs.YtfebdimolnobaaaGreatDoor
open Go.RowKit Go.Proofs.Tryz
section
variable {n:Int} {a:Nat} {m:PM} {S:eF} {d:MT}
theorem nx (n:Int)(vs:List PV):∀(l:List PF) (done:Bool) (x:PF),x∈ik n vs done l->(x=(n,vs)/\done=false)\/x∈l
 | [],done,x,h=>by
  cases done;.simp[ik]at h;exact .inl ⟨h,rfl⟩
  .simp[ik]at h
 |y::l,done,x,h=>by
  rw[ik,aW,aW]at h;rcases h with h|h|h
  .by_cases q:(!done&&decide (n<=y.1))=true;.rw[dR q]at h;simp at h q;exact .inl ⟨h,q.1⟩
   .rw[dQ q]at h;cases h
  .by_cases q:y.1=n;.rw[dR q]at h;cases h
   .rw[dQ q]at h;simp at h;exact .inr (by simp[h])
  .rcases nx n vs l _ x h with⟨b,a⟩|h;.simp at a;exact .inl ⟨b,a.1⟩
   .exact .inr (by simp[h])
theorem ti (n:Int)(vs:List PV):∀(l:List PF) (done:Bool),(ik n vs done l).length<=l.length+(if done then 0 else 1)
 | [],done=>by cases done<;>simp[ik]
 |y::l,done=>by
  rw[ik,aN,aN];have h:=ti n vs l (done||decide (n<=y.1));cases done;.by_cases q:n<=y.1<;>by_cases e:y.1=n<;>simp[q,e]at h⊢<;>omega
  .by_cases e:y.1=n<;>simp[e]at h⊢<;>omega
theorem ny {v:PV}:∀{l:List PF},v∈gT l n->∃x∈l,x.1=n/\x.2=gT l n
 | [],h=>by simp[gT]at h
 |x::l,h=>by
  by_cases q:x.1=n;.exact⟨x,Vw,q,by simp[gT,q]⟩
  .simp only[gT,q,if_false]at h⊢;have⟨y,a,b,c⟩:=ny h;exact⟨y,by simp[a],b,c⟩
theorem xN:∀{l:List PF},(∀x∈l,x.2.length<=a)->(gT l n).length<=a
 | [],_=>by simp[gT]
 |x::l,h=>by
  by_cases q:x.1=n;.simp only[gT,q,if_true];exact h x Vw
  .simp only[gT,q,if_false];exact xN (λy b=>h y (by simp[b]))
theorem tj (n:Int)(vs:List PV):∀(l:List PF),gT (ik n vs false l) n=vs
 | []=>by simp[ik,gT]
 |y::l=>by
  rw[ik];by_cases q:n<=y.1;.simp[q,gT]
  .have e:¬y.1=n:=Vv;simp[q,e,gT,tj n vs l]
theorem rR (n n':Int)(vs:List PV)(b:n'≠n):∀(l:List PF) (done:Bool),gT (ik n vs done l) n'=gT l n'
 | [],done=>by cases done<;>simp[ik,gT,Ne.sy b]
 |y::l,done=>by
  rw[ik];have ih:=rR n n' vs b l (done||decide (n<=y.1));have c:¬n=n':=λe=>b e.sy
  by_cases q:(!done&&decide (n<=y.1))=true
  .rw[dR q];by_cases e:y.1=n
   .have a:¬y.1=n':=λx=>b (by rw[<-x,e])
    simp only[e,if_true,bo,aX,gT,c,if_false];rw[e]at ih;rw[ih]
   .by_cases a:y.1=n';.subst a;simp only[e,if_false,bo,aX,gT,if_true,c]
    .simp only[e,if_false,bo,aX,gT,c,a];exact ih
  .rw[dQ q];by_cases e:y.1=n
   .have a:¬y.1=n':=λx=>b (by rw[<-x,e])
    simp only[e,if_true,aX,gT,c,if_false];rw[e]at ih;exact ih
   .by_cases a:y.1=n';.subst a;simp only[e,if_false,bo,aX,gT,if_true]
    .simp only[e,if_false,bo,aX,gT,a];exact ih
theorem PM.get_put (m:PM)(n:Int)(vs:List PV)(h:vs≠ []):(m.put n vs).get n=vs:=by
 have a:vs.isEmpty=false:=by cases vs with
  |nil=>exact absurd rfl h
  |cons _ _=>rfl
 unfold PM.put PM.get;rw[a];exact tj n vs m.fs
theorem PM.get_put_ne (m:PM)(n n':Int)(vs:List PV)(h:n'≠n):(m.put n vs).get n'=m.get n':=rR n n' vs h m.fs _
structure Fi (t:au)(v:PV):Prop where
 lo:0<=v.1
 hi:v.1<2^64
 sz:v.2.1.size<=1800000000000
 str:gQ t lF=true->v.1=0
 num:gQ t lF=false->v.2.1=eS
structure TN (a:Nat)(t:au)(v:PV):Prop where
 key:∃rest,v.2.2.get 1=fS v::rest
 ky:Fi t (fS v)
 len:v.2.2.fs.length<=a+2
 m:v.1=0/\v.2.1=eS
structure KZ (S:eF)(t:au)(v:PV):Prop where
 lo:0<=v.1
 hi:v.1<2^64
 sz:v.2.1.size<=1800000000000
 m:v.2.2=PM.none
 txt:S.wire t=2->v.1=0
 num:S.wire t≠2->v.2.1=eS
inductive WM (S:eF)(a:Nat):MT->PM->Prop where
 |mk (d:MT) (fs:List PF) (u:au) (hl:fs.length<=a) (hu:u.size<=a) (hv:∀x∈fs,x.2.length<=a)
  (hm:∀x∈fs,∀f,ed d.fs x.1=some f->f.isMap=true->∀v∈x.2,TN a f.key v)
  (hz:∀x∈fs,∀f sub,ed d.fs x.1=some f->f.isMap=false->fC S f=some sub->∀v∈x.2,v.1=0/\v.2.1=eS)
  (hs:∀x∈fs,∀f sub,ed d.fs x.1=some f->f.isMap=false->fC S f=some sub->∀v∈x.2,WM S a sub v.2.2)
  (ht:∀x∈fs,∀f,ed d.fs x.1=some f->fC S f=none->∀v∈x.2,KZ S f.ty v):WM S a d (.mk fs u)
theorem WM.len (h:WM S a d m):m.fs.length<=a/\m.unk.size<=a/\∀n,(m.get n).length<=a:=by
 cases h with
 |mk _ fs u b c e _ _ _ _=>exact⟨b,c,λn=>xN e⟩
theorem WM.V {a':Nat}(e:a<=a')(h:WM S a d m):WM S a' d m:=by
 induction h with
 |mk d fs u n p b j l o k ih=>
  exact .mk d fs u Vv Vv (λx c=>aM (b x c) e) (λx c f g i v b=>let q:=j x c f g i v b;⟨q.key,q.ky,by have:=q.len;omega,q.m⟩)
   l ih k
theorem WM.none (S:eF)(a:Nat)(d:MT):WM S a d PM.none:=
 .mk d [] eS (aP _) (aP _) (λ_ h=>by cases h) (λ_ h=>by cases h) (λ_ h=>by cases h) (λ_ h=>by cases h) (λ_ h=>by cases h)
structure TO (S:eF)(a:Nat)(d:MT)(n:Int)(vs:List PV):Prop where
 hv:vs.length<=a
 hm:∀f,ed d.fs n=some f->f.isMap=true->∀v∈vs,TN a f.key v
 hz:∀f sub,ed d.fs n=some f->f.isMap=false->fC S f=some sub->∀v∈vs,v.1=0/\v.2.1=eS
 hs:∀f sub,ed d.fs n=some f->f.isMap=false->fC S f=some sub->∀v∈vs,WM S a sub v.2.2
 ht:∀f,ed d.fs n=some f->fC S f=none->∀v∈vs,KZ S f.ty v
theorem WM.put {a':Nat}(h:WM S a d m)(q:a+1<=a'){vs:List PV}(c:TO S a' d n vs):WM S a' d (m.put n vs):=by
 have f:=h.V (show a<=a' by omega);have i:=h.len.1
 cases f with
 |mk _ fs u _ o e j p k l=>
  refine .mk d _ u ?_ o ?_ ?_ ?_ ?_ ?_;.have:=ti n vs fs vs.isEmpty;have g:(PM.mk fs u).fs.length<=a:=i;simp only[PM.fs]at g⊢;split at this<;>omega
  .intro x b;rcases nx n vs fs _ x b with⟨rfl,_⟩|b;.exact c.hv
   .exact e x b
  .intro x b;rcases nx n vs fs _ x b with⟨rfl,_⟩|b;.exact c.hm
   .exact j x b
  .intro x b;rcases nx n vs fs _ x b with⟨rfl,_⟩|b;.exact c.hz
   .exact p x b
  .intro x b;rcases nx n vs fs _ x b with⟨rfl,_⟩|b;.exact c.hs
   .exact k x b
  .intro x b;rcases nx n vs fs _ x b with⟨rfl,_⟩|b;.exact c.ht
   .exact l x b
theorem WM.drop (h:WM S a d m)(n:Int):WM S a d (m.put n []):=by
 cases h with
 |mk _ fs u l j e f k g i=>
  have c:∀x,x∈ik n [] true fs->x∈fs:=λx b=>(nx n [] fs true x b).resolve_left (λq=>by cases q.2)
  refine .mk d _ u ?_ j (λx b=>e x (c x b)) (λx b=>f x (c x b)) (λx b=>k x (c x b)) (λx b=>g x (c x b)) (λx b=>i x (c x b));have:=ti n [] fs true;simp only[PM.fs,List.isEmpty_nil]at this⊢;simp at this;omega
theorem WM.O {a':Nat}(h:WM S a d m)(s:au)(n:a+s.size<=a'):WM S a' d (m.O s):=by
 have g:=h.len.2.1;have f:=h.V (show a<=a' by omega)
 cases f with
 |mk _ fs u e l b i k c j=>
  refine .mk d fs _ e ?_ b i k c j;simp only[PM.unk]at g⊢;rw[bJ];omega
theorem WM.vals (h:WM S a d m)(n:Int):TO S a d n (m.get n):=by
 cases h with
 |mk _ fs u s t l o r p q=>
  refine⟨xN l,?_,?_,?_,?_⟩;.intro f i k v b;have⟨x,c,e,g⟩:=ny b;exact o x c f (by rw[e];exact i) k v (by rw[g];exact b)
  .intro f sub i k j v b;have⟨x,c,e,g⟩:=ny b;exact r x c f sub (by rw[e];exact i) k j v (by rw[g];exact b)
  .intro f sub i k j v b;have⟨x,c,e,g⟩:=ny b;exact p x c f sub (by rw[e];exact i) k j v (by rw[g];exact b)
  .intro f i j v b;have⟨x,c,e,g⟩:=ny b;exact q x c f (by rw[e];exact i) j v (by rw[g];exact b)
theorem WM.dropF (f:fw):∀(l:List fw) {m:PM},WM S a d m->WM S a d (iW f l m)
 | [],_,h=>h
 |o::l,m,h=>by
  rw[Go.Proofs.YtfebdimolnobaaaGreatDoor.iW];refine WM.dropF f l ?_;split;.exact h.drop _
  .exact h
end
def I3 (s:au)(k:Nat):Int:=IW s (s.size-k) k
def Hg {s:au}{k:Nat}(h:¬k<s.size):I3 s k=0:=by
 unfold I3;rw[show s.size-k=0 from by omega];rfl
def DO {s:au}{k:Nat}(h:k<s.size):I3 s k=256*I3 s (k+1)+gh s k:=by
 unfold I3;rw[show s.size-k=(s.size-(k+1))+1 from by omega,IW,dR h]
def uB (s:au):∀d k,s.size-k=d->0<=I3 s k/\I3 s k<256^d
 |0,k,h=>by rw[Hg Vv];decide
 |d+1,k,h=>by
  have a:k<s.size:=Vv;have:=uB s d (k+1) Vv;have b:=kT s k;rw[DO a,Int.pow_succ];omega
def uC {s:au}(h:s.size<=8):0<=xE s/\xE s<2^64:=by
 have a:=uB s _ 0 rfl;have e:I3 s 0=xE s:=rfl;rw[e]at a;refine⟨a.1,Int.lt_of_lt_of_le a.2 ?_⟩;have:=dw (n:=256) (i:=s.size-0) (j:=8) Vy Vv;have b:=Int.ofNat_le.2 this;have c:((256^8:Nat):Int)=2^64:=Vy;rw[c]at b;exact b
def jf {b:au}{a e:Nat}{r:pO}(h:fO b a e= .ok r):r.a=a/\a<r.fr/\a+2<=r.e/\r.fr<=r.e/\r.e<=e/\0<=r.n/\r.n<2^64/\1<=r.num/\r.num<=536870911:=by
 unfold fO at h
 cases h1:iV b a e with
 |error x=>rw[h1]at h;cases h
 |ok x=>
  obtain⟨t,fr⟩:=x;rw[h1]at h;have⟨i,j,l,m⟩:=jm h1;simp only at h;by_cases q:t/8<1\/536870911<t/8;.rw[dR q]at h;cases h
  .rw[dQ q]at h;by_cases k0:t%8=0
   .rw[dR k0]at h
    cases h2:iV b fr e with
    |error x=>rw[h2]at h;cases h
    |ok x=>
     obtain⟨n,f⟩:=x;rw[h2]at h;have⟨u1,u2,u3,u4⟩:=jm h2;simp only[Except.ok.injEq]at h;subst h;refine⟨rfl,?_,?_,?_,?_,u1,u2,?_,?_⟩<;>simp only<;>omega
   .rw[dQ k0]at h;have c:∀(k:Nat),k<=8->0<=xE (b.extract fr (fr+k))/\xE (b.extract fr (fr+k))<2^64:=λk g=>uC (by rw[bf];omega)
    by_cases k1:t%8=1
    .rw[dR k1]at h;by_cases z:fr+8<=e;.rw[dR z]at h;simp only[Except.ok.injEq]at h;subst h;refine⟨rfl,?_,?_,?_,?_,(c 8 Vv).1,(c 8 Vv).2,?_,?_⟩<;>simp only<;>omega
     .rw[dQ z]at h;cases h
    .rw[dQ k1]at h;by_cases k5:t%8=5
     .rw[dR k5]at h;by_cases z:fr+4<=e;.rw[dR z]at h;simp only[Except.ok.injEq]at h;subst h;refine⟨rfl,?_,?_,?_,?_,(c 4 Vv).1,(c 4 Vv).2,?_,?_⟩<;>simp only<;>omega
      .rw[dQ z]at h;cases h
     .rw[dQ k5]at h;by_cases k2:t%8=2
      .rw[dR k2]at h
       cases h2:iV b fr e with
       |error x=>rw[h2]at h;cases h
       |ok x=>
        obtain⟨n,d⟩:=x;rw[h2]at h;have⟨u1,u2,u3,u4⟩:=jm h2;simp only at h;by_cases z:(d:Int)+n<=e;.rw[dR z]at h;simp only[Except.ok.injEq]at h;subst h;refine⟨rfl,?_,?_,?_,?_,Vw,Vw,?_,?_⟩<;>simp only<;>omega
        .rw[dQ z]at h;cases h
      .rw[dQ k2]at h;cases h
def Fy (n:Int):0<=mQ n/\mQ n<2^64:=by unfold mQ;split<;>omega
def Ax {n:Int}(a:0<=n)(h1:n<2^64):0<=Dj n/\Dj n<2^64:=by unfold Dj;split<;>omega
def i8 {k:Nat}{n:Int}(a:0<=n)(h1:n<2^64):0<=lE k n/\lE k n<2^64:=by
 unfold lE;split;.exact Fy n
 .split;.omega
  .split;.exact Ax Vv Vv
   .split;.exact Ax a h1
    .split;.split<;>omega
     .exact⟨a,h1⟩
def fD:∀{l:List fw} {n:Int} {f:fw},ed l n=some f->f.num=n/\f∈l
 | [],_,_,h=>by cases h
 |x::l,n,f,h=>by
  rw[ed]at h;by_cases q:x.num=n;.rw[dR q]at h;cases h;exact⟨q,Vw⟩
  .rw[dQ q]at h;have⟨a,b⟩:=fD h;exact⟨a,by simp[b]⟩
def jx:∀{l:List MT} {s:au} {d:MT},lw l s=some d->d∈l
 | [],_,_,h=>by cases h
 |x::l,s,d,h=>by
  rw[lw]at h;by_cases q:gQ x.name s=true;.rw[dR q]at h;cases h;simp
  .rw[dQ q]at h;simp[jx h]
structure QU (S:eF)(t:au):Prop where
 no:S.msg t=none
 w1:S.wire t=2->gQ t lF=true
 w2:gQ t lF=true->S.wire t=2
structure Ay (S:eF):Prop where
 wire:∀t,(S.msg t).isSome=true->S.wire t=2
 key:∀d∈S.ms,∀f∈d.fs,f.isMap=true->QU S f.key
def mj (S:eF)(d:MT):Prop:=∀f∈d.fs,f.isMap=true->QU S f.key
def BT:gQ lM xD=false:=by
 unfold gQ;rw[ByteArray.toList_eq,ByteArray.toList_eq];decide
def Ay.sub {S:eF}(c:Ay S){f:fw}{sub:MT}(h:fC S f=some sub):mj S sub:=by
 unfold fC at h;by_cases q:f.isMap=true
 .rw[dR q]at h;cases h;intro g b a;have e:∀(x y z:au) (n:Int),fw.isMap ⟨x,y,z,lM,n⟩=false:=λ_ _ _ _=>BT
  simp only[eR,aR,bW,or_false]at b;rcases b with rfl|rfl;.rw[e]at a;cases a
  .rw[e]at a;cases a
 .rw[dQ q]at h;exact λg b a=>c.key sub (jx h) g b a
def KZ.none (S:eF)(t:au):KZ S t PV.none:=⟨Vy,Vy,Vy,rfl,λ_=>rfl,λ_=>rfl⟩
def Hh {S:eF}{b:au}{f:fw}{r:pO}{v:PV}(h:oj S b f r= .ok v)(c:r.kind=S.wire f.ty)(d:b.size<=1800000000000)(a:0<=r.n)(h1:r.n<2^64):KZ S f.ty v:=by
 unfold oj at h;by_cases k:r.kind=2
 .rw[dR k]at h;split at h;.cases h
  .cases h;exact⟨Vw,Vw,by simp only[bf];omega,rfl,λ_=>rfl,λq=>absurd (c.sy.J k) q⟩
 .rw[dQ k]at h;cases h;exact⟨(i8 a h1).1,(i8 a h1).2,aP _,rfl,λq=>absurd (c.J q) k,λ_=>rfl⟩
def tm {b:au}{k e:Nat}{P:PV->Prop}(d:∀n:Int,0<=n->n<2^64->P (lE k n,eS,PM.none)):∀(F:Nat) (l:List PV) (a:Nat) (l':List PV),fY b k e F l a= .ok l'->a<=e->l.length<=a->(∀v∈l,P v)->l'.length<=e/\∀v∈l',P v
 |0,l,a,l',h,ha,hl,hp=>by
  rw[fY]at h;cases h
  exact⟨Vv,hp⟩
 |F+1,l,a,l',h,ha,hl,hp=>by
  rw[fY]at h
  have f:∀n:Int,0<=n->n<2^64->∀v∈l++ [(lE k n,eS,PM.none)],P v:=λn i j v c=>by
   simp only[aW,ba]at c;rcases c with c|rfl;.exact hp v c
   .exact d n i j
  by_cases q:a<e
  .rw[dR q]at h;by_cases z:eM k=0
   .rw[dR z]at h
    cases h2:iV b a e with
    |error x=>rw[h2]at h;cases h
    |ok x=>
     obtain⟨n,y⟩:=x;rw[h2]at h;have⟨u1,u2,u3,u4⟩:=jm h2;exact tm d F _ y l' h u4 Vx (f n u1 u2)
   .rw[dQ z]at h;simp only at h;generalize hy:(if eM k=5 then 4 else 8)=y at h;have m:1<=y/\y<=8:=(by split at hy<;>omega);by_cases z2:a+y<=e;.rw[dR z2]at h;have g:=uC (s:=b.extract a (a+y)) (by rw[bf];omega);exact tm d F _ (a+y) l' h z2 Vx (f _ g.1 g.2)
    .rw[dQ z2]at h;cases h
  .rw[dQ q]at h;cases h;exact⟨Vv,hp⟩
def xO (t:au)(v:PV):∀(l:List PV) (done:Bool) (x:PV),x∈gC t v done l->x=v\/x∈l
 | [],done,x,h=>by
  cases done;.simp[gC]at h;exact .inl h
  .simp[gC]at h
 |y::l,done,x,h=>by
  rw[gC,aW,aW]at h;rcases h with h|h|h
  .split at h;.simp at h;exact .inl h
   .cases h
  .split at h;.cases h
   .simp at h;exact .inr (by simp[h])
  .rcases xO t v l _ x h with h|h;.exact .inl h
   .exact .inr (by simp[h])
def xS (t:au)(v:PV):∀(l:List PV) (done:Bool),(gC t v done l).length<=l.length+(if done then 0 else 1)
 | [],done=>by cases done<;>simp[gC]
 |y::l,done=>by
  rw[gC,aN,aN];generalize hq:(kS t (fS v) (fS y)||iD (fS v) (fS y))=q;have h:=xS t v l (done||q);cases done<;>cases q<;>cases iD (fS v) (fS y)<;>simp at h⊢<;>omega
def PM.put_len (m:PM)(n:Int)(vs:List PV):(m.put n vs).fs.length<=m.fs.length+1:=by
 have:=ti n vs m.fs vs.isEmpty;show(ik n vs vs.isEmpty m.fs).length<=_;split at this<;>omega
def BU {S:eF}{a:Nat}{f:fw}{sm:PM}(c:QU S f.key)(h:WM S a (eR f) sm):TN a f.key (0,eS,gD sm):=by
 have o:=h.len.1
 have k:=(h.vals 1).ht ⟨oh,f.key,eS,lM,1⟩ (by simp[eR,ed]) (by
  unfold fC;rw[dQ (by show¬gQ lM xD=true;rw[BT];decide)]
  exact c.no)
 have l:(gD sm).get 1=(if(sm.get 1).isEmpty then [PV.none]else sm.get 1):=by
  show(fV (fV sm 1) 2).get 1=_
  have j:∀m:PM,(fV m 2).get 1=m.get 1:=λm=>by
   unfold fV;split;.exact PM.get_put_ne m 2 1 _ Vy
   .rfl
  rw[j];unfold fV;split;.exact PM.get_put sm 1 [PV.none] Vw
  .rfl
 have i:∃x rest,(gD sm).get 1=x::rest/\KZ S f.key x:=by
  rw[l]
  cases he:sm.get 1 with
  |nil=>exact⟨PV.none,[],rfl,KZ.none S _⟩
  |cons x rest=>exact⟨x,rest,rfl,k x (by rw[he];simp)⟩
 obtain⟨x,rest,g,b⟩:=i;have d:fS (0,eS,gD sm)=x:=(by show((gD sm).get 1).headD PV.none=x;rw[g];rfl);refine⟨⟨rest,by rw[d];exact g⟩,?_,?_,rfl,rfl⟩;.rw[d];refine⟨b.lo,b.hi,b.sz,λq=>b.txt (c.w2 q),λq=>b.num (λz=> ?_)⟩;rw[c.w1 z]at q;cases q
 .show(fV (fV sm 1) 2).fs.length<=a+2
  have e:∀(m:PM) (n:Int),(fV m n).fs.length<=m.fs.length+1:=λm n=>by
   unfold fV;split;.exact PM.put_len m n _
   .omega
  have:=e sm 1;have:=e (fV sm 1) 2;omega
def mY {S:eF}{a:Nat}{d:MT}{m:PM}{n:Int}{f:fw}{sub:MT}(h:WM S a d m)(b:ed d.fs n=some f)(e:fC S f=some sub):((fh f m).1=0/\(fh f m).2.1=eS)/\WM S a sub (fh f m).2.2:=by
 have i:=(fD b).1;unfold fh;by_cases q:(f.isRep||f.isMap)=true;.rw[dR q];exact⟨⟨rfl,rfl⟩,WM.none S a sub⟩
 .rw[dQ q]
  have c:f.isMap=false:=by
   cases hh:f.isMap with
   |false=>rfl
   |true=>rw[hh,dH]at q;exact absurd rfl q
  rw[i]
  cases hg:m.get n with
  |nil=>exact⟨⟨rfl,rfl⟩,WM.none S a sub⟩
  |cons x rest=>
   have g:x∈m.get n:=by rw[hg];simp
   exact⟨(h.vals n).hz f sub b c e x g,(h.vals n).hs f sub b c e x g⟩
def xT {S:eF}{a a':Nat}{d:MT}{m sm:PM}{n:Int}{f:fw}{sub:MT}(y:mj S d)(h:WM S a d m)(p:ed d.fs n=some f)(j:fC S f=some sub)(u:a+1<=a')(t:WM S a' sub sm):
  WM S a' d (ie S d f m ((fh f m).1,(fh f m).2.1,sm)):=by
 have⟨z,x⟩:=fD p;have⟨⟨s1,s2⟩,_⟩:=mY h p j;have hlen:=h.len.2.2 n;unfold ie;rw[z,s1,s2];have e:∀g,ed d.fs n=some g->g=f:=λg b=>by rw[p]at b;exact(Option.some.inj b).sy
 have hold:=h.vals n;by_cases q:f.isMap=true
 .rw[dR q];have w:sub=eR f:=(by unfold fC at j;rw[dR q]at j;exact(Option.some.inj j).sy);subst w;refine h.put u ⟨?_,λg b _ v c=> ?_,λg o b i _=> ?_,λg o b i _=> ?_,λg b l=> ?_⟩;.have:=xS f.key (0,eS,gD sm) (m.get n) false;show(gC f.key (0,eS,gD sm) false (m.get n)).length<=a';simp at this;omega
  .rw[e g b];rcases xO _ _ _ _ _ c with rfl|c;.exact BU (y f x q) t
   .have:=hold.hm f p q v c;exact⟨this.key,this.ky,by have:=this.len;omega,this.m⟩
  .rw[e g b,q]at i;cases i
  .rw[e g b,q]at i;cases i
  .rw[e g b,j]at l;cases l
 .rw[dQ q]
  have s:f.isMap=false:=by
   cases hh:f.isMap with
   |false=>rfl
   |true=>exact absurd hh q
  by_cases r:f.isRep=true
  .rw[dR r];refine h.put u ⟨Vx,λg b i=> ?_,λg o b _ k v c=> ?_,λg o b _ k v c=> ?_,λg b l=> ?_⟩;.rw[e g b,s]at i;cases i
   .rw[e g b]at k;simp only[aW,ba]at c;rcases c with c|rfl;.exact hold.hz f o p s k v c
    .exact⟨rfl,rfl⟩
   .rw[e g b,j]at k;cases k;simp only[aW,ba]at c;rcases c with c|rfl;.exact(hold.hs f sub p s j v c).V Vv
    .exact t
   .rw[e g b,j]at l;cases l
  .rw[dQ r,dQ (by rw[j];simp)];refine(h.dropF f d.fs).put u ⟨Vx,λg b i=> ?_,λg o b _ k v c=> ?_,λg o b _ k v c=> ?_,λg b l=> ?_⟩;.rw[e g b,s]at i;cases i
   .simp only[ba]at c;subst c;exact⟨rfl,rfl⟩
   .rw[e g b,j]at k;cases k;simp only[ba]at c;subst c;exact t
   .rw[e g b,j]at l;cases l
def wO {S:eF}{a:Nat}{d:MT}{n:Int}{f:fw}{vs:List PV}(k:ed d.fs n=some f)(e:fC S f=none)(m:vs.length<=a)(p:∀v∈vs,KZ S f.ty v):TO S a d n vs:=by
 have h:∀g,ed d.fs n=some g->g=f:=λg b=>by rw[k]at b;exact(Option.some.inj b).sy
 refine⟨m,λg b i=> ?_,λg j b _ c=> ?_,λg j b _ c=> ?_,λg b _ v l=> ?_⟩;.rw[h g b]at i;unfold fC at e;rw[dR i]at e;cases e
 .rw[h g b,e]at c;cases c
 .rw[h g b,e]at c;cases c
 .rw[h g b];exact p v l
def xU {S:eF}{a a':Nat}{d:MT}{m:PM}{n:Int}{f:fw}{v:PV}(h:WM S a d m)(e:ed d.fs n=some f)(c:fC S f=none)(g:a+1<=a')(i:KZ S f.ty v):WM S a' d (ie S d f m v):=by
 have⟨k,l⟩:=fD e;have hlen:=h.len.2.2 n;unfold ie;rw[k]
 have j:¬f.isMap=true:=λq=>by
  unfold fC at c;rw[dR q]at c;cases c
 rw[dQ j];split
 .refine h.put g (wO e c Vx λx b=> ?_);simp only[aW,ba]at b;rcases b with b|rfl;.exact(h.vals n).ht f e c x b
  .exact i
 .split;.exact(h.drop n).V Vv
  .refine(h.dropF f d.fs).put g (wO e c Vx λx b=> ?_);simp only[ba]at b;subst b;exact i
def lz {S:eF}{b:au}(g:Ay S)(i:b.size<=1800000000000):∀(F:Nat) (d:MT) (m:PM) (a e deep:Nat) (m':PM),eY S b F d m a e deep= .ok m'->mj S d->a<=e->e<=b.size->WM S a d m->WM S e d m'
 |0,d,m,a,e,deep,m',h,_,ha,_,hw=>by
  rw[eY]at h;cases h
  exact hw.V ha
 |F+1,d,m,a,e,deep,m',h,hd,ha,he,hw=>by
  rw[eY]at h;by_cases q:a<e
  .rw[dR q]at h
   cases hr:fO b a e with
   |error x=>rw[hr]at h;cases h
   |ok r=>
    rw[hr]at h;have⟨G,H,I,y,j,C,D,_,_⟩:=jf hr;have p:WM S r.e d (m.O (b.extract r.a r.e)):=hw.O _ (by rw[bf];omega);simp only at h
    cases hf:ed d.fs r.num with
    |none=>
     rw[hf]at h
     exact lz g i F d _ r.e e deep m' h hd j he p
    |some f=>
     rw[hf]at h;simp only at h;by_cases k:r.kind=fX S f
     .rw[dR k]at h
      cases c:fC S f with
      |some sub=>
       rw[c]at h;simp only at h;by_cases hfar:pU S sub (deep+1)=true;.rw[dR hfar]at h;cases h
       .rw[dQ hfar]at h
        cases hl:eY S b F sub (fh f m).2.2 r.fr r.e (deep+1)with
        |error x=>rw[hl]at h;cases h
        |ok E=>
         rw[hl]at h;have z:=lz g i F sub _ r.fr r.e (deep+1) E hl (g.sub c) y Vv ((mY hw hf c).2.V Vv)
         exact lz g i F d _ r.e e deep m' h hd j he (xT hd hw hf c Vv z)
      |none=>
       rw[c]at h;simp only at h
       cases hv:oj S b f r with
       |error x=>rw[hv]at h;cases h
       |ok v=>
        rw[hv]at h;have A:r.kind=S.wire f.ty:=(by rw[k];unfold fX;rw[dQ (λq=>by unfold fC at c;rw[dR q]at c;cases c)]);exact lz g i F d _ r.e e deep m' h hd j he (xU hw hf c Vv (Hh hv A i C D))
     .rw[dQ k]at h;by_cases k2:r.kind=2/\f.isRep=true
      .rw[dR k2]at h
       cases hp:mL S b f (m.get f.num) r.fr r.e with
       |error x=>rw[hp]at h;cases h
       |ok l=>
        rw[hp]at h;have o:¬f.isMap=true:=λq=>k (by unfold fX;rw[dR q];exact k2.1)
        have s:S.wire f.ty≠2:=λq=>k (by unfold fX;rw[dQ o,q];exact k2.1)
        have c:fC S f=none:=by
         unfold fC;rw[dQ o]
         cases hm:S.msg f.ty with
         |none=>rfl
         |some x=>exact absurd (g.wire f.ty (by rw[hm];rfl)) s
        have B:=(fD hf).1;rw[B]at hp h;have t:=tm (P:=KZ S f.ty) (λn u w=>⟨(i8 u w).1,(i8 u w).2,aP _,rfl,λq=>absurd q s,λ_=>rfl⟩) _ _ _ _ hp y (by have:=hw.len.2.2 r.num;omega) ((hw.vals r.num).ht f hf c);exact lz g i F d _ r.e e deep m' h hd j he (hw.put Vv (wO hf c t.1 t.2))
      .rw[dQ k2]at h;exact lz g i F d _ r.e e deep m' h hd j he p
  .rw[dQ q]at h;cases h;exact hw.V ha
section
variable {r:pO} {f:fw} {S:eF} {b:au} {d:MT} {m:PM}
def zO (S:eF)(b:au)(F:Nat)(d:MT)(m:PM)(a e deep:Nat):Fx PM:=
 if pU S d deep then .error (11,(a:Int))else eY S b F d m a e deep
def ot (S:eF)(b:au)(F:Nat)(f:fw)(m:PM)(r:pO)(deep:Nat):Fx PV:=
 match fC S f with
 |some sub=>
  match zO S b F sub (fh f m).2.2 r.fr r.e (deep+1)with
  | .error x=> .error x
  | .ok c=> .ok ((fh f m).1,(fh f m).2.1,c)
 |none=>oj S b f r
def Hi (S:eF)(d:MT)(f:fw)(m:PM):Fx PV->Fx PM
 | .error x=> .error x
 | .ok v=> .ok (ie S d f m v)
def qr (S:eF)(b:au)(F:Nat)(d:MT)(f:fw)(m:PM)(r:pO)(deep:Nat):Fx PM:=Hi S d f m (ot S b F f m r deep)
section
variable {S:eF} {b:au} {F a e deep:Nat} {d:MT} {m:PM}
theorem iR (h:¬a<e):eY S b F d m a e deep= .ok m:=by
 cases F with
 |zero=>rfl
 |succ F=>rw[eY,dQ h]
theorem jn (h:a<e){x:Int×Int}(c:fO b a e= .error x):eY S b (F+1) d m a e deep= .error x:=by
 rw[eY,dR h,c]
def La (S:eF)(b:au)(F:Nat)(d:MT)(a e deep:Nat):Fx PM->Fx PM
 | .error x=> .error x
 | .ok m=>eY S b F d m a e deep
theorem Az (h:a<e)(i:fO b a e= .ok r)(c:ed d.fs r.num=some f)(g:r.kind=fX S f):eY S b (F+1) d m a e deep=La S b F d r.e e deep (qr S b F d f m r deep):=by
 rw[eY,dR h,i];simp only;rw[c];simp only;rw[dR g];unfold qr ot zO
 cases hs:fC S f with
 |some sub=>
  simp only;by_cases hfar:pU S sub (deep+1)=true;.rw[dR hfar,dR hfar];rfl
  .rw[dQ hfar,dQ hfar]
   cases eY S b F sub (fh f m).2.2 r.fr r.e (deep+1)<;>rfl
 |none=>
  simp only;cases oj S b f r<;>rfl
theorem xV (h:a<e)(k:fO b a e= .ok r)(g:ed d.fs r.num=some f)(i:r.kind≠fX S f)(c:r.kind=2)(j:f.isRep=true):
  eY S b (F+1) d m a e deep=La S b F d r.e e deep (match mL S b f (m.get f.num) r.fr r.e with| .error x=> .error x| .ok l=> .ok (m.put f.num l)):=by
 rw[eY,dR h,k];simp only;rw[g];simp only;rw[dQ i,dR ⟨c,j⟩];cases mL S b f (m.get f.num) r.fr r.e<;>rfl
theorem pB (h:a<e)(c:fO b a e= .ok r)(g:∀f,ed d.fs r.num=some f->r.kind≠fX S f/\¬(r.kind=2/\f.isRep=true)):
  eY S b (F+1) d m a e deep=eY S b F d (m.O (b.extract r.a r.e)) r.e e deep:=by
 rw[eY,dR h,c];grind
end
theorem Oz {F a e deep:Nat}{m2:PM}(i:Ay S)(j:b.size<=1800000000000)(n:mj S d)(g:WM S a d m)(s:fO b a e= .ok r)(y:e<=b.size)(c:ed d.fs r.num=some f)(p:r.kind=fX S f)
  (h:qr S b F d f m r deep= .ok m2):WM S r.e d m2:=by
 have⟨z,A,B,o,C,t,u,_,_⟩:=jf s;unfold qr ot at h
 cases hs:fC S f with
 |some sub=>
  rw[hs]at h;simp only at h;unfold zO at h;by_cases hfar:pU S sub (deep+1)=true;.rw[dR hfar]at h;cases h
  .rw[dQ hfar]at h
   cases hl:eY S b F sub (fh f m).2.2 r.fr r.e (deep+1)with
   |error x=>rw[hl]at h;cases h
   |ok w=>
    rw[hl]at h;cases h;have k:=lz i j F sub _ r.fr r.e (deep+1) w hl (i.sub hs) o Vv ((mY g c hs).2.V Vv)
    exact xT n g c hs Vv k
 |none=>
  rw[hs]at h;simp only at h
  cases hv:oj S b f r with
  |error x=>rw[hv]at h;cases h
  |ok v=>
   rw[hv]at h;cases h;have l:r.kind=S.wire f.ty:=(by rw[p];unfold fX;rw[dQ (λq=>by unfold fC at hs;simp_all)]);exact xU g c hs Vv (Hh hv l j t u)
theorem OA {a e:Nat}{l:List PV}(u:Ay S)(i:WM S a d m)(w:fO b a e= .ok r)(g:ed d.fs r.num=some f)(p:r.kind≠fX S f)(z:r.kind=2)
  (h:mL S b f (m.get f.num) r.fr r.e= .ok l):WM S r.e d (m.put f.num l)/\S.wire f.ty≠2:=by
 have⟨A,B,C,y,D,E,G,_,_⟩:=jf w;have t:¬f.isMap=true:=λq=>p (by unfold fX;simp_all)
 have c:S.wire f.ty≠2:=λq=>p (by unfold fX;simp_all)
 have s:fC S f=none:=by
  unfold fC;rw[dQ t]
  cases hm:S.msg f.ty with
  |none=>rfl
  |some x=>exact absurd (u.wire f.ty (by simp_all)) c
 have v:=(fD g).1;rw[v]at h⊢;have j:=tm (P:=KZ S f.ty) (λn k o=>⟨(i8 k o).1,(i8 k o).2,aP _,rfl,λq=>absurd q c,λ_=>rfl⟩) _ _ _ _ h y (by have:=i.len.2.2 r.num;omega) ((i.vals r.num).ht f g s);exact⟨i.put Vv (wO g s j.1 j.2),c⟩
end
def dZ.new1 (w:aw)(o:Obj)(cs:aq)(T:TypeId):dZ ((w.alloc o).alloc (.cells cs T)) (w.heap.size+1) cs T:=by
 have h:=dZ.new (w.alloc o) cs T;have e:(w.alloc o).heap.size=w.heap.size+1:=Vw;rw[e]at h;exact h
section
variable {w:aw} {P:Value->PM->Prop}
theorem eP.nil (w:aw)(Z:ax)(T:TypeId)(k:Nat):eP w Z T k (ai) 0 []:=⟨br _ _ _ _,λb a=>by cases a⟩
def kC (P:Value->PM->Prop):ay->List PV->Prop
 |cs,[]=>cs= []
 |cs,v::vs=>∃mv rest,cs= .int .u64 v.1::ag v.2.1::mv::ag v.2.2.unk::rest/\P mv v.2.2/\kC P rest vs
def jy (P:Value->PM->Prop)(w:aw)(Z:ax)(vv:Value)(l:List PV):Prop:=
 ∃VI,eP w Z 55 4 vv l.length VI/\kC P VI l
def mD (P:Value->PM->Prop)(w:aw)(Z:ax):ay->List PF->Prop
 |cs,[]=>cs= []
 |cs,f::fs=>∃vv rest,cs=aa f.1::vv::rest/\jy P w Z vv f.2/\mD P w Z rest fs
def qZ:Nat->aw->(ax)->Value->PM->Prop
 |0,_,_,_,_=>False
 |k+1,w,Z,v,m=>∃cs,eP w Z 58 2 v m.fs.length cs/\mD (qZ k w Z) w Z cs m.fs
theorem kC.imp {Q:Value->PM->Prop}(h:∀v m,P v m->Q v m):∀{l:List PV} {cs:ay},kC P cs l->kC Q cs l
 | [],_,h1=>h1
 |_::_,_,⟨mv,rest,h1,h2,h3⟩=>⟨mv,rest,h1,h _ _ h2,kC.imp h h3⟩
theorem jy.V {Q:Value->PM->Prop}{Z Y:ax}(e:∀v m,P v m->Q v m)(f:∀b,Z b->b<w.heap.size->Y b){vv:Value}{l:List PV}(h:jy P w Z vv l):jy Q w Y vv l:=by
 obtain⟨a,c,d⟩:=h;exact⟨a,c.V f,d.imp e⟩
theorem mD.V {Q:Value->PM->Prop}{Z Y:ax}(a:∀v m,P v m->Q v m)(c:∀b,Z b->b<w.heap.size->Y b):∀{fs:List PF} {cs:ay},mD P w Z cs fs->mD Q w Y cs fs
 | [],_,h1=>h1
 |_::_,_,⟨vv,rest,h1,h2,h3⟩=>⟨vv,rest,h1,h2.V a c,mD.V a c h3⟩
theorem qZ.V {Z Y:ax}(a:∀b,Z b->b<w.heap.size->Y b):∀{k:Nat} {v:Value} {m:PM},qZ k w Z v m->qZ k w Y v m
 |0,_,_,h=>h
 |_+1,_,_,⟨cs,h1,h2⟩=>⟨cs,h1.V a,h2.V (λ_ _ h=>qZ.V a h) a⟩
theorem kC.len:∀{l:List PV} {cs:ay},kC P cs l->cs.length=l.length*4
 | [],_,h=>by rw[show _= []from h];rfl
 |_::l,_,⟨mv,rest,h1,_,h3⟩=>by rw[h1];simp[h3.len];omega
theorem kC.append:∀{l r:List PV} {cs ds:ay},kC P cs l->kC P ds r->kC P (cs++ds) (l++r)
 | [],_,_,_,h1,h2=>by rw[show _= []from h1];exact h2
 |_::l,r,_,ds,⟨mv,rest,h1,h3,h4⟩,h2=>by rw[h1];exact⟨mv,rest++ds,rfl,h3,h4.append h2⟩
theorem kC.get:∀{l:List PV} {cs:ay},kC P cs l->∀{i:Nat} {v:PV},l[i]?=some v->
  ∃mv,P mv v.2.2/\cs[i*4]?=some (.int .u64 v.1)/\cs[i*4+1]?=some (ag v.2.1)/\cs[i*4+2]?=some mv/\cs[i*4+3]?=some (ag v.2.2.unk)
 | [],_,_,i,v,h=>by simp at h
 |x::l,_,⟨mv,rest,h1,h2,h3⟩,0,v,h=>by
  simp at h;subst h;subst h1
  exact⟨mv,h2,rfl,rfl,rfl,rfl⟩
 |x::l,_,⟨mv,rest,h1,h2,h3⟩,i+1,v,h=>by
  have⟨a,b,c,d,f,g⟩:=h3.get (i:=i) (v:=v) (by simpa using h);subst h1;have e:∀j,(i+1)*4+j=(i*4+j)+4:=λj=>Vv
  refine⟨a,b,?_,?_,?_,?_⟩;.rw[show(i+1)*4=i*4+4 from by omega];exact c
  .rw[e];exact d
  .rw[e];exact f
  .rw[e];exact g
end
def fJ (w:aw)(B b:Nat)(p:Value)(l:ap):Prop:=Lib.BuilderAt 285 5 B b p (Lib.byteCells l) w
abbrev eG (b:Nat):Value:=ah b
def AN:(prog.info? 5).map (λi=>(i.zero,i.size,i.bytes))=some (some (.int .u8 0),1,1):=VA
def El:(prog.info? 283).map (·.size)=some 2:=VA
def LX:liesAt prog prog.depth 285 (2/prog.cellsOf 285) 0 283 1=true:=VA
structure Wr (B:Nat)(w w':aw):Prop where
 bel:Below B w w'
 fr:∀i cs T,T≠5->T≠285->dZ w i cs T->dZ w' i cs T
def Wr.refl (B:Nat)(w:aw):Wr B w w:=⟨Below.refl _ _,λ_ _ _ _ _ h=>h⟩
def Wr.J {B:Nat}{a b c:aw}(h:Wr B a b)(k:Wr B b c):Wr B a c:=⟨h.bel.J k.bel,λi cs T d e q=>k.fr i cs T d e (h.fr i cs T d e q)⟩
def Wr.of {B:Nat}{w w':aw}(h:ak w w')(a:B<=w.heap.size):Wr B w w':=
 ⟨⟨h.os,h.tape,h.output,h.size,λi b=>h.block i Vv⟩,λ_ _ _ _ _ q=>q.G h q.lt⟩
def LY {w:aw}{B n k:Nat}{v:Value}{xs:ay}{e T:TypeId}{i:Nat}{cs:aq}(h:w.ownsRow B e k v n xs)(c:T≠e)(a:dZ w i cs T):some i≠v.ownBlock:=by
 rcases h.2 with⟨rfl,_⟩|⟨g,b,f,rfl,_,d,_⟩;.intro q;cases q
 .intro q;obtain rfl:i=g:=Option.some.inj q;unfold dZ at a;rw[d]at a;injection a with a
  injection a with _ h2 _
  exact c h2.sy
def LZ {w:aw}{b i:Nat}{cs cs':aq}{T T':TypeId}(h:dZ w b cs T)(a:dZ w i cs' T')(c:T'≠T):b≠i:=by
 rintro rfl;unfold dZ at h a;rw[h]at a;injection a with a
 injection a with _ h2 _
 exact c h2.sy
def yB (b:Nat)(w:aw)(c:w.cell? (aj b 0)=some (eG b)):
  Calls prog 228 #[eG b] w λe w'=>e= .returned (.tuple #[])/\w'=w:=by
 have⟨j,a,_⟩:=bi.1 El;go_in
 go_wp2;rw[Lib.run_neq_ptr_same w _ underlying281 a];go_wp2;go_end0;exact⟨rfl,rfl⟩
def Em (b:Nat)(w:aw)(g:w.cell? (aj b 0)=some (.pointer none))(a:w.shape? b=some (285,2))(f:w.frozen? (aj b 0)=false):
  Calls prog 228 #[eG b] w λe w'=>e= .returned (.tuple #[])/\w'=w.setCell (aj b 0) (eG b):=by
 have⟨j,c,d⟩:=bi.1 El;go_in
 go_wp2;rw[Lib.run_to_unsafe w (aj b 0) underlying281 underlying322 c (by rw[d];decide) a (Nat.zero_lt_succ 1)];simp only[Result.andThen];rw[Oper.upon_value];go_wp2;rw[run_callFunc_extern func313 VA VA VA (e:=Extern.AbiNoEscape.same) VA];rw[Lib.run_noEscape];simp only[Result.andThen];rw[Oper.upon_value];go_wp2;rw[Lib.run_from_unsafe w (aj b 0) underlying322 underlying281 c a LX];simp only[Result.andThen];rw[Oper.upon_value];go_wp2;go_end0;exact⟨rfl,rfl⟩
def En (B b:Nat)(l:ap)(c:UInt8)(w:aw)(h:fJ w B b (eG b) l)(hlen:l.length+1<=2^47)(F:B<=w.heap.size):
  Calls prog 391 #[eG b,.int .u8 c.toNat] w λe w'=>e= .returned .nilIface/\fJ w' B b (eG b) (l++ [c])/\Wr B w w':=by
 have⟨J,G,z,A,C⟩:=info_parts AN;obtain⟨s,v,d,o,D⟩:=h;have E:w.cell? (aj b 0)=some (eG b):=by rw[Lib.cell_of_heap d];rfl
 have c1:w.cell? (aj b 1)=some v:=by rw[Lib.cell_of_heap d];rfl
 have y:(Lib.byteCells l).length=l.length:=Lib.byteCells_length l;go_in
 go_wp2_with fail;refine(yB b w E).V ?_;rintro e w1 ⟨rfl,rfl⟩;go_wp2_with (at_builtin;refine wpList_append_own _ rfl _ _ 140 rfl B 5 J (.int .u8 0) 1 1 underlying140 G z A C rfl Vy _ _ _ rfl (o.alloc _) (aj w1.heap.size 0) 1 1 [.int .u8 c.toNat] rfl rfl ?c1 ?c2 ?c3 ?c4 ?c5 ?_)
 case c1=>
  intro j u m
  match j,m with
  |0,m=>simp at m;subst m;simp[Addr.add]
 case c2=>intro u t;simp at t;subst t;rfl
 case c3=>unfold maxLen;omega
 case c4=>omega
 case c5=>simp;omega
 intro v' w2 r n _;have x:b<w1.heap.size:=dZ.lt d;have f:w2.heap[b]?=some (.cells #[eG b,v] 285 (0,0)):=(by rw[n.block b Vx (λe=>D e.sy),Lib.alloc_old w1 _ b x];exact d);have N:w2.cell? (aj b 0)=some (eG b):=by rw[Lib.cell_of_heap f];rfl
 have O:w2.cell? (aj b 1)=some v:=by rw[Lib.cell_of_heap f];rfl
 have P:w2.frozen? (aj b 1)=false:=Lib.frozen_of_heap f 1
 obtain⟨g,a,rfl⟩:∃g a,v'= Vr g (l.length+1) a:=by
  rcases r.2 with⟨_,Q⟩|⟨g,a,M,I,_⟩;.omega
  .exact⟨g,a,I⟩
 go_wp2;go_ret;refine⟨rfl,?_,?_⟩;.unfold fJ;rw[Lib.byteCells_append];exact Lib.BuilderAt.put (T:=285) (e:=5) s f (bs':=Lib.byteCells l++Lib.byteCells [c]) (by simpa [Lib.byteCells,y]using r) Vy
 .exact⟨(((Below.refl B _).alloc Vv _).grown n Vx (λk H=>(o.lt k H).1)).setCell (p:=(aj b 1)) s _,λi cs T K L q=>((q.alloc _).grown n (LY o K q)).other _ _ (LZ d q L)⟩
def Aa (B b:Nat)(l:ap)(s:au)(w:aw)(h:fJ w B b (eG b) l)(hlen:l.length+s.size<=2^47)(E:B<=w.heap.size):
  Calls prog 237 #[eG b,ag s] w λe w'=>e= .returned (.tuple #[aa s.size,.nilIface])/\fJ w' B b (eG b) (l++s.data.toList)/\Wr B w w':=by
 have⟨H,F,y,z,A⟩:=info_parts AN;obtain⟨r,v,c,j,C⟩:=h;have D:w.cell? (aj b 0)=some (eG b):=by rw[Lib.cell_of_heap c];rfl
 have L:w.cell? (aj b 1)=some v:=by rw[Lib.cell_of_heap c];rfl
 have x:(Lib.byteCells l).length=l.length:=Lib.byteCells_length l;go_in
 go_wp2_with fail;refine(yB b w D).V ?_;rintro e w1 ⟨rfl,rfl⟩;go_wp2_with (at_builtin;refine Lib.wpList_append_own_string _ rfl _ _ 140 9 rfl B 5 H underlying140 underlying9 F y z A _ _ _ rfl j s rfl ?c3 ?c4 ?c5 ?_)
 case c3=>unfold maxLen;omega
 case c4=>omega
 case c5=>omega
 intro v' w2 n f _;have u:b<w1.heap.size:=dZ.lt c;have d:w2.heap[b]?=some (.cells #[eG b,v] 285 (0,0)):=(by rw[f.block b u (λe=>C e.sy)];exact c);have M:w2.cell? (aj b 0)=some (eG b):=by rw[Lib.cell_of_heap d];rfl
 have N:w2.cell? (aj b 1)=some v:=by rw[Lib.cell_of_heap d];rfl
 have O:w2.frozen? (aj b 1)=false:=Lib.frozen_of_heap d 1
 obtain⟨o,t,a,rfl⟩:∃o t a,v'= .slice o t a:=by
  rcases n.2 with⟨m,_⟩|⟨g,a,K,m,_⟩;.exact⟨_,_,_,m⟩
  .exact⟨_,_,_,m⟩
 go_wp2;go_ret2;refine⟨rfl,?_,?_⟩;.unfold fJ;rw[Lib.byteCells_append];exact Lib.BuilderAt.put (T:=285) (e:=5) r d (bs':=Lib.byteCells l++Lib.strCells s) (by simpa [Lib.strCells_length,x]using n) Vy
 .exact⟨((Below.refl B _).grown f Vv (λk G=>(j.lt k G).1)).setCell (p:=(aj b 1)) r _,λi cs T I J q=>(q.grown f (LY j I q)).other _ _ (LZ c q J)⟩
def Q8 (B b n:Nat)(w:aw)(m:B<=b)(a:dZ w b #[eG b,ai] 285)(c:B<=w.heap.size)(s:n<=2^47):
  Calls prog 229 #[eG b,aa n] w λe w'=>e= .returned (.tuple #[])/\fJ w' B b (eG b) []/\Below B w w':=by
 have mixed:prog.follows Departure.mixedOrders=true:=VA;have⟨cs,k,o,l⟩:=Lib.run_makeNoZero (P:=prog) w.drew #[3] 140 5 underlying140 n Vv;have h:IntKind.i64.wrap (IntKind.i64.wrap 0+(n:Int))=n:=(by rw[IntKind.wrap_i64,IntKind.wrap_i64];omega);have d:(callFunc 314 #[aa (IntKind.i64.wrap (IntKind.i64.wrap 0+(n:Int)))]).run prog w.drew= .ok (.value (Vr w.drew.heap.size n cs.size)) (w.drew.drew.drew.alloc (.cells cs 5)):=(by rw[h,run_callFunc_extern func314 VA VA VA (e:=Extern.BytealgMakeNoZero.makeNoZero #[3] #[140]) VA,k];rfl);have j:=a.lt;have p:w.drew.cell? (aj b 1)=some (ai):=a.cell 1;have i:dZ (w.alloc (.cells cs 5)) b #[eG b,ai] 285:=a.alloc _;have q:(w.alloc (.cells cs 5)).cell? (aj b 1)=some (ai):=i.cell 1;have r:(w.alloc (.cells cs 5)).frozen? (aj b 1)=false:=i.I.2 1
 have f:∀W:aw,(Builtin.copy_ #[140,140] 3 #[Vr w.heap.size 0 cs.size,ai]).run prog W= .ok (goInt 0) W:=
  λW=>run_copy_none W 140 140 3 5 _ _ 0 cs.size 0 0 underlying140 VA rfl
 clear h;have g:=Lib.grown_fresh (T:=285) (e:=5) (cs:=cs) m a c (l VC) Vy;rw[World.setCell_alloc_past _ _ _ _ j]at g;go_in
 go_wp2;go_region_o
 all_goals (go_wp2;go_end0;exact⟨rfl,g⟩)
def Q9 (B b n:Nat)(w:aw)(d:B<=b)(a:dZ w b #[.pointer none,ai] 285)(f:B<=w.heap.size)(m:n<=2^47):
  Calls prog 151 #[eG b,aa n] w λe w'=>e= .returned (.tuple #[])/\fJ w' B b (eG b) []/\Below B w w':=by
 have mixed:prog.follows Departure.mixedOrders=true:=VA;have c:dZ (w.setCell (aj b 0) (eG b)) b #[eG b,ai] 285:=a.set 0 _;have h:(w.setCell (aj b 0) (eG b)).cell? (aj b 1)=some (ai):=c.cell 1;have g:Below B w (w.setCell (aj b 0) (eG b)):=(Below.refl B w).setCell (p:=(aj b 0)) d _;have l:fJ (w.setCell (aj b 0) (eG b)) B b (eG b) []:=⟨d,ai,c,br _ _ _ _,by simp[Value.ownBlock]⟩;have i:(w.setCell (aj b 0) (eG b)).drew.cell? (aj b 1)=some (ai):=h;go_in
 go_wp2_with fail;refine(Em b w (a.cell 0) (by simp[World.shape?,show w.heap[b]?=_ from a]) (a.I.2 0)).V ?_;rintro e w' ⟨rfl,rfl⟩;go_wp2;go_region_o
 all_goals go_wp2_with (go_at_call 229;refine(Q8 B b n (w.setCell (aj b 0) (eG b)).drew d c (by simpa [World.setCell,World.drew,-World.drew_eq]using f) m).V ?_;rintro e w' ⟨rfl,j,k⟩)
 all_goals first
  |(go_end0;exact⟨rfl,j,g.drew.J k⟩)
  |(go_end0;exact⟨rfl,l.drew,g.drew⟩)
def L0 (B b:Nat)(l:ap)(w:aw)(h:fJ w B b (eG b) l)(n:B<=w.heap.size):
  Calls prog 155 #[eG b] w λe w'=>e= .returned (ag ⟨l.toArray⟩)/\Below B w w':=by
 have mixed:prog.follows Departure.mixedOrders=true:=VA;obtain⟨L,v,c,i,G⟩:=h;have z:∀(W:aw) (q:aC),(Builtin.unsafeString_ #[357,3] 9 #[.pointer q,aa 0]).run prog W= .ok (.string .empty) W:=λW q=>Lib.run_unsafeString_none W _ _ _ q
 rw[Lib.byteCells_length]at i;have F:=dZ.lt c;rcases i.2 with⟨rfl,I⟩|⟨g,a,d,rfl,C,y,s,D,t,o⟩
 .obtain rfl:=List.length_eq_zero_iff.1 I;have f:w.drew.cell? (aj b 1)=some (ai):=dZ.cell c 1;have k:(Builtin.unsafeSliceData_ #[140] 357 #[ai]).run prog w.drew= .ok (.pointer none) w.drew:=rfl;go_in
  go_wp2;go_region_o
  all_goals (go_wp2;go_ret;exact⟨rfl,Below.drew (Below.refl B w)⟩)
 .cases l with
  |nil=>
   by_cases hc0:a=0
   .subst hc0;have f:w.drew.cell? (aj b 1)=some (Vr g 0 0):=dZ.cell c 1
    have k:(Builtin.unsafeSliceData_ #[140] 357 #[Vr g 0 0]).run prog w.drew= .ok (ah w.drew.heap.size) (w.drew.alloc (.view (aj g 0) 5)):=
     Lib.run_unsafeSliceData_zero w.drew _ _ 5 underlying357 (aj g 0) 0 (5,d.size) (by have m:w.drew.heap[g]?=some (.cells d 5 (0,0)):=y;simp[World.shape?,m])
    have E:(w.drew.alloc (.view (aj g 0) 5)).cell? (aj b 1)=some (Vr g 0 0):=(dZ.alloc (w:=w.drew) c _).cell 1;have K:(w.alloc (.view (aj g 0) 5)).drew.cell? (aj b 1)=some (Vr g 0 0):=E;have J:w.cell? (aj b 1)=some (Vr g 0 0):=f;go_in
    go_wp2;go_region_o
    all_goals (go_wp2;go_ret;exact⟨rfl,(Below.drew (Below.refl B w)).alloc n _⟩)
   .have f:w.drew.cell? (aj b 1)=some (Vr g 0 a):=dZ.cell c 1
    have k:(Builtin.unsafeSliceData_ #[140] 357 #[Vr g 0 a]).run prog w.drew= .ok (ah g) w.drew:=
     Lib.run_unsafeSliceData_row _ _ _ _ _ _ hc0
    clear hc0 s t;go_in
    go_wp2;go_region_o
    all_goals (go_wp2;go_ret;exact⟨rfl,Below.drew (Below.refl B w)⟩)
  |cons x r=>
   have u:x::r≠ []:=Vw;generalize x::r=l at*;have A:l.length≠0:=by simpa using u
   have f:w.drew.cell? (aj b 1)=some (Vr g l.length a):=dZ.cell c 1
   have k:(Builtin.unsafeSliceData_ #[140] 357 #[Vr g l.length a]).run prog w.drew= .ok (ah g) w.drew:=
    Lib.run_unsafeSliceData_row _ _ _ _ _ _ Vv
   have z:(Builtin.unsafeString_ #[357,3] 9 #[ah g,aa l.length]).run prog w.drew= .ok (ag ⟨l.toArray⟩) (w.drew.freeze (aj g 0) l.length):=(by refine Lib.run_unsafeString_row w.drew 357 3 9 5 underlying357 VA g d.size (by have m:w.drew.heap[g]?=some (.cells d 5 (0,0)):=y;simp[World.shape?,m]) l u Vv (by unfold maxLen at D;omega) ?_;intro j x H;exact i.cells (g:=g) rfl j (.int .u8 x.toNat) (by simp[Lib.byteCells,H]));clear A s t;go_in
   go_wp2;go_region_o
   all_goals (go_wp2;go_ret;exact⟨rfl,Lib.below_freeze (Below.drew (Below.refl B w)) (p:=(aj g 0)) C _⟩)
end Go.Proofs.YtfebdimolnobaaaGreatDoor
namespace Go.Proofs
open Go.Shelf
def Tryz.laysLn_ren:Go.Shelf.Ren:=⟨fun|129=>255|n=>n,fun|53=>53|3=>3|4=>4|46=>295|5=>5|9=>9|n=>n,fun|n=>n⟩
theorem Tryz.laysLn:Go.Proofs.Lays.n129 Tryz.prog Tryz.laysLn_ren:=by constructor<;>first|kernel_rfl|(intro w;kernel_rfl)
end Go.Proofs
namespace Go.Proofs.YtfebdimolnobaaaGreatDoor
open Go.RowKit Go.Proofs.Tryz
section
open Go.ChangeShapes Go.WideShapes Go.RowKit Go.Deep Go.Proofs.YtfebdimolnobaaaGreatDoor.Rows
def jB {s:au}{l:ap}(h:s.data.toList=l):s=⟨l.toArray⟩:=by
 cases s;simp only at h;subst h;rfl
def IM:prog.cellsOf 9=1:=VA
def NG:prog.cellsOf 3=1:=VA
section
variable {H:Type}
def NH (d:DataW H):1<=uptoBulk d:=by
 cases d with
 |lit l=>cases l<;>simp[uptoBulk]
 |_=>simp[uptoBulk]
def NI:∀l:List (DataW H),l.length<=uptoBulkAll l
 | []=>aP _
 |d::l=>by have:=NI l;have:=NH d;rw[uptoBulkAll,bw];omega
def Sm {n:Int}(h:(Lit.int .i64 n).wf=true): -9223372036854775808<=n/\n<=9223372036854775807:=by
 have a:(decide (IntKind.i64.min<=n)&&decide (n<=IntKind.i64.max))=true:=h;simp only[aQ,dS]at a;exact a
end
end
end Go.Proofs.YtfebdimolnobaaaGreatDoor
