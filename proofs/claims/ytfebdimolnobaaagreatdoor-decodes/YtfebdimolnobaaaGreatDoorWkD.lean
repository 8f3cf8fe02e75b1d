import Derived.Test.YtfebdimolnobaaaGreatDoorRrD
import Derived.Test.YtfebdimolnobaaaGreatDoorMdV
import Derived.Shelf.SlIter.Collect
set_option maxRecDepth 100000
set_option maxHeartbeats 8000000
set_option linter.all false
namespace Go.Proofs.YtfebdimolnobaaaGreatDoor
open Go.RowKit Go.Proofs.Tryz
section
open Tq
def iN (s:au)(a k:Nat):Fx (Int×Nat):=
 match(if ed k=0 then j8 s a s.size else if ed k=5 then je s a 4 else je s a 8)with
 | .error x=> .error x
 | .ok x=> .ok (jc k x.1,x.2)
def Sd (k:Nat):Fx (Int×Nat)->Fx (Int×Nat)
 | .error x=> .error x
 | .ok x=> .ok (jc k x.1,x.2)
def Ep {w:aw}{rb k:Nat}{s:au}{deep:Int}{X r:Fx (Int×Nat)}{Q:Ending->aw->Prop}(a:Sd k X=r)(h1:∀x w2,dY [rb] w w2->r= .error x->Q (dX x.1 x.2) w2)(c:∀n z w2,X= .ok (n,z)->r= .ok (jc k n,z)->dY [rb] w w2->d6 w2 rb s z deep->Q (.returned (.int .u64 n)) w2):
  ∀e w2,py w rb s deep X (Value.int .u64) e w2->Q e w2:=by
 intro e w2 ⟨b,h⟩
 cases X with
 |error x=>obtain rfl:e=dX x.1 x.2:=h;exact h1 x w2 b a.sy
 |ok x=>obtain⟨h,d⟩:=h;obtain rfl:e=_:=h;exact c x.1 x.2 w2 rfl a.sy b d
def AO (w:aw)(rb:Nat)(s:au)(a:Nat)(deep:Int)(k:Nat)(h:d6 w rb s a deep)(i:a<=s.size)(f:s.size<=140737488355328)(j:jf k=true):
  Calls prog 271 #[aa k,ag rb] w (py w rb s deep (iN s a k) (Value.int .u64)):=by
 have c:k=0\/k=1\/k=2\/k=3\/k=4\/k=5\/k=6\/k=7\/k=8\/k=9\/k=10\/k=11\/k=12\/k=15:=(by unfold jf at j;simp at j;omega);have q:=mx w rb s a deep h f;have m:=AJ w rb s a deep h i f;have o:=vO w rb s a deep h i f;obtain⟨r,d⟩:∃r,Hid (Sd k (if ed k=0 then j8 s a s.size else if ed k=5 then je s a 4 else je s a 8)=r):=⟨_,rfl⟩;rw[show iN s a k=r from d.o];clear h;rcases c with rfl|rfl|rfl|rfl|rfl|rfl|rfl|rfl|rfl|rfl|rfl|rfl|rfl|rfl
 all_goals
  go_in
  go_wp2_with fail
  first
  |(go_at_call 182;refine q.V (Ep d.o ?_ ?_))
  |(go_at_call 352;refine m.V (Ep d.o ?_ ?_))
  |refine o.V (Ep d.o ?_ ?_)
  .rintro x w2 c rfl;unfold dX;go_wp2;exact⟨rfl,c,rfl⟩
  .rintro n z w2 g rfl c l;go_wp2_with fail
   first
   |(go_ret;exact⟨c,rfl,l⟩)
   |(
     first |(go_at_call 347;refine(wU _ n).V ?_) |(go_at_call 348;refine(AK _ n).V ?_) |(go_at_call 349;refine(Jj _ n).V ?_) |(go_at_call 350;refine(El _ n (jr g).1 (jr g).2.1).V ?_) |(have p:S9 351 #[.int .u64 n] w2 λe w'=>e= .returned (.int .u64 (jc 6 n))/\w'=w2:=FK w2 n (jr g).1;generalize jc 6 n=b at*;refine p.V ?_)
     rintro e w3 ⟨rfl,rfl⟩;go_wp2;go_ret
     exact⟨c,rfl,l⟩)
def CH (mp:am)(gs:List GF)(num kind:Int):Option GF:=
 match iI gs num with
 |none=>none
 |some g=>if my mp g kind then some g else none
def Hj (w:aw)(P:ax)(mp:am)(mb:Nat)(name:au)(gs:List GF)(num kind:Int)(h:jX w P mp mb name gs)(p:gs.Pairwise (λx y=>x.f.num<=y.f.num))(c:gs.length<=2001):
  Calls prog 132 #[ag mb,.agg #[aa num,aa kind]] w λe w'=>Jq w' P mp (CH mp gs num kind) e/\aj w w':=by
 have⟨i,m⟩:=eY w #[aa num,aa kind] 237;have n:=h.O (w':=w.alloc (ak #[aa num,aa kind] 237)) (λb _ c=>Below.l _ _ _ c);obtain⟨r,d⟩:∃r,Hid (CH mp gs num kind=r):=⟨_,rfl⟩;rw[d.o];go_in
 go_wp2_with fail;generalize w.alloc (ak #[aa num,aa kind] 237)=w1 at*;refine(AM w1 P mp mb name gs num n p c).V ?_
 cases hf:iI gs num with
 |none=>
  rintro e w2 ⟨o,rfl⟩;obtain rfl:e= .returned (.pointer none):=o;obtain rfl:r=none:=by rw[<-d.o,CH,hf]
  go_wp2;go_ret
  exact⟨rfl,i⟩
 |some g=>
  rintro e w2 ⟨⟨f,rfl,j⟩,rfl⟩;have⟨q,s⟩:=m.I;have l:Hid (S9 183 #[ag f,aa kind] w2 λe w'=>e= .returned (.bool (my mp g kind))/\aj w2 w'):=Pa w2 P mp g f kind j;have k:Hid (∀w3:aw,aj w2 w3->eR w3 P mp g f):=λw3 a=>j.O (λb _ c=>a.block b c)
  go_wp2_with fail;refine l.o.V ?_;cases hq:my mp g kind
  .obtain rfl:r=none:=by rw[<-d.o,CH,hf];simp[hq]
   rintro e w3 ⟨rfl,a⟩;go_wp2;go_ret;exact⟨rfl,eD i a⟩
  .obtain rfl:r=some g:=by rw[<-d.o,CH,hf];simp[hq]
   rintro e w3 ⟨rfl,a⟩;go_wp2;go_ret;exact⟨⟨f,rfl,k.o w3 a⟩,eD i a⟩
end
section
variable {r:pO} {f:fB} {S:eE} {b:au} {deep:Nat} {d:MT} {m:PM}
def pz (S:eE)(b:au)(F:Nat)(d:MT)(m:PM)(a e deep:Nat):Fx PM:=
 if ng S d deep then .error (11,(a:Int))else fj S b F d m a e deep
def xh (S:eE)(b:au)(F:Nat)(f:fB)(m:PM)(r:pO)(deep:Nat):Fx PV:=
 match fS S f with
 |some sub=>
  match pz S b F sub (eP f m).2.2 r.fr r.e (deep+1)with
  | .error x=> .error x
  | .ok c=> .ok ((eP f m).1,(eP f m).2.1,c)
 |none=>rg S b f r
def CK (S:eE)(d:MT)(f:fB)(m:PM):Fx PV->Fx PM
 | .error x=> .error x
 | .ok v=> .ok (g9 S d f m v)
def rj (S:eE)(b:au)(F:Nat)(d:MT)(f:fB)(m:PM)(r:pO)(deep:Nat):Fx PM:=CK S d f m (xh S b F f m r deep)
section
variable {S:eE} {b:au} {F a e deep:Nat} {d:MT} {m:PM}
theorem tS (h:¬a<e):fj S b F d m a e deep= .ok m:=by
 cases F with
 |zero=>rfl
 |succ F=>rw[fj,dG h]
theorem qE (h:a<e){x:Int×Int}(c:jj b a e= .error x):fj S b (F+1) d m a e deep= .error x:=by
 rw[fj,dH h,c]
def Ju (S:eE)(b:au)(F:Nat)(d:MT)(a e deep:Nat):Fx PM->Fx PM
 | .error x=> .error x
 | .ok m=>fj S b F d m a e deep
theorem zK (h:a<e)(i:jj b a e= .ok r)(c:ei d.fs r.num=some f)(g:r.kind=ff S f):fj S b (F+1) d m a e deep=Ju S b F d r.e e deep (rj S b F d f m r deep):=by
 rw[fj,dH h,i];simp only;rw[c];simp only;rw[dH g];unfold rj xh pz
 cases hs:fS S f with
 |some sub=>
  simp only;by_cases hfar:ng S sub (deep+1)=true;.rw[dH hfar,dH hfar];rfl
  .rw[dG hfar,dG hfar]
   cases fj S b F sub (eP f m).2.2 r.fr r.e (deep+1)<;>rfl
 |none=>
  simp only;cases rg S b f r<;>rfl
theorem xi (h:a<e)(k:jj b a e= .ok r)(g:ei d.fs r.num=some f)(i:r.kind≠ff S f)(c:r.kind=2)(j:f.isRep=true):
  fj S b (F+1) d m a e deep=Ju S b F d r.e e deep (match ln S b f (m.get f.num) r.fr r.e with| .error x=> .error x| .ok l=> .ok (m.put f.num l)):=by
 rw[fj,dH h,k];simp only;rw[g];simp only;rw[dG i,dH ⟨c,j⟩];cases ln S b f (m.get f.num) r.fr r.e<;>rfl
theorem xj (h:a<e)(c:jj b a e= .ok r)(g:∀f,ei d.fs r.num=some f->r.kind≠ff S f/\¬(r.kind=2/\f.isRep=true)):
  fj S b (F+1) d m a e deep=fj S b F d (m.O (b.extract r.a r.e)) r.e e deep:=by
 rw[fj,dH h,c];grind
end
theorem FU {F a e:Nat}{m2:PM}(i:uC S)(j:b.size<=268435456)(n:kM S d)(g:WM S a d m)(s:jj b a e= .ok r)(y:e<=b.size)(c:ei d.fs r.num=some f)(p:r.kind=ff S f)
  (h:rj S b F d f m r deep= .ok m2):WM S r.e d m2:=by
 have⟨z,A,B,o,C,t,u,_,_⟩:=sU s;unfold rj xh at h
 cases hs:fS S f with
 |some sub=>
  rw[hs]at h;simp only at h;unfold pz at h;by_cases hfar:ng S sub (deep+1)=true;.rw[dH hfar]at h;cases h
  .rw[dG hfar]at h
   cases hl:fj S b F sub (eP f m).2.2 r.fr r.e (deep+1)with
   |error x=>rw[hl]at h;cases h
   |ok w=>
    rw[hl]at h;cases h;have k:=jM i j F sub _ r.fr r.e (deep+1) w hl (i.sub hs) o Te ((jB g c hs).2.V Te)
    exact xf n g c hs Te k
 |none=>
  rw[hs]at h;simp only at h
  cases hv:rg S b f r with
  |error x=>rw[hv]at h;cases h
  |ok v=>
   rw[hv]at h;cases h;have l:r.kind=S.wire f.ty:=(by rw[p];unfold ff;rw[dG (λq=>by unfold fS at hs;simp_all)]);exact xg g c hs Te (FT hv l j t u)
theorem FV {a e:Nat}{l:List PV}(u:uC S)(i:WM S a d m)(w:jj b a e= .ok r)(g:ei d.fs r.num=some f)(p:r.kind≠ff S f)(z:r.kind=2)
  (h:ln S b f (m.get f.num) r.fr r.e= .ok l):WM S r.e d (m.put f.num l)/\S.wire f.ty≠2:=by
 have⟨A,B,C,y,D,E,G,_,_⟩:=sU w;have t:¬f.isMap=true:=λq=>p (by unfold ff;simp_all)
 have c:S.wire f.ty≠2:=λq=>p (by unfold ff;simp_all)
 have s:fS S f=none:=by
  unfold fS;rw[dG t]
  cases hm:S.msg f.ty with
  |none=>rfl
  |some x=>exact absurd (u.wire f.ty (by simp_all)) c
 have v:=(gZ g).1;rw[v]at h⊢;have j:=sV (P:=Js S f.ty) (λn k o=>⟨(jU k o).1,(jU k o).2,aM _,rfl,λq=>absurd q c,λ_=>rfl⟩) _ _ _ _ h y (by have:=i.len.2.2 r.num;omega) ((i.vals r.num).ht f g s);exact⟨i.put Te (vT g s j.1 j.2),c⟩
theorem Jv {a e:Nat}{c p:Int}(h:jj b a e= .error (c,p)):c≠0:=by
 unfold jj at h
 have f:∀{a c p},j8 b a e= .error (c,p)->c≠0:=λh=>by
  rcases(vM h).1 with rfl|rfl<;>decide
 grind
theorem Pc (h:ng S d deep=false):deep<=8:=by
 unfold ng at h;grind
end
section
open Go.Maps Go.Sort
def Kh:WideMaps.KeyLaw prog 386:=deep_law (m:=2) Te Tj Tj Tj
def Ki {a b:LV}(h:kV a=kV b):a=b:=by
 unfold kV at h;simp only[Value.agg.injEq,Array.mk.injEq,List.cons.injEq,Value.int.injEq,true_and,Value.string.injEq,and_true]at h;exact Prod.ext h.1 h.2
def Da {v:Value}{kl:Lit}(h:Go.keyOf prog 386 v=some kl):∃k:LV,v=kV k/\yV k:=by
 obtain⟨xs,L,rfl,a,_⟩:=keyOf_top Tj h;have g:Nat.ble 1 prog.types.size=true:=Tj;have i:=Nat.le_of_ble_eq_true g;obtain⟨N,f⟩:∃N,prog.types.size+1=N+1+1:=⟨prog.types.size-1,Te⟩;rw[f]at a;obtain⟨l⟩:=xs
 have j:l.length=2:=by
  simp only[Program.keyLits,underlying386,Ez]at a;split at a;.rename_i q;exact q.1
  .cases a
 obtain⟨b,c,rfl⟩:∃b c,l= [b,c]:=by
  match l,j with
  | [b,c],_=>exact⟨b,c,rfl⟩
 .simp[Program.keyLits,underlying386,Ez,JN,CP,underlying53,underlying9]at a
  cases b with
  |int q n=>
   simp only at a;by_cases hq:q= .u64/\(Lit.int .u64 n).wf=true
   .rw[dH hq]at a
    cases c with
    |string t=>
     simp only[Option.bind_some,Function.comp]at a;by_cases hs:t.size<=maxLen;.obtain⟨rfl,e⟩:=hq;have d:(decide (0<=n)&&decide (n<=18446744073709551615))=true:=e;simp only[bK,decide_eq_true_eq]at d;exact⟨(n,t),rfl,⟨d.1,by show n<_;omega,hs⟩⟩
     .rw[dG hs]at a
      simp at a
    |_=>simp at a
   .rw[dG hq]at a
    simp at a
  |_=>simp at a
def qe (D0:DataW Unit)(left:Lit->Bool)(ss:List LV):Prop:=ss.Nodup/\(∀k∈ss,yV k)/\∀(k:LV) kl,Go.keyOf prog 386 (kV k)=some kl->(k∈ss<->(has D0 kl=true/\left kl=false))
def qe.start (D0:DataW Unit):qe D0 (has D0) []:=⟨List.nodup_nil,Tf,λk a _=>by cases has D0 a<;>simp⟩
def qe.step {D0:DataW Unit}{left:Lit->Bool}{ss:List LV}(h:qe D0 left ss){x:LV}{kl:Lit}{y:DataW Unit}(p:yV x)(c:Go.keyOf prog 386 (kV x)=some kl)(g:left kl=true)(i:∀zd,D0.atKey kl zd=y):qe D0 (λz=>left z&& !z.sameKey kl) (ss++ [x]):=by
 have l:has D0 kl=true:=has_true_of_atKey i;have m:x∉ss:=λq=>by have:=((h.2.2 x kl c).1 q).2;rw[g]at this;cases this
 refine⟨dB.2 ⟨h.1,Tf,λa n b f=>by simp at f;subst f;exact λe=>m (e▸n)⟩,λk c=>by
  rcases aQ.1 c with c|c;.exact h.2.1 k c
  .simp at c;subst c;exact p,λk o d=> ?_⟩
 obtain⟨s,rfl⟩:=Kh.str c;obtain⟨r,rfl⟩:=Kh.str d;by_cases e:k=x;.subst e;rw[c]at d;cases d;simp[l,Lit.sameKey]
 .have j:r≠s:=λq=>by
   subst q;exact e (Ki (Kh.inj d c))
  simp[h.2.2 k _ d,e,Lit.sameKey,j]
def Be {v:Value}{y:DataW Unit×List MemPlace}(h:gG v=some y):∃o:Option Nat,v=gR o:=by
 unfold gG at h;split at h;.exact⟨none,rfl⟩
 .rename_i b;exact⟨some b,rfl⟩
 .cases h
def Kj (F:Fence)(n:Nat)(S:∀f,F.fn f)(P:F.round=none)(a:1<=n)(l Bm b nn:Nat)(D0:DataW Unit)(J:List LV->aw->Prop)
  (U:∀pre x W,J pre W->pre.length<Go.Maps.size D0->YieldAt F (n-1) prog l #[kV x] W λe W'=>e= .returned (.bool true)/\J (pre++ [x]) W'/\KeepsWalks W W')
  (W:aw) (i:AbidesFrom W.heap.size J) (hm:W.cell? (ai Bm 0)=some (.map (some b))) (d:W.ownsMap prog 386 gG b nn D0) (R:J [] W):
  CallsIn F n prog 356 #[.func (.yield l) #[] #[],ag Bm] W λe W'=>(∃v,e= .returned v)/\∃ss:List LV,(qe D0 (λ_=>false) ss/\ss.length<=Go.Maps.size D0)/\J ss W':=by
 refine callsIn_of_wp func356 rfl (S _) ?_ P;simp only[ntmps356,dD,bF,dz,Nat.reduceAdd,Nat.reduceSub,dq,dt,dE,dy,be,bo]
 gi_wp2_with (first
  |(gi_at_range;refine wpListIn_range_own _ rfl _ 247 rfl 386 180 Ey underlying247 _ b nn _ rfl d ?_;intro c z G Z)
  |gi_in)
 go_frame
 gi_loopw [3] (λ_ wr=>∃(left:Lit->Bool) (a:Nat) (ss:List LV),wr.ranges prog 386 gG b W.heap.size nn D0 left a/\ss.length+a<=Go.Maps.size D0/\qe D0 left ss/\J ss wr) (λ_ wr=>wr.rangeLeft b W.heap.size)
 case atStart=>exact⟨_,_,[],z,Tf,qe.start D0,i [] W c none R G (λr e=>by cases e)⟩
 case round=>
  obtain⟨left,a,ss,g,X,t,p⟩:=hrel
  gi_wp2_with (first
   |(gi_at_next;refine wpListIn_next_ranges _ rfl _ rfl 386 Ey gG kV gR (λkey d Y=>by obtain⟨k,rfl,_⟩:=Da Y;exact⟨k,rfl⟩) (λv y u=>by obtain⟨o,rfl⟩:=Be u;exact⟨o,rfl⟩) b W.heap.size nn _ _ _ rfl g ?_ ?_)
   |gi_in)
  .intro V H
   gi_wp2
   go_end0;have a:left=λ_=>false:=funext H
   subst a;exact⟨⟨_,rfl⟩,ss,⟨t,Te⟩,p⟩
  .intro j m c d a h w2 A s B u C D I K L M;have⟨x',Q,N⟩:=Da s;obtain rfl:=Ki Q;have E:J ss w2:=i ss wr w2 (some W.heap.size) p K (λr e=>by cases e;exact⟨aD _,g.iter_walk⟩);have h:J ss (w2.alloc (ak #[.int .u64 j,ae m] 386)):=i ss w2 _ none E (World.grownBy_alloc w2 _ none) (λr e=>by cases e);have⟨fn,w,assign,body,a,T⟩:=U ss ((j,m):LV) _ h Te;unfold kV at M a;clear L
   gi_wp2
   refine T.mono ?_;rintro e a ⟨rfl,h,O⟩
   gi_wp2
   have q:=D.of_walks ((KeepsWalks.alloc _ _).trans O);go_roundw
   case rel=>exact⟨_,A,ss++ [(j,m)],q,Tg,t.step N s B C,h⟩
   case measure=>rw[q.left_eq,g.left_eq];exact I
def Kk (F:Fence)(n:Nat)(d:∀f,F.fn f)(b:F.round=none)(l Bm:Nat)(J:List LV->aw->Prop)(W:aw)(g:AbidesFrom W.heap.size J)
  (hm:W.cell? (ai Bm 0)=some (.map none)) (c:J [] W):
  CallsIn F n prog 356 #[.func (.yield l) #[] #[],ag Bm] W λe W'=>(∃v,e= .returned v)/\∃ss:List LV,ss= []/\J ss W':=by
 refine callsIn_of_wp func356 rfl (d _) ?_ b;simp only[ntmps356,dD,bF,dz,Nat.reduceAdd,Nat.reduceSub,dq,dt,dE,dy,be,bo];have i:=run_range_nilMap (P:=prog) W 247 386 180 underlying247;have h:∀a,(Instr.next (ag W.heap.size) false a).run prog (W.alloc (.mapIter none 0 #[] 0))=_:=λa=>run_next_nilMap _ a 0 0 #[]
 gi_wp2
 refine wpIn_loop_rounds 1 ?_;rw[roundsIn_succ]
 gi_wp2
 go_end0;exact⟨⟨_,rfl⟩,[],rfl,g [] W _ none c (World.grownBy_alloc W _ none) (λr e=>by cases e)⟩
def EF (w:aw)(Bm:Nat)(S:List LV->Prop)(N:Nat):Prop:=∀(F:Fence) (n:Nat),(∀f,F.fn f)->F.round=none->1<=n->SeqGives F n prog 356 #[ag Bm] kV S N w
def EG {w:aw}{Bm b nn:Nat}{D0:DataW Unit}(c:Bm<w.heap.size)(hm:w.cell? (ai Bm 0)=some (.map (some b)))(a:w.ownsMap prog 386 gG b nn D0):
  EF w Bm (λss=>qe D0 (λ_=>false) ss/\ss.length<=Go.Maps.size D0) (Go.Maps.size D0):=λF n m g s l J W d o q j=>by
 have h:W.ownsMap prog 386 gG b nn D0:=(by have f:=a.lt;obtain⟨i,clock,r,e,t,k⟩:=a;exact⟨i,clock,(d.block b f).trans r,e,t,k⟩);exact Kj F n m g s l Bm b nn D0 J q W o ((d.cell (p:=(ai Bm 0)) c).trans hm) h j
def Db {w:aw}{Bm:Nat}(a:Bm<w.heap.size)(hm:w.cell? (ai Bm 0)=some (.map none)):EF w Bm (λss=>ss= []) 0:=
 λF n d b _ l J W f e _ c=>Kk F n d b l Bm J W e ((f.cell (p:=(ai Bm 0)) a).trans hm) c
def QW:(prog.info? 386).map (λi=>(i.zero,i.size,i.bytes))=some (some (.agg #[.int .u64 0,S8]),2,24):=Tj
def kC:List LV->ay
 | []=> []
 |k::ks=> .int .u64 k.1::ae k.2::kC ks
def uM:∀(a b:List LV),kC (a++b)=kC a++kC b
 | [],b=>rfl
 |k::a,b=>by simp[kC,uM a b]
def j0:∀a:List LV,(kC a).length=2*a.length
 | []=>rfl
 |k::a=>by simp[kC,j0 a];omega
def xK:Code:=(Code.region 2 #[{dst:=some 5,op:=Op.alloc 386,type:=0,pos:= "iter.go:51",after:= #[],guard:=none},{dst:=none,op:=Op.store 386 (Operand.tmp 5) (Operand.tmp 7),type:=0,pos:= "iter.go:51",after:= #[{on:=0,ground:=Ground.data},{on:=0,ground:=Ground.phase}],guard:=none}] false)
def EH:Code:=(Code.block 1 (Code.region 3 #[{dst:=some 8,op:=Op.load 389 (Operand.tmp 2),type:=389,pos:= "iter.go:52",after:= #[],guard:=none},{dst:=some 9,op:=Op.load 386 (Operand.tmp 5),type:=386,pos:= "iter.go:52",after:= #[],guard:=none},{dst:=some 10,op:=Op.buildSlice 389 1 #[(0,Operand.tmp 9)],type:=389,pos:= "iter.go:52",after:= #[{on:=1,ground:=Ground.data}],guard:=none},{dst:=some 11,op:=Op.call {callee:=Callee.builtin Builtin.append,args:= #[Operand.tmp 8,Operand.tmp 10],argTypes:= #[389,389]},type:=389,pos:= "iter.go:52",after:= #[{on:=0,ground:=Ground.data},{on:=2,ground:=Ground.data}],guard:=none},{dst:=none,op:=Op.store 389 (Operand.tmp 2) (Operand.tmp 11),type:=0,pos:= "iter.go:52",after:= #[{on:=3,ground:=Ground.data},{on:=3,ground:=Ground.chain},{on:=0,ground:=Ground.phase},{on:=1,ground:=Ground.phase},{on:=2,ground:=Ground.phase},{on:=3,ground:=Ground.phase}],guard:=none}] false))
def qf (fn:FuncId)(sv:Value)(Bs D:Nat)(st:LoopState)(pend:Option Code):Loop:=
 {state:=st,pending:=pend,fn,tmps:= #[ah,sv,ag Bs,undef,ah,undef,sv,undef,undef,undef,undef,undef,undef],params:= #[7],assign:=xK,body:=EH,defers:=D}
structure Ht (w0:aw)(fn:FuncId)(sv:Value)(Bs l D:Nat)(ss:List LV)(W:aw):Prop where
 box:∃v,W.heap[Bs]?=some (.cells #[v] 389 (0,0))/\W.ownsRow w0.heap.size 386 2 v ss.length (kC ss)
 L:W.heap[l]?=some (.loop (qf fn sv Bs D .ready none))
 K:W.heap[D]?=some (.deferred (some []))
 below:aj w0 W
def zZ (w0:aw)(fn:FuncId)(sv:Value)(Bs l D B:Nat)(g:w0.heap.size<=B):AbidesFrom B (Ht w0 fn sv Bs l D):=λs W j c h a d=>by
 have b:∀r,c=some r->∃o:Obj,W.heap[r]?=some o/\o.isWalk=true:=λr e=>(d r e).2
 have⟨v,f,i⟩:=h.box
 exact⟨⟨v,(grownBy_keeps a b f rfl).trans f,ownsRow_abides_a i a b⟩,(grownBy_keeps a b h.L rfl).trans h.L,(grownBy_keeps a b h.K rfl).trans h.K,
  h.below.grown a h.below.size (λk e=>aL g (d k e).1)⟩
def Ng (F:Fence)(m:Nat)(w0:aw)(fn:FuncId)(a:F.fn fn)(sv:Value)(Bs l D:Nat)(s:Bs≠l)(w:D≠l)(Q:D≠Bs)(b:w0.heap.size<=Bs)(c:w0.heap.size<=l)
  (N:Nat) (f:N<=maxLen) (d:N*24<=2^47) (ss:List LV) (x:LV) (W:aw) (h:Ht w0 fn sv Bs l D ss W) (hlen:ss.length<N):
  YieldAt F m prog l #[kV x] W λe W'=>e= .returned (.bool true)/\Ht w0 fn sv Bs l D (ss++ [x]) W'/\KeepsWalks W W':=by
 have⟨G,B,q,t,u⟩:=info_parts QW;obtain⟨b,d⟩:=x;refine⟨fn,#[ah,sv,ag Bs,undef,ah,undef,sv,kV (b,d),undef,undef,undef,undef,undef],xK,EH,by simpa [qf]using run_yield (P:=prog) (args:= #[kV (b,d)]) h.L rfl,roundIn_of_wpIn a ?_⟩;have a:l<W.heap.size:=(bJ.1 h.L).1;have g:Ht w0 fn sv Bs l D ss (W.alloc (.cells #[.int .u64 b,ae d] 386)):=zZ w0 fn sv Bs l D w0.heap.size (aD _) ss W _ none h (World.grownBy_alloc W _ none) (λr e=>by cases e);have f:KeepsWalks W (W.alloc (.cells #[.int .u64 b,ae d] 386)):=KeepsWalks.alloc _ _;have j:(W.alloc (.cells #[.int .u64 b,ae d] 386)).heap[W.heap.size]?=some (.cells #[.int .u64 b,ae d] 386 (0,0)):=World.alloc_heap_new _ _;unfold xK kV
 gi_wp2_with (rw[Oper.semAt_eq _ _ _ (λc h=>by cases h)];go_simp;try go_bits)
 generalize W.alloc (.cells #[.int .u64 b,ae d] 386)=Wa at g f j⊢;have⟨v,p,k⟩:=g.box;have o:l<Wa.heap.size:=(bJ.1 g.L).1;obtain⟨a,i⟩:∃a,Wa.putObj l (.loop {qf fn sv Bs D .ready none with state:= .busy})=a:=⟨_,rfl⟩;have n:=run_beginRound (P:=prog) g.L rfl;rw[i]at n;have R:Wa.grownBy a (some l):=by rw[<-i];exact grownBy_putObj_a _ _ _
 have r:KeepsWalks W a:=by rw[<-i];exact f.trans (KeepsWalks.putObj _ g.L rfl)
 have y:a.heap[Bs]?=some (.cells #[v] 389 (0,0)):=by rw[<-i];exact(World.putObj_heap_other s).trans p
 have J:a.heap[D]?=some (.deferred (some [])):=by rw[<-i];exact(World.putObj_heap_other w).trans g.K
 have K:a.heap[l]?=some (.loop {qf fn sv Bs D .ready none with state:= .busy}):=by rw[<-i];exact World.putObj_heap_same o
 have S:a.heap[W.heap.size]?=some (.cells #[.int .u64 b,ae d] 386 (0,0)):=by rw[<-i];exact(World.putObj_heap_other Te).trans j
 have C:a.ownsRow w0.heap.size 386 2 v ss.length (kC ss):=k.kept R (ownsRow_ne_a k g.L (λp e=>by cases e));have z:aj w0 a:=g.below.grown R g.below.size (λk e=>by grind);clear i;have f:a.cell? (ai W.heap.size 0)=some (.int .u64 b):=by simp[World.cell?,S]
 have f:a.cell? (ai W.heap.size 1)=some (ae d):=by simp[World.cell?,S]
 have⟨f,g⟩:=cell_of_box_a y;have f:Bs<a.heap.size:=(bJ.1 y).1;have g:l<a.heap.size:=(bJ.1 K).1;have i:D<a.heap.size:=(bJ.1 J).1
 have L:∀{j:Nat} {o:Obj},a.heap[j]?=some o->(∀p,o≠ .cells p 386 (0,0))->some j≠v.ownBlock:=λE A=>by
  rcases ownsRow_ne_a C E A with e|e;.grind
  grind
 refine⟨a,n,?_⟩;unfold EH
 gi_wp2_with (first
  |(
    gi_at_builtin;refine wpListIn_append_own _ rfl _ _ 389 rfl w0.heap.size 386 G (.agg #[.int .u64 0,S8]) 2 24 underlying389 B q t u rfl Th _ _ _ rfl (C.alloc _) (ai a.heap.size 0) 1 1 [.int .u64 b,ae d] rfl rfl (lU _ _ _ _) Tm Te Te (by have:=z.size;simp;omega) ?_;intro v' w3 M Z O
    have I:w3.heap[Bs]?=some (.cells #[v] 389 (0,0)):=(Z.block Bs Tg (L y (λp e=>by cases e))).trans ((Below.l _ _ Bs f).trans y);have⟨f,j⟩:=cell_of_box_a I;obtain⟨t,n,G,rfl,H,f,j,o,u,y⟩:∃t n G,v'= Ta t (ss.length+1) n/\w0.heap.size<=t/\w3.heap[t]?=some (.cells G 386 (0,0))/\ss.length+1<=n/\n<=maxLen/\G.size=n*2/\G.toList.take ((ss.length+1)*2)=kC ss++ [.int .u64 b,ae d]:=M.2.elim (λq=>absurd q.2 Te) id
    go_frame)
  |(rw[Oper.semAt_eq _ _ _ (λc h=>by cases h)];go_simp;try go_bits))
 have E:(a.alloc (.cells #[.int .u64 b,ae d] 386)).grownBy w3 v.ownBlock:=Z;have T:w3.heap[l]?=some (.loop {qf fn sv Bs D .ready none with state:= .busy}):=(E.block l Tg (L K (λp e=>by cases e))).trans ((Below.l _ _ l g).trans K);have X:w3.heap[D]?=some (.deferred (some [])):=(E.block D Tg (L J (λp e=>by cases e))).trans ((Below.l _ _ D i).trans J);obtain⟨f,u⟩:=Td (w3.setCell (ai Bs 0) (Ta t (ss.length+1) n));rw[u];have A:w3.grownBy f (some Bs):=by rw[<-u];exact grownBy_setCell0_a _ _ _
 have a:f.heap[Bs]?=some (.cells #[Ta t (ss.length+1) n] 389 (0,0)):=by rw[<-u];exact heap_setCell_box_a _ I
 have B:f.heap[l]?=some (.loop {qf fn sv Bs D .ready none with state:= .busy}):=(A.block l (bJ.1 T).1 (λe=>s (by grind))).trans T;have b:f.heap[D]?=some (.deferred (some [])):=(A.block D (bJ.1 X).1 (λe=>Q (by grind))).trans X;have V:=M.kept A (ownsRow_ne_a M I (λp e=>by cases e));have c:l<f.heap.size:=(bJ.1 B).1;have Y:aj w0 w3:=(z.alloc z.size _).grown E (by have:=z.size;simp;omega) (λk e=>(C.lt k e).1);have U:aj w0 f:=Y.grown A Y.size (λk e=>by grind);have d:KeepsWalks W f:=((r.trans (KeepsWalks.alloc _ _)).trans (KeepsWalks.of_grownBy E (ownsRow_not_walk_a (C.alloc _)))).trans (by rw[<-u];exact KeepsWalks.setCell _ _ _);clear u;refine⟨_,_,run_endRound none B,rfl,⟨⟨_,(World.putObj_heap_other s).trans a,?_⟩,World.putObj_heap_same c,(World.putObj_heap_other w).trans b,U.grown (grownBy_putObj_a _ _ _) U.size (λk e=>by grind)⟩,d.trans (KeepsWalks.putObj _ B rfl)⟩;have:=V.kept (grownBy_putObj_a f l (.loop {{qf fn sv Bs D .ready none with state:= .busy}with state:=if(none:Option Code).isNone then .ready else .done,pending:=none})) (ownsRow_ne_a V B (λp e=>by cases e));simpa [uM,kC]using this
def EI (F:Fence)(n:Nat)(K:∀f,F.fn f)(j:F.round=none)(Y:2<=n)(g:Nat)(lb:aq)(H:∀args w,(callFunc g args).run prog w= .ok (.enter g args) w)
  (S:List LV->Prop) (N:Nat) (M:N<=maxLen) (q:N*24<=2^47) (w:aw) (m:SeqGives F (n-1) prog g lb kV S N w):
  CallsIn F n prog 407 #[ah,.func (.func g) #[] lb] w λe w'=>∃(v:Value) (ss:List LV),e= .returned v/\S ss/\w'.ownsRow w.heap.size 386 2 v ss.length (kC ss)/\aj w w':=by
 have I:1<=n:=Te;refine callsIn_of_wp_marks func407 rfl (K _) ?_ j;simp only[ntmps407,dD,bF,dz,Nat.reduceAdd,Nat.reduceSub,dq,dt,dE,dy,be,bo]
 gi_wp2
 refine wpIn_rangeFunc ?_;intro fn C;rw[j];obtain⟨a,l⟩:=Td (w.alloc (.cells #[ah] 389));have E:a.heap.size=w.heap.size+1:=by rw[<-l];simp
 have G:a.heap[w.heap.size]?=some (.cells #[ah] 389 (0,0)):=by rw[<-l];exact World.alloc_heap_new w _
 have o:aj w a:=by rw[<-l];exact(Below.refl _ w).alloc (aD _) _
 rw[l];obtain⟨b,d⟩:=Td ((a.alloc (.deferred (some []))).alloc (.loop (qf fn (.func (.func g) #[] lb) w.heap.size a.heap.size .ready none)))
 have hold:∀k,k<a.heap.size->b.heap[k]?=a.heap[k]?:=λk Q=>by
  rw[<-d];exact(Below.l _ _ k Tg).trans (Below.l _ _ k Q)
 have p:aj w b:=by rw[<-d];exact(o.alloc o.size _).alloc (by have:=o.size;simp;omega) _
 have T:b.heap.size=a.heap.size+2:=by rw[<-d];simp
 have L:Ht w fn (.func (.func g) #[] lb) w.heap.size (a.heap.size+1) a.heap.size [] b:=
  ⟨⟨_,(hold w.heap.size Te).trans G,⟨rfl,.inl ⟨rfl,rfl⟩⟩⟩, by rw[<-d];have:=World.alloc_heap_new (a.alloc (.deferred (some []))) (.loop (qf fn (.func (.func g) #[] lb) w.heap.size a.heap.size .ready none));rwa [ca]at this, by rw[<-d];exact(Below.l _ _ _ Tf).trans (World.alloc_heap_new a _),p⟩
 refine⟨a.heap.size+1,[{target:= .collected a.heap.size,args:= #[]}],b,{target:= .fn (.func g) lb,args:= #[.func (.yield (a.heap.size+1)) #[] #[]]},b,g,
  #[.func (.yield (a.heap.size+1)) #[] #[]]++lb,b,?_,?_,?_,?_,λ_=>I,?_⟩
 .rw[<-d];exact run_enterLoop_outer _ _ _ _ _
 .simp[resolve,go_sem]
 .grind
 .simp[invoke,go_sem,H]
 .refine(m (a.heap.size+1) (Ht w fn (.func (.func g) #[] lb) w.heap.size (a.heap.size+1) a.heap.size) b p (zZ _ _ _ _ _ _ _ p.size)
   (λpre x W J R=>Ng F (n-1-1) w fn C _ w.heap.size (a.heap.size+1) a.heap.size Te Te Te (aD _) Te N M q pre x W J R) L).mono ?_
  rintro e A ⟨⟨Z,rfl⟩,ss,O,h⟩;have⟨v,U,z⟩:=h.box;have u:=run_endLoop (P:=prog) h.L (by simp[qf]);obtain⟨c,i⟩:∃c,A.putObj (a.heap.size+1) (.loop {qf fn (.func (.func g) #[] lb) w.heap.size a.heap.size .ready none with state:= .exhausted})=c:=⟨_,rfl⟩;rw[i]at u;have y:A.grownBy c (some (a.heap.size+1)):=by rw[<-i];exact grownBy_putObj_a _ _ _
  have B:c.heap[w.heap.size]?=some (.cells #[v] 389 (0,0)):=by rw[<-i];exact(World.putObj_heap_other Te).trans U
  have s:c.heap[a.heap.size]?=some (.deferred (some [])):=by rw[<-i];exact(World.putObj_heap_other Te).trans h.K
  have r:=z.kept y (ownsRow_ne_a z h.L (λD e=>by cases e));have t:aj w c:=h.below.grown y h.below.size (λk e=>by grind);have⟨V,X⟩:=cell_of_box_a B;clear i;refine⟨none,c,u,?_⟩
  gi_wp2
  rw[<-E];refine⟨Tf,.inl ⟨_,_,rfl,run_takeDeferred s,?_⟩⟩;exact⟨_,results_tmp rfl _ _ _,v,ss,rfl,O,r.kept (grownBy_putObj_a _ _ _) (ownsRow_ne_a r s (λD e=>by cases e)),t.grown (grownBy_putObj_a _ _ _) t.size (λk e=>by grind)⟩
def Kl (F:Fence)(n:Nat)(d:∀f,F.fn f)(a:F.round=none)(p:3<=n)(g:Nat)(lb:aq)(i:∀args w,(callFunc g args).run prog w= .ok (.enter g args) w)
  (S:List LV->Prop) (N:Nat) (j:N<=maxLen) (c:N*24<=2^47) (w:aw) (b:SeqGives F (n-1-1) prog g lb kV S N w):
  CallsIn F n prog 354 #[.func (.func g) #[] lb] w λe w'=>∃(v:Value) (ss:List LV),e= .returned v/\S ss/\w'.ownsRow w.heap.size 386 2 v ss.length (kC ss)/\aj w w':=by
 have m:1<=n:=Te;refine callsIn_of_wp func354 rfl (d _) ?_ a;simp only[ntmps354,dD,bF,dz,Nat.reduceAdd,Nat.reduceSub,dq,dt,dE,dy,be,bo]
 gi_wp2
 refine(EI F (n-1) d a Te g lb i S N j c _ b).mono ?_;rintro e w' ⟨v,ss,rfl,k,h,l⟩
 gi_wp2
 go_ret;exact⟨v,ss,rfl,k,h,l⟩
end
end Go.Proofs.YtfebdimolnobaaaGreatDoor
