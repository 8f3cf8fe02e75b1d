import Derived.Test.YtfebdimolnobaaaGreatDoorWkE
import Derived.Test.YtfebdimolnobaaaGreatDoorKyA
import Derived.Deep.RegionHeld2
set_option maxRecDepth 100000
set_option maxHeartbeats 8000000
set_option linter.all false
namespace Go.Proofs.YtfebdimolnobaaaGreatDoor
open Go.RowKit Go.Proofs.Tryz
section
variable (s:au) {k:Nat} {S:eF} {b:au} {f:fw} {r:pO}
def fN (s:au)(a:Nat)(num kind:Int)(z:Nat):Fx pO:=
 if kind=0 then(match iV s z s.size with| .error y=> .error y| .ok y=> .ok ⟨num,0,a,z,y.2,y.1⟩)
 else if kind=1 then(match ju s z 8 with| .error y=> .error y| .ok y=> .ok ⟨num,1,a,z,y.2,y.1⟩)
 else if kind=5 then(match ju s z 4 with| .error y=> .error y| .ok y=> .ok ⟨num,5,a,z,y.2,y.1⟩)
 else(match ft s z with| .error y=> .error y| .ok y=> .ok ⟨num,2,a,y.1,y.2,0⟩)
theorem qX (a:Nat):Oy s a=match jY s a with| .error x=> .error x| .ok x=>fN s a x.1.1 x.1.2 x.2:=by
 unfold Oy fN;cases jY s a<;>rfl
theorem qY (a:Nat)(num kind:Int)(z:Nat):mf s z kind=match fN s a num kind z with| .error x=> .error x| .ok r=> .ok ((),r.e):=by
 unfold mf fN;grind
def zS (s:au)(k:Nat)(r:pO):Fx LV:=
 if k=13 then(if Lib.validD (s.extract r.fr r.e).data.toList then .ok (0,s.extract r.fr r.e)else .error (10,r.fr))
 else if k=14 then .ok (0,s.extract r.fr r.e)else .ok (lE k r.n,⟨#[]⟩)
def DP (s:au)(k:Nat):Fx pO->Fx (LV×Nat)
 | .error x=> .error x
 | .ok r=>match zS s k r with| .error x=> .error x| .ok v=> .ok (v,r.e)
theorem Fz (a:Nat)(num:Int)(z:Nat):fN s a num ((0:Nat):Int) z=match iV s z s.size with| .error y=> .error y| .ok y=> .ok ⟨num,0,a,z,y.2,y.1⟩:=rfl
theorem FA (a:Nat)(num:Int)(z:Nat):fN s a num ((1:Nat):Int) z=match ju s z 8 with| .error y=> .error y| .ok y=> .ok ⟨num,1,a,z,y.2,y.1⟩:=rfl
theorem FB (a:Nat)(num:Int)(z:Nat):fN s a num ((5:Nat):Int) z=match ju s z 4 with| .error y=> .error y| .ok y=> .ok ⟨num,5,a,z,y.2,y.1⟩:=rfl
theorem uD (a:Nat)(num:Int)(z:Nat):fN s a num ((2:Nat):Int) z=match ft s z with| .error y=> .error y| .ok y=> .ok ⟨num,2,a,y.1,y.2,0⟩:=rfl
theorem I4 (c:k<=15)(a:k≠13)(b:k≠14):eM k=0\/eM k=1\/eM k=5:=by
 unfold eM;grind
theorem xW (a:Nat)(num:Int)(z k:Nat)(c:k<=15):gG s z k=DP s k (fN s a num (eM k) z):=by
 unfold gG;by_cases VI:k=13
 .subst VI;rw[dR rfl,show eM 13=2 from rfl,uD];unfold rQ
  cases ft s z with
  |error x=>rfl
  |ok x=>
   simp only[DP,zS,if_true];grind
 .rw[dQ VI];by_cases VJ:k=14
  .subst VJ;rw[dR rfl,show eM 14=2 from rfl,uD];unfold oq
   cases ft s z with
   |error x=>rfl
   |ok x=>rfl
  .rw[dQ VJ];unfold jG;have b:∀r:pO,zS s k r= .ok (lE k r.n,⟨#[]⟩):=λr=>by unfold zS;rw[dQ VI,dQ VJ]
   rcases I4 c VI VJ with e|e|e
   .rw[dR e,e,Fz]
    cases iV s z s.size with
    |error x=>rfl
    |ok x=>simp only[DP,b]
   .rw[dQ Vv,dQ Vv,e,FA]
    cases ju s z 8 with
    |error x=>rfl
    |ok x=>simp only[DP,b]
   .rw[dQ Vv,dR e,e,FB]
    cases ju s z 4 with
    |error x=>rfl
    |ok x=>simp only[DP,b]
theorem FD:∀(l:List (ap)) (s:ap) (k n:Nat),Di l s k=some n->∃i,n=k+i/\l[i]?=some s
 | [],_,_,_,h=>by simp[Di]at h
 |x::l,s,k,n,h=>by
  rw[Di]at h;split at h;.simp_all
  .have⟨i,b,a⟩:=FD l s (k+1) n h;exact⟨i+1,Vv,by simpa using a⟩
theorem mm {t:au}:S.base t=13<->gQ t lF=true:=by
 constructor
 .intro h;unfold eF.base at h;split at h
  .rename_i k a;subst h;have⟨i,b,c⟩:=FD _ _ _ _ a;obtain rfl:i=13:=Vv;have:t.toList=lF.toList:=(by have e:m9[13]?=some lF.toList:=Vz;grind);unfold gQ
   (simp;omega)
  grind
 .intro h;have e:t.toList=lF.toList:=by simpa [gQ]using h
  unfold eF.base;rw[e];have:Di m9 lF.toList 0=some 13:=Vz;rw[this]
theorem BX (a:k<=15)(h:eM k=2):k=13\/k=14:=by
 unfold eM at h;grind
theorem DQ {e:Nat}(a:S.base f.ty=k)(j:k<=15)(c:r.kind=eM k)(i:r.e<=e)(m:e<=b.size):
  oj S b f r=match zS (b.extract 0 e) k r with| .error x=> .error x| .ok v=> .ok (v.1,v.2,PM.none):=by
 unfold oj zS;rw[kL m i,a];by_cases h2:r.kind=2
 .rw[dR h2];rcases BX j (c▸h2)with rfl|rfl;.have d:=mm.1 a;rw[d,uA];grind
  .have d:gQ f.ty lF=false:=(by rw[cn];intro q;rw[mm.2 q]at a;omega);simp_all
 .rw[dQ h2];have g:k≠13:=λq=>h2 (by rw[c,q];rfl)
  have h:k≠14:=λq=>h2 (by rw[c,q];rfl)
  rw[dQ g,dQ h];rfl
theorem AB {e F a:Nat}{l:List PV}(c:e<=b.size)(d:a<e):fY b k e (F+1) l a=match jG (b.extract 0 e) a k with| .error x=> .error x| .ok x=>fY b k e F (l++ [(x.1,eS,PM.none)]) x.2:=by
 rw[fY,dR d];unfold jG;by_cases h0:eM k=0;.rw[dR h0,dR h0,wJ c];grind
 .rw[dQ h0,dQ h0];by_cases h5:eM k=5;.simp only[h5,if_true];rw[sZ c];split<;>rfl
  .simp only[h5,if_false];rw[sZ c];split<;>rfl
def zT (S:eF)(b:au)(F:Nat)(d:MT)(f:fw)(m:PM)(r:pO)(deep:Nat):Fx PM:=
 if r.kind=fX S f then qr S b F d f m r deep else match mL S b f (m.get f.num) r.fr r.e with| .error x=> .error x| .ok l=> .ok (m.put f.num l)
theorem I5 {F a e deep:Nat}{d:MT}{m:PM}(h:a<e)(g:fO b a e= .ok r)(c:ed d.fs r.num=some f)(j:r.kind=fX S f\/(r.kind=2/\f.isRep=true)):
  eY S b (F+1) d m a e deep=La S b F d r.e e deep (zT S b F d f m r deep):=by
 unfold zT;by_cases q:r.kind=fX S f;.rw[dR q,Az h g c q]
 .rw[dQ q];have⟨i,k⟩:=j.resolve_left q;exact xV h g c q i k
end
section
open Go.Maps Go.Sort
def SM:(prog.info? 386).map (λi=>(i.zero,i.size,i.bytes))=some (some (.agg #[.int .u64 0,Vp]),2,24):=VA
def lA:List LV->ay
 | []=> []
 |k::ks=> .int .u64 k.1::ag k.2::lA ks
def vJ:∀(a b:List LV),lA (a++b)=lA a++lA b
 | [],b=>rfl
 |k::a,b=>by simp[lA,vJ a b]
def kW:∀a:List LV,(lA a).length=2*a.length
 | []=>rfl
 |k::a=>by simp[lA,kW a];omega
def yr:Code:=(Code.region 2 #[{dst:=some 5,op:=Op.alloc 386,type:=0,pos:= "iter.go:51",after:= #[],guard:=none},{dst:=none,op:=Op.store 386 (Operand.tmp 5) (Operand.tmp 7),type:=0,pos:= "iter.go:51",after:= #[{on:=0,ground:=Ground.data},{on:=0,ground:=Ground.phase}],guard:=none}] false)
def F4:Code:=(Code.block 1 (Code.region 3 #[{dst:=some 8,op:=Op.load 389 (Operand.tmp 2),type:=389,pos:= "iter.go:52",after:= #[],guard:=none},{dst:=some 9,op:=Op.load 386 (Operand.tmp 5),type:=386,pos:= "iter.go:52",after:= #[],guard:=none},{dst:=some 10,op:=Op.buildSlice 389 1 #[(0,Operand.tmp 9)],type:=389,pos:= "iter.go:52",after:= #[{on:=1,ground:=Ground.data}],guard:=none},{dst:=some 11,op:=Op.call {callee:=Callee.builtin Builtin.append,args:= #[Operand.tmp 8,Operand.tmp 10],argTypes:= #[389,389]},type:=389,pos:= "iter.go:52",after:= #[{on:=0,ground:=Ground.data},{on:=2,ground:=Ground.data}],guard:=none},{dst:=none,op:=Op.store 389 (Operand.tmp 2) (Operand.tmp 11),type:=0,pos:= "iter.go:52",after:= #[{on:=3,ground:=Ground.data},{on:=3,ground:=Ground.chain},{on:=0,ground:=Ground.phase},{on:=1,ground:=Ground.phase},{on:=2,ground:=Ground.phase},{on:=3,ground:=Ground.phase}],guard:=none}] false))
def qA (fn:FuncId)(sv:Value)(Bs D:Nat)(st:LoopState)(pend:Option Code):Loop:=
 {state:=st,pending:=pend,fn,tmps:= #[ai,sv,ah Bs,undef,ai,undef,sv,undef,undef,undef,undef,undef,undef],params:= #[7],assign:=yr,body:=F4,defers:=D}
structure I9 (w0:aw)(fn:FuncId)(sv:Value)(Bs l D:Nat)(ss:List LV)(W:aw):Prop where
 box:∃v,W.heap[Bs]?=some (.cells #[v] 389 (0,0))/\W.ownsRow w0.heap.size 386 2 v ss.length (lA ss)
 L:W.heap[l]?=some (.loop (qA fn sv Bs D .ready none))
 K:W.heap[D]?=some (.deferred (some []))
 below:ak w0 W
def AG (w0:aw)(fn:FuncId)(sv:Value)(Bs l D B:Nat)(g:w0.heap.size<=B):AbidesFrom B (I9 w0 fn sv Bs l D):=λs W j c h a d=>by
 have b:∀r,c=some r->∃o:Obj,W.heap[r]?=some o/\o.isWalk=true:=λr e=>(d r e).2
 have⟨v,f,i⟩:=h.box
 exact⟨⟨v,(grownBy_keeps a b f rfl).trans f,ownsRow_abides_a i a b⟩,(grownBy_keeps a b h.L rfl).trans h.L,(grownBy_keeps a b h.K rfl).trans h.K,
  h.below.grown a h.below.size (λk e=>aM g (d k e).1)⟩
def OL (F:Fence)(m:Nat)(w0:aw)(fn:FuncId)(a:F.fn fn)(sv:Value)(Bs l D:Nat)(s:Bs≠l)(w:D≠l)(Q:D≠Bs)(b:w0.heap.size<=Bs)(c:w0.heap.size<=l)
  (N:Nat) (f:N<=maxLen) (d:N*24<=2^47) (ss:List LV) (x:LV) (W:aw) (h:I9 w0 fn sv Bs l D ss W) (hlen:ss.length<N):
  YieldAt F m prog l #[kV x] W λe W'=>e= .returned (.bool true)/\I9 w0 fn sv Bs l D (ss++ [x]) W'/\KeepsWalks W W':=by
 have⟨E,B,n,q,t⟩:=info_parts SM;obtain⟨b,d⟩:=x;refine⟨fn,#[ai,sv,ah Bs,undef,ai,undef,sv,kV (b,d),undef,undef,undef,undef,undef],yr,F4,by simpa [qA]using run_yield (P:=prog) (args:= #[kV (b,d)]) h.L rfl,roundIn_of_wpIn a ?_⟩;have a:l<W.heap.size:=(bK.1 h.L).1;have g:I9 w0 fn sv Bs l D ss (W.alloc (.cells #[.int .u64 b,ag d] 386)):=AG w0 fn sv Bs l D w0.heap.size (aE _) ss W _ none h (World.grownBy_alloc W _ none) (λr e=>by cases e);have X:KeepsWalks W (W.alloc (.cells #[.int .u64 b,ag d] 386)):=KeepsWalks.alloc _ _;have Y:(W.alloc (.cells #[.int .u64 b,ag d] 386)).heap[W.heap.size]?=some (.cells #[.int .u64 b,ag d] 386 (0,0)):=World.alloc_heap_new _ _;unfold yr kV
 gi_wp2_with (rw[Oper.semAt_eq _ _ _ (λc h=>by cases h)];go_simp;try go_bits)
 generalize W.alloc (.cells #[.int .u64 b,ag d] 386)=Wa at g X Y⊢;have⟨v,k,R⟩:=g.box;have j:l<Wa.heap.size:=(bK.1 g.L).1;obtain⟨a,i⟩:∃a,Wa.putObj l (.loop {qA fn sv Bs D .ready none with state:= .busy})=a:=⟨_,rfl⟩;have Z:=run_beginRound (P:=prog) g.L rfl;rw[i]at Z;have f:Wa.grownBy a (some l):=by rw[<-i];exact grownBy_putObj_a _ _ _
 have r:KeepsWalks W a:=by rw[<-i];exact X.trans (KeepsWalks.putObj _ g.L rfl)
 have y:a.heap[Bs]?=some (.cells #[v] 389 (0,0)):=by rw[<-i];exact(World.putObj_heap_other s).trans k
 have L:a.heap[D]?=some (.deferred (some [])):=by rw[<-i];exact(World.putObj_heap_other w).trans g.K
 have M:a.heap[l]?=some (.loop {qA fn sv Bs D .ready none with state:= .busy}):=by rw[<-i];exact World.putObj_heap_same j
 have j:a.heap[W.heap.size]?=some (.cells #[.int .u64 b,ag d] 386 (0,0)):=by rw[<-i];exact(World.putObj_heap_other Vv).trans Y
 have A:a.ownsRow w0.heap.size 386 2 v ss.length (lA ss):=R.kept f (ownsRow_ne_a R g.L (λp e=>by cases e));have z:ak w0 a:=g.below.grown f g.below.size (λk e=>by grind);clear i;have f:a.cell? (aj W.heap.size 0)=some (.int .u64 b):=by simp[World.cell?,j]
 have f:a.cell? (aj W.heap.size 1)=some (ag d):=by simp[World.cell?,j]
 have⟨f,g⟩:=cell_of_box_a y;have g:Bs<a.heap.size:=(bK.1 y).1;have u:l<a.heap.size:=(bK.1 M).1;have i:D<a.heap.size:=(bK.1 L).1
 have I:∀{j:Nat} {o:Obj},a.heap[j]?=some o->(∀p,o≠ .cells p 386 (0,0))->some j≠v.ownBlock:=λC f=>by
  rcases ownsRow_ne_a A C f with e|e;.grind
  grind
 refine⟨a,Z,?_⟩;unfold F4
 gi_wp2_with (first
  |(
    gi_at_builtin;refine wpListIn_append_own _ rfl _ _ 389 rfl w0.heap.size 386 E (.agg #[.int .u64 0,Vp]) 2 24 underlying389 B n q t rfl Vy _ _ _ rfl (A.alloc _) (aj a.heap.size 0) 1 1 [.int .u64 b,ag d] rfl rfl (mS _ _ _ _) VD Vv Vv (by have:=z.size;simp;omega) ?_;intro v' w3 J V O
    have K:w3.heap[Bs]?=some (.cells #[v] 389 (0,0)):=(V.block Bs Vx (I y (λp e=>by cases e))).trans ((Below.l _ _ Bs g).trans y);have⟨f,g⟩:=cell_of_box_a K;obtain⟨t,n,C,rfl,H,f,g,j,o,y⟩:∃t n C,v'= Vr t (ss.length+1) n/\w0.heap.size<=t/\w3.heap[t]?=some (.cells C 386 (0,0))/\ss.length+1<=n/\n<=maxLen/\C.size=n*2/\C.toList.take ((ss.length+1)*2)=lA ss++ [.int .u64 b,ag d]:=J.2.elim (λq=>absurd q.2 Vv) id
    go_frame)
  |(rw[Oper.semAt_eq _ _ _ (λc h=>by cases h)];go_simp;try go_bits))
 have B:(a.alloc (.cells #[.int .u64 b,ag d] 386)).grownBy w3 v.ownBlock:=V;have a:w3.heap[l]?=some (.loop {qA fn sv Bs D .ready none with state:= .busy}):=(B.block l Vx (I M (λp e=>by cases e))).trans ((Below.l _ _ l u).trans M);have T:w3.heap[D]?=some (.deferred (some [])):=(B.block D Vx (I L (λp e=>by cases e))).trans ((Below.l _ _ D i).trans L);obtain⟨f,u⟩:=Vu (w3.setCell (aj Bs 0) (Vr t (ss.length+1) n));rw[u];have E:w3.grownBy f (some Bs):=by rw[<-u];exact grownBy_setCell0_a _ _ _
 have b:f.heap[Bs]?=some (.cells #[Vr t (ss.length+1) n] 389 (0,0)):=by rw[<-u];exact heap_setCell_box_a _ K
 have G:f.heap[l]?=some (.loop {qA fn sv Bs D .ready none with state:= .busy}):=(E.block l (bK.1 a).1 (λe=>s (by grind))).trans a;have c:f.heap[D]?=some (.deferred (some [])):=(E.block D (bK.1 T).1 (λe=>Q (by grind))).trans T;have S:=J.kept E (ownsRow_ne_a J K (λp e=>by cases e));have d:l<f.heap.size:=(bK.1 G).1;have U:ak w0 w3:=(z.alloc z.size _).grown B (by have:=z.size;simp;omega) (λk e=>(A.lt k e).1);have a:ak w0 f:=U.grown E U.size (λk e=>by grind);have g:KeepsWalks W f:=((r.trans (KeepsWalks.alloc _ _)).trans (KeepsWalks.of_grownBy B (ownsRow_not_walk_a (A.alloc _)))).trans (by rw[<-u];exact KeepsWalks.setCell _ _ _);clear u;refine⟨_,_,run_endRound none G,rfl,⟨⟨_,(World.putObj_heap_other s).trans b,?_⟩,World.putObj_heap_same d,(World.putObj_heap_other w).trans c,a.grown (grownBy_putObj_a _ _ _) a.size (λk e=>by grind)⟩,g.trans (KeepsWalks.putObj _ G rfl)⟩;have:=S.kept (grownBy_putObj_a f l (.loop {{qA fn sv Bs D .ready none with state:= .busy}with state:=if(none:Option Code).isNone then .ready else .done,pending:=none})) (ownsRow_ne_a S G (λp e=>by cases e));simpa [vJ,lA]using this
def F5 (F:Fence)(n:Nat)(K:∀f,F.fn f)(j:F.round=none)(Y:2<=n)(g:Nat)(lb:aq)(H:∀args w,(callFunc g args).run prog w= .ok (.enter g args) w)
  (S:List LV->Prop) (N:Nat) (M:N<=maxLen) (q:N*24<=2^47) (w:aw) (m:SeqGives F (n-1) prog g lb kV S N w):
  CallsIn F n prog 407 #[ai,.func (.func g) #[] lb] w λe w'=>∃(v:Value) (ss:List LV),e= .returned v/\S ss/\w'.ownsRow w.heap.size 386 2 v ss.length (lA ss)/\ak w w':=by
 have I:1<=n:=Vv;refine callsIn_of_wp_marks func407 rfl (K _) ?_ j;simp only[ntmps407,dO,bw,dh,Nat.reduceAdd,Nat.reduceSub,dy,dz,dP,dF,aX,bo]
 gi_wp2
 refine wpIn_rangeFunc ?_;intro fn G;rw[j];obtain⟨a,l⟩:=Vu (w.alloc (.cells #[ai] 389));have D:a.heap.size=w.heap.size+1:=by rw[<-l];simp
 have E:a.heap[w.heap.size]?=some (.cells #[ai] 389 (0,0)):=by rw[<-l];exact World.alloc_heap_new w _
 have o:ak w a:=by rw[<-l];exact(Below.refl _ w).alloc (aE _) _
 rw[l];obtain⟨b,d⟩:=Vu ((a.alloc (.deferred (some []))).alloc (.loop (qA fn (.func (.func g) #[] lb) w.heap.size a.heap.size .ready none)))
 have hold:∀k,k<a.heap.size->b.heap[k]?=a.heap[k]?:=λk Q=>by
  rw[<-d];exact(Below.l _ _ k Vx).trans (Below.l _ _ k Q)
 have p:ak w b:=by rw[<-d];exact(o.alloc o.size _).alloc (by have:=o.size;simp;omega) _
 have T:b.heap.size=a.heap.size+2:=by rw[<-d];simp
 have L:I9 w fn (.func (.func g) #[] lb) w.heap.size (a.heap.size+1) a.heap.size [] b:=
  ⟨⟨_,(hold w.heap.size Vv).trans E,⟨rfl,.inl ⟨rfl,rfl⟩⟩⟩, by rw[<-d];have:=World.alloc_heap_new (a.alloc (.deferred (some []))) (.loop (qA fn (.func (.func g) #[] lb) w.heap.size a.heap.size .ready none));rwa [ci]at this, by rw[<-d];exact(Below.l _ _ _ Vw).trans (World.alloc_heap_new a _),p⟩
 refine⟨a.heap.size+1,[{target:= .collected a.heap.size,args:= #[]}],b,{target:= .fn (.func g) lb,args:= #[.func (.yield (a.heap.size+1)) #[] #[]]},b,g,
  #[.func (.yield (a.heap.size+1)) #[] #[]]++lb,b,?_,?_,?_,?_,λ_=>I,?_⟩
 .rw[<-d];exact run_enterLoop_outer _ _ _ _ _
 .simp[resolve,go_sem]
 .grind
 .simp[invoke,go_sem,H]
 .refine(m (a.heap.size+1) (I9 w fn (.func (.func g) #[] lb) w.heap.size (a.heap.size+1) a.heap.size) b p (AG _ _ _ _ _ _ _ p.size)
   (λpre x W J R=>OL F (n-1-1) w fn G _ w.heap.size (a.heap.size+1) a.heap.size Vv Vv Vv (aE _) Vv N M q pre x W J R) L).mono ?_
  rintro e A ⟨⟨Z,rfl⟩,ss,O,h⟩;have⟨v,U,r⟩:=h.box;have y:=run_endLoop (P:=prog) h.L (by simp[qA]);obtain⟨c,i⟩:∃c,A.putObj (a.heap.size+1) (.loop {qA fn (.func (.func g) #[] lb) w.heap.size a.heap.size .ready none with state:= .exhausted})=c:=⟨_,rfl⟩;rw[i]at y;have z:A.grownBy c (some (a.heap.size+1)):=by rw[<-i];exact grownBy_putObj_a _ _ _
  have C:c.heap[w.heap.size]?=some (.cells #[v] 389 (0,0)):=by rw[<-i];exact(World.putObj_heap_other Vv).trans U
  have t:c.heap[a.heap.size]?=some (.deferred (some [])):=by rw[<-i];exact(World.putObj_heap_other Vv).trans h.K
  have s:=r.kept z (ownsRow_ne_a r h.L (λB e=>by cases e));have u:ak w c:=h.below.grown z h.below.size (λk e=>by grind);have⟨V,X⟩:=cell_of_box_a C;clear i;refine⟨none,c,y,?_⟩
  gi_wp2
  rw[<-D];refine⟨Vw,.inl ⟨_,_,rfl,run_takeDeferred t,?_⟩⟩;exact⟨_,results_tmp rfl _ _ _,v,ss,rfl,O,s.kept (grownBy_putObj_a _ _ _) (ownsRow_ne_a s t (λB e=>by cases e)),u.grown (grownBy_putObj_a _ _ _) u.size (λk e=>by grind)⟩
def LI (F:Fence)(n:Nat)(d:∀f,F.fn f)(a:F.round=none)(p:3<=n)(g:Nat)(lb:aq)(i:∀args w,(callFunc g args).run prog w= .ok (.enter g args) w)
  (S:List LV->Prop) (N:Nat) (j:N<=maxLen) (c:N*24<=2^47) (w:aw) (b:SeqGives F (n-1-1) prog g lb kV S N w):
  CallsIn F n prog 354 #[.func (.func g) #[] lb] w λe w'=>∃(v:Value) (ss:List LV),e= .returned v/\S ss/\w'.ownsRow w.heap.size 386 2 v ss.length (lA ss)/\ak w w':=by
 have m:1<=n:=Vv;refine callsIn_of_wp func354 rfl (d _) ?_ a;simp only[ntmps354,dO,bw,dh,Nat.reduceAdd,Nat.reduceSub,dy,dz,dP,dF,aX,bo]
 gi_wp2
 refine(F5 F (n-1) d a Vv g lb i S N j c _ b).mono ?_;rintro e w' ⟨v,ss,rfl,k,h,l⟩
 gi_wp2
 go_ret;exact⟨v,ss,rfl,k,h,l⟩
end
section
open Go.Maps Go.Sort
open VH
def yt (x:Int)(w:aw):Calls prog 409 #[.int .u64 x] w λe w'=>e= .returned (.bool false)/\w'=w:=by
 go_in
 go_wp2;go_ret;exact⟨rfl,rfl⟩
def yv (x:au)(w:aw):Calls prog 410 #[ag x] w λe w'=>e= .returned (.bool false)/\w'=w:=by
 go_in
 go_wp2;go_ret;exact⟨rfl,rfl⟩
def LJ (x y:au):Int:=if Op.bytesLess x.toList y.toList then-1 else if x.toList==y.toList then 0 else 1
def F6 (x y:Int)(w:aw):Calls prog 358 #[.int .u64 x,.int .u64 y] w λe w'=>e= .returned (aa (lG x y))/\w'=w:=by
 unfold lG;by_cases h:x<y
 .rw[dR h];go_in
  go_wp2_with (first|(go_at_call 409;refine(yt _ _).V ?_;rintro e w' ⟨rfl,rfl⟩))
  go_ret;exact⟨rfl,rfl⟩
 .have b:decide (x<y)=false:=by simp[h]
  rw[dQ h];by_cases h2:y<x
  .rw[dR h2];go_in
   go_wp2_with (first|(go_at_call 409;refine(yt _ _).V ?_;rintro e w' ⟨rfl,rfl⟩))
   go_ret;exact⟨rfl,rfl⟩
  .have a:decide (y<x)=false:=by simp[h2]
   rw[dQ h2];go_in
   go_wp2_with (first|(go_at_call 409;refine(yt _ _).V ?_;rintro e w' ⟨rfl,rfl⟩))
   go_ret;exact⟨rfl,rfl⟩
def F7 (x y:au)(w:aw):Calls prog 359 #[ag x,ag y] w λe w'=>e= .returned (aa (LJ x y))/\w'=w:=by
 unfold LJ
 cases h:Op.bytesLess x.toList y.toList with
 |true=>
  rw[dR rfl];go_in
  go_wp2_with (first|(go_at_call 410;refine(yv _ _).V ?_;rintro e w' ⟨rfl,rfl⟩))
  go_ret
  exact⟨rfl,rfl⟩
 |false=>
  rw[dQ Vy]
  cases h2:x.toList==y.toList with
  |true=>
   rw[dR rfl];go_in
   go_wp2_with (first|(go_at_call 410;refine(yv _ _).V ?_;rintro e w' ⟨rfl,rfl⟩))
   go_ret
   exact⟨rfl,rfl⟩
  |false=>
   rw[dQ Vy];go_in
   go_wp2_with (first|(go_at_call 410;refine(yv _ _).V ?_;rintro e w' ⟨rfl,rfl⟩))
   go_ret;exact⟨rfl,rfl⟩
def Ty (x y:Int):Int:=if x=0 then y else x
def TQ (x y:Int)(b:Nat)(w:aw)(a:w.cell? (aj b 0)=some (aa x))(h1:w.cell? (aj b 1)=some (aa y)):
  Calls prog 357 #[Vr b 2 2] w λe w'=>e= .returned (aa (Ty x y))/\w'=w:=by
 unfold Ty;by_cases hx:x=0
 .rw[dR hx];subst hx;by_cases hy:y=0
  .subst hy;go_in
   go_wp2;refine wp_loop_rounds 3 ?_;rw[rounds_succ];go_wp2;rw[rounds_succ];go_wp2;rw[rounds_succ];go_wp2;go_ret;exact⟨rfl,rfl⟩
  .go_in
   go_wp2;refine wp_loop_rounds 2 ?_;rw[rounds_succ];go_wp2;rw[rounds_succ];go_wp2;go_ret;exact⟨rfl,rfl⟩
 .rw[dQ hx];go_in
  go_wp2;refine wp_loop_rounds 1 ?_;rw[rounds_succ];go_wp2;go_ret;exact⟨rfl,rfl⟩
def yw (x y:LV):Int:=Ty (lG x.1 y.1) (LJ x.2 y.2)
def yx (x y:LV)(w:aw):Calls prog 275 #[kV x,kV y] w λe w'=>e= .returned (aa (yw x y))/\∃q os,w'=grow (w.drewN q) os:=by
 obtain⟨j,k⟩:=x;obtain⟨l,m⟩:=y;unfold kV;go_in
 have i:∀(c d:Obj) (a b:Value),(((w.alloc c).alloc d).alloc (.cells #[a,b] 3)).drew.cell? (aj (w.heap.size+1+1) 0)=some a/\(((w.alloc c).alloc d).alloc (.cells #[a,b] 3)).drew.cell? (aj (w.heap.size+1+1) 1)=some b:=λc d a b=>by
  have h:=mS ((w.alloc c).alloc d) a b 3;have f:=h 0 a rfl;have g:=h 1 b rfl;simp only[ci,Addr.add]at f g;exact⟨f,g⟩
 go_upto_region 1 with fail
 go_region_held2 (λW=>W.cell? (aj w.heap.size 0)=some (.int .u64 j)/\W.cell? (aj w.heap.size 1)=some (ag k)/\W.cell? (aj (w.heap.size+1) 0)=some (.int .u64 l)/\W.cell? (aj (w.heap.size+1) 1)=some (ag m)) (go_keep) (first
  |(go_at_call 358;refine(F6 _ _ _).V ?_;rintro e w' ⟨rfl,rfl⟩)
  |(go_at_call 359;refine(F7 _ _ _).V ?_;rintro e w' ⟨rfl,rfl⟩)
  |(go_at_call 357;refine(TQ _ _ _ _ (i _ _ _ _).1 (i _ _ _ _).2).V ?_;rintro e w' ⟨rfl,rfl⟩))
 go_wp2;go_ret;exact⟨rfl,1,#[_,_,_],rfl⟩
def OM (x y:au):LJ x y<0<->Op.bytesLess x.toList y.toList=true:=by
 unfold LJ;split;.rename_i h;simp[h]
 .rename_i h;split<;>simp[h]
def Hy (x y:Int):lG x y=0<->x=y:=by
 unfold lG;split;.simp;omega
 .split;.simp;omega
  .simp;omega
def Cl (x y:LV):yw x y<0<->lI x y:=by
 unfold yw Ty lI;by_cases h:x.1=y.1;.rw[dR ((Hy _ _).2 h),OM];simp[h]
 .rw[dQ (λq=>h ((Hy _ _).1 q)),nW];simp[h]
def Sr (x y:LV):ltOf yw x y=true<->lI x y:=by
 unfold ltOf;simp[Cl]
def TR:SWO (ltOf yw)where
 irrefl x:=by rw[cn];exact λh=>pC _ ((Sr _ _).1 h)
 trans x y z h1 h2:=(Sr _ _).2 (kh ((Sr _ _).1 h1) ((Sr _ _).1 h2))
 ntrans x y z h1 h2:=by
  rw[cn,Ne,Sr]at*;intro h;rcases tu y x with q|q|q;.exact h2 (kh q h)
  .exact h2 (tw q h)
  .exact h1 q
def Eb {a b:LV}(h:jH a b):a=b:=by
 obtain⟨c,d⟩:=h;exact cY c (cS (cX.1 (by rw[<-ByteArray.toList_eq,<-ByteArray.toList_eq];exact d)))
end
end Go.Proofs.YtfebdimolnobaaaGreatDoor
