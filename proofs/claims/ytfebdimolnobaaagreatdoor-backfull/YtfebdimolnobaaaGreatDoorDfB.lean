import Derived.Test.YtfebdimolnobaaaGreatDoorRrB
import Derived.Test.YtfebdimolnobaaaGreatDoorTreeOK
import Derived.Shelf.Spec.SlicesInsert
import Derived.Lib.AppendZerosOnto
set_option maxRecDepth 100000
set_option maxHeartbeats 8000000
set_option linter.all false
namespace Go.Proofs.YtfebdimolnobaaaGreatDoor
open Go.RowKit Go.Proofs.Tryz
def uE:(prog.info? 249).map (λi=>(i.zero,i.size,i.bytes))=some (some (.agg #[aa 0,ai,ai,.map none]),4,64):=VA
def lU {P:Program}(w:aw)(dT sT ty elem:TypeId)(k g o dLen dCap:Nat)(a:Addr)(sLen sCap:Nat)(VJ:aq)(t:TypeId)(cs:ay)
  (n:P.underlying dT=some (.slice elem)) (c:(P.info? elem).map (·.size)=some k)
  (f:w.heap[g]?=some (.cells VJ t (0,0))) (m:cs.length=Nat.min sLen dLen*k)
  (d:∀j v,cs[j]?=some v->w.cell? (a.add j)=some v) (b:o+cs.length<=VJ.size) (h1:∀v∈cs,v.oneCell'=true):
  (Builtin.copy_ #[dT,sT] ty #[.slice (some (aj g o)) dLen dCap,.slice (some a) sLen sCap]).run P w=
   .ok (goInt (Nat.min sLen dLen)) (w.setRow g (VJ.toList.take o++cs++VJ.toList.drop (o+cs.length)).toArray):=by
 have l:=run_loadCells_list (P:=P) w a cs d;have e:=run_storeCells_at P g o t cs 0 VJ w f (by simpa using b) h1
 cases hq:P.info? elem with
 |none=>simp[hq]at c
 |some i=>
  have h:i.size=k:=by simpa [hq]using c
  simp[Builtin.copy_,run_underlying n,Builtin.lenOf,Builtin.firstCells,sizeOf,typeInfo,hq,h,<-m,l,e]
def BY (w:aw)(v:Value)(n:Nat)(cs:ay)(e:Ending)(w':aw):Prop:=
 ∃g cap,e= .returned (Vr g n cap)/\w'.ownsRow 0 249 4 (Vr g n cap) n cs/\w.grownBy w' v.ownBlock/\(v.ownBlock=some g\/w.heap.size<=g)
def BZ (w:aw)(v:Value)(cs xs:ay)(n vb:Nat)(b:w.ownsRow 0 249 4 v n cs)(z:n<=2199023255000)(t:dZ w vb xs.toArray 249)(h:xs.length=4)(f:∀u∈xs,u.oneCell'=true):
  Calls prog 346 #[v,aa n,Vr vb 1 1] w (BY w v (n+1) (cs++xs)):=by
 have⟨x,l,k,m,r⟩:=info_parts uE;have i:∀j u,xs[j]?=some u->w.cell? (((aj vb 0):Addr).add j)=some u:=λj u s=>bz t j u (by simpa using s)
 obtain⟨a,c,rfl⟩:=iB b;go_in
 go_wp2_with (at_builtin;refine wpList_append_lies _ rfl _ _ 181 rfl 0 249 x _ 4 64 underlying181 l k m r rfl Vv (.slice a n c) n cs rfl b (aj vb 0) 1 1 xs rfl h i f Vv VC Vv Vv _ rfl ?_;intro g d w1 q o p y)
 all_goals
  go_ret;exact⟨g,d,rfl,q,by cases a<;>exact o,by cases a<;>exact p.imp id (λe=>Vv)⟩
def jZ {w w':aw}{row:Option Nat}{g:Nat}{cs:aq}(h:w.grownBy w' row)(b:row=some g\/w.heap.size<=g):w.grownBy (w'.setRow g cs) row:=
 ⟨h.os,h.tape,h.output,by simpa using h.size,λk c a=>by
  rw[setRow_other _ _ _ _ (λe=>by subst e;rcases b with q|q;exact a q.sy;omega)]
  exact h.block k c a⟩
def Lc (VJ cs xs D:ay)(n i:Nat)(b:VJ.take (n*4)=cs)(a:cs.length=n*4)(c:xs.length=4)(h:i<n):
  ((VJ.take ((i+1)*4)++cs.drop (i*4)++D).take (i*4)++xs++(VJ.take ((i+1)*4)++cs.drop (i*4)++D).drop (i*4+xs.length)).take ((n+1)*4)=cs.take (i*4)++xs++cs.drop (i*4):=by
 have d:n*4<=VJ.length:=by rw[<-b,bN]at a;omega
 have g:(VJ.take ((i+1)*4)).length=i*4+4:=by rw[bN];omega
 have e:(VJ.take ((i+1)*4)++cs.drop (i*4)++D).take (i*4)=cs.take (i*4):=(by rw[bj,dm Vv,List.take_take,Nat.min_eq_left Vv,<-b,List.take_take,Nat.min_eq_left Vv]);have f:(VJ.take ((i+1)*4)++cs.drop (i*4)++D).drop (i*4+xs.length)=cs.drop (i*4)++D:=(by rw[bj,c];exact List.drop_left' g);rw[e,f,<-bj];exact List.take_left' (by simp[c,a];omega)
def zU (w:aw)(cs xs:ay)(g n c i vb:Nat)(VJ:aq)(x:w.heap[g]?=some (.cells VJ 249 (0,0)))(a:VJ.size=c*4)(p:VJ.toList.take (n*4)=cs)(b:cs.length=n*4)(C:∀u∈cs,u.oneCell'=true)(hi:i<n)(e:n<=2199023255000)(E:n+1<=c)(Z:c<=maxLen)(m:dZ w vb xs.toArray 249)(d:xs.length=4)(D:∀u∈xs,u.oneCell'=true)(s:vb≠g):
  Calls prog 346 #[Vr g n c,aa i,Vr vb 1 1] w (BY w (Vr g n c) (n+1) (cs.take (i*4)++xs++cs.drop (i*4))):=by
 have o:prog.underlying 181=some (.slice 249):=underlying181;have H:(prog.info? 249).map (·.size)=some 4:=(by have⟨f,Q,a,J,e⟩:=info_parts uE;rw[Q];simp[J]);have N:∀(W:aw),W.heap[vb]?=w.heap[vb]?->∀j u,xs[j]?=some u->W.cell? (((aj vb 0):Addr).add j)=some u:=λW f j u o=>bz (f.J m) j u (by simpa using o)
 have T:∀F B,(callFunc 404 #[Vr vb 1 1,.slice (some (aj g ((i+1)*4))) F B]).run prog w= .ok (.value (.bool false)) w:=λF B=>by
  rw[run_callFunc_extern func404 VA VA VA (e:=Extern.SlicesOverlaps.overlaps #[181,181] #[4]) VA,
   Lib.run_overlaps_apart w 181 4 249 o 4 sizeOf249 (aj vb 0) (aj g ((i+1)*4)) 1 1 F B s 249 249 4 VJ.size (by unfold World.shape?;rw[m];simp[d]) (by unfold World.shape?;rw[x]) Vv (m.I.2 _) (m.I.2 _)]
  rfl
 obtain⟨a,y⟩:∃r:aq,Hid (r=(VJ.toList.take ((i+1)*4)++cs.drop (i*4)++VJ.toList.drop ((i+1)*4+(cs.drop (i*4)).length)).toArray):=⟨_,rfl⟩;have A:(cs.drop (i*4)).length=(n-i)*4:=by rw[List.length_drop,b];omega
 have e:a.size=VJ.size:=by rw[y.o];simp[A];omega
 have P:∀(W:aw),W.heap[g]?=w.heap[g]?->∀j v,(cs.drop (i*4))[j]?=some v->W.cell? (((aj g (i*4)):Addr).add j)=some v:=λW f j v l=>by
  rw[Addr.add_lit,bE (w:=w) (by exact f),cell_of_row w g _ VJ _ _ x,<-bS];rw[dJ]at l
  have R:i*4+j<n*4:=by
   rw[<-b];by_cases q:i*4+j<cs.length;.exact q
   .rw[bg Vv]at l;cases l
  rw[<-p,cC R]at l;exact l
 have I:∀(W:aw) k h G,W.heap[g]?=w.heap[g]?->(Builtin.copy_ #[181,181] k #[.slice (some (aj g ((i+1)*4))) (n+1-(i+1)) h,.slice (some (aj g (i*4))) (n+1-i) G]).run prog W= .ok (goInt (Nat.min (n+1-i) (n+1-(i+1)))) (W.setRow g a):=λW k h G f=>by
  rw[y.o];exact lU W _ _ k 249 4 g ((i+1)*4) (n+1-(i+1)) h (aj g (i*4)) (n+1-i) G VJ 249 (cs.drop (i*4)) o H (f.J x) (by rw[A];simp only[Nat.min_def];split<;>omega) (P W f) (by rw[A];omega) (λv m=>C v (cJ m))
 obtain⟨t,z⟩:∃r:aq,Hid (r=(a.toList.take (i*4)++xs++a.toList.drop (i*4+xs.length)).toArray):=⟨_,rfl⟩
 have O:∀(W:aw) k h,W.heap[g]?=some (.cells a 249 (0,0))->W.heap[vb]?=w.heap[vb]?->(Builtin.copy_ #[181,181] k #[.slice (some (aj g (i*4))) (n+1-i) h,Vr vb 1 1]).run prog W= .ok (goInt (Nat.min 1 (n+1-i))) (W.setRow g t):=λW k h f V=>by
  rw[z.o];exact lU W _ _ k 249 4 g (i*4) (n+1-i) h (aj vb 0) 1 1 a 249 xs o H f (by rw[d];simp only[Nat.min_def];split<;>omega) (N W V) Vv D
 have J:¬((i:Int)=(n:Int)):=Vv;have e:IntKind.i64.wrap ((i:Int)+1)=(i:Int)+1:=by rw[IntKind.wrap_i64];omega
 have e:IntKind.i64.wrap ((n:Int)+1)=(n:Int)+1:=by rw[IntKind.wrap_i64];omega
 go_in
 go_wp2_with (simp only[T])
 have mixed:prog.follows Departure.mixedOrders=true:=VA;have e:(0:Int)<=(i:Int)+1:=Vv;have e:i<=n:=Vv;have e:((i:Int)+1).toNat=i+1:=Vv;have X:¬(c=i+1):=Vv;have e:(i:Int)<=(n:Int)+1:=Vv;have Y:¬(c=i):=Vv;have K:(w.drew).heap[g]?=w.heap[g]?:=rfl;have U:n+1-(i+1)=n-i:=Vv;rw[U]at I;have L:(w.drew.setRow g a).heap[g]?=some (.cells a 249 (0,0)):=setRow_heap _ _ _ _ _ _ (K.J x);have S:(w.drew.setRow g a).heap[vb]?=w.heap[vb]?:=setRow_other _ _ _ _ s;go_region_law_o (refine step_copy_runI rfl _ _ 181 181 rfl (.slice (some (aj g ((i+1)*4))) (n-i) (c-(i+1))) (.slice (some (aj g (i*4))) (n+1-i) (c-i)) (by simp[Act.eval,Act.put]) (by simp[Act.eval,Act.put]) (I _ _ _ _ K) ?_)
 go_wp2_with (at_builtin;refine wpList_copy_runI _ rfl _ _ 181 181 rfl _ _ rfl rfl (O _ _ _ L S) ?_)
 go_ret;have M:w.grownBy ((w.drew.setRow g a).setRow g t) (some g):=jZ (jZ ⟨rfl,rfl,rfl,aE _,λ_ _ _=>rfl⟩ (.inl rfl)) (.inl rfl);have a:=setRow_heap _ g _ t _ _ L;refine⟨g,c,rfl,⟨?_,.inr ⟨g,c,t,rfl,aP _,a,Vv,Z,?_,?_⟩⟩,M,.inl rfl⟩;.simp[d,b];omega
 .rw[z.o];simp;omega
 .rw[z.o,y.o];exact Lc VJ.toList cs xs _ n i p b d hi
def Ld (cs xs Z Y:ay)(n i:Nat)(b:cs.length=n*4)(a:xs.length=4)(e:i<n):
  (((cs.take (i*4)++Z++Y).take (i*4)++xs++(cs.take (i*4)++Z++Y).drop (i*4+xs.length)).take ((i+1)*4)++cs.drop (i*4)++
   ((cs.take (i*4)++Z++Y).take (i*4)++xs++(cs.take (i*4)++Z++Y).drop (i*4+xs.length)).drop ((i+1)*4+(cs.drop (i*4)).length)).take ((n+1)*4)=cs.take (i*4)++xs++cs.drop (i*4):=by
 have c:(cs.take (i*4)).length=i*4:=by rw[bN];omega
 have d:(cs.take (i*4)++Z++Y).take (i*4)=cs.take (i*4):=(by rw[bj];exact List.take_left' c);rw[d];rw[List.take_left' (l₁:=cs.take (i*4)++xs) (i:=(i+1)*4) (by simp[a,c];omega)];exact List.take_left' (by simp[a,b];omega)
def zV (w:aw)(cs xs:ay)(g n c i vb:Nat)(VJ:aq)(a:w.heap[g]?=some (.cells VJ 249 (0,0)))(K:VJ.toList.take (n*4)=cs)(f:cs.length=n*4)(F:∀u∈cs,u.oneCell'=true)(hi:i<n)(d:n<=2199023255000)(p:c<n+1)(b:n<=c)(x:dZ w vb xs.toArray 249)(m:xs.length=4)(H:∀u∈xs,u.oneCell'=true):
  Calls prog 346 #[Vr g n c,aa i,Vr vb 1 1] w (BY w (Vr g n c) (n+1) (cs.take (i*4)++xs++cs.drop (i*4))):=by
 obtain rfl:c=n:=Vv;have s:prog.underlying 181=some (.slice 249):=underlying181;have⟨b,Q,k,V,X⟩:=info_parts uE;have S:(prog.info? 249).map (·.size)=some 4:=by rw[Q];simp[V]
 have M:g<w.heap.size:=dZ.lt a;have WC:vb<w.heap.size:=x.lt;have B:(cs.drop (i*4)).length=(c-i)*4:=by rw[List.length_drop,f];omega
 have A:∀(W:aw),W.heap[g]?=w.heap[g]?->∀j v,cs[j]?=some v->W.cell? (aj g j)=some v:=λW o j v e=>by
  rw[bE (w:=w) (by exact o),cell_of_row w g _ VJ _ _ a,<-bS]
  have a:j<c*4:=by
   rw[<-f];by_cases q:j<cs.length;.exact q
   .rw[bg Vv]at e;cases e
  rw[<-K,cC a]at e;exact e
 have hold:(Builtin.firstCells b.size i (Vr g i c)).run prog w.drew= .ok (cs.take (i*4)).toArray w.drew:=by
  rw[V]
  exact run_firstCells_some w.drew 4 i (aj g 0) i c (cs.take (i*4)) (by rw[bN];omega) (λj v e=>by
   rw[Addr.add_lit,Nat.zero_add];rw[List.getElem?_take]at e;split at e;.exact A _ rfl j v e
   .cases e)
 obtain⟨G,y⟩:∃G,Hid (G=grownCap w (c+1) c 249):=⟨_,rfl⟩;obtain⟨Z,O⟩:∃Z:aq,Hid (Z=Builtin.zeroCells (Value.agg #[aa 0,ai,ai,.map none]).cells (c+1-i)):=⟨_,rfl⟩;obtain⟨Y,N⟩:∃Y:aq,Hid (Y=Builtin.zeroCells (Value.agg #[aa 0,ai,ai,.map none]).cells (G-(c+1))):=⟨_,rfl⟩;obtain⟨a,C⟩:∃R:aq,Hid (R=(cs.take (i*4)).toArray++Z++Y):=⟨_,rfl⟩;have d:Z.size=(c+1-i)*4:=by rw[O.o];simp[Builtin.zeroCells,Value.cells]
 have K:c+1<=G:=by rw[y.o];exact grownCap_ge w _ _ _
 have R:G<=maxLen:=by rw[y.o];exact grownCap_le_maxLen w _ _ _ VC
 have h:Y.size=(G-(c+1))*4:=by rw[N.o];simp[Builtin.zeroCells,Value.cells]
 have z:a.size=G*4:=by rw[C.o];simp[d,h,f];omega
 have U:∀d,(Builtin.append_ #[181,3] d #[Vr g i c,aa ((c:Int)+1-(i:Int))]).run prog w=
   .ok (Vr w.heap.size (c+1) G) (w.drew.alloc (.cells a 249)):=λd=>by
  have h:=Lib.run_append_grow_zeros w 181 3 d 249 b _ .i64 .i64 s underlying3 Q k (some (aj g 0)) i c (cs.take (i*4)) hold (c+1-i) Vv Vv Vv Vv (by rw[X];omega) (by rw[X,show i+(c+1-i)=c+1 by omega];exact growslice_fits p Vv);rw[show i+(c+1-i)=c+1 by omega,<-y.o,<-N.o,<-O.o,<-C.o]at h;rw[show(c:Int)+1-(i:Int)=((c+1-i:Nat):Int)by omega];exact h
 obtain⟨b,D⟩:∃r:aq,Hid (r=(a.toList.take (i*4)++xs++a.toList.drop (i*4+xs.length)).toArray):=⟨_,rfl⟩;have P:b.size=a.size:=by rw[D.o];simp[m,z];omega
 have T:∀(W:aw) d l,W.heap[w.heap.size]?=some (.cells a 249 (0,0))->W.heap[vb]?=w.heap[vb]?->(Builtin.copy_ #[181,181] d #[.slice (some (aj w.heap.size (i*4))) (c+1-i) l,Vr vb 1 1]).run prog W= .ok (goInt (Nat.min 1 (c+1-i))) (W.setRow w.heap.size b):=λW d l o I=>by
  rw[D.o];exact lU W _ _ d 249 4 w.heap.size (i*4) (c+1-i) l (aj vb 0) 1 1 a 249 xs s S o (by rw[m];simp only[Nat.min_def];split<;>omega) (λj u s=>bz (I.J x) j u (by simpa using s)) Vv H
 obtain⟨t,E⟩:∃r:aq,Hid (r=(b.toList.take ((i+1)*4)++cs.drop (i*4)++b.toList.drop ((i+1)*4+(cs.drop (i*4)).length)).toArray):=⟨_,rfl⟩
 have k:∀(W:aw) d l J,W.heap[w.heap.size]?=some (.cells b 249 (0,0))->W.heap[g]?=w.heap[g]?->(Builtin.copy_ #[181,181] d #[.slice (some (aj w.heap.size ((i+1)*4))) (c-i) l,.slice (some (aj g (i*4))) (c-i) J]).run prog W= .ok (goInt (Nat.min (c-i) (c-i))) (W.setRow w.heap.size t):=λW d l J o I=>by
  rw[E.o]
  exact lU W _ _ d 249 4 w.heap.size ((i+1)*4) (c-i) l (aj g (i*4)) (c-i) J b 249 (cs.drop (i*4)) s S o (by rw[B];simp only[Nat.min_def];split<;>omega) (λj v e=>by
   rw[Addr.add_lit];rw[dJ]at e
   exact A W I _ v e) (by rw[B,P,z];omega) (λv x=>F v (cJ x))
 have L:(w.alloc (.cells a 249)).drew.heap[w.heap.size]?=some (.cells a 249 (0,0)):=heap_alloc_new w.drew _;have j:(w.alloc (.cells a 249)).drew.heap[vb]?=w.heap[vb]?:=Below.l w.drew _ vb WC;have e:(w.alloc (.cells a 249)).drew.heap[g]?=w.heap[g]?:=Below.l w.drew _ g M;have h:((w.alloc (.cells a 249)).drew.setRow w.heap.size b).heap[w.heap.size]?=some (.cells b 249 (0,0)):=setRow_heap _ _ _ _ _ _ L;have o:((w.alloc (.cells a 249)).drew.setRow w.heap.size b).heap[g]?=w.heap[g]?:=(setRow_other _ _ _ _ Vv).J e;have e:¬((i:Int)=(c:Int)):=Vv;have e:(c:Int)<(c:Int)+1:=Vv;have e:IntKind.i64.wrap ((i:Int)+1)=(i:Int)+1:=by rw[IntKind.wrap_i64];omega
 have e:IntKind.i64.wrap ((c:Int)+1)=(c:Int)+1:=by rw[IntKind.wrap_i64];omega
 have e:IntKind.i64.wrap ((c:Int)+1-(i:Int))=(c:Int)+1-(i:Int):=by rw[IntKind.wrap_i64];omega
 have mixed:prog.follows Departure.mixedOrders=true:=VA;have e:(0:Int)<=(i:Int)+1:=Vv;have e:i<=c:=Vv;have e:((i:Int)+1).toNat=i+1:=Vv;have e:¬(G=i):=Vv;have e:¬(G=i+1):=Vv;have e:¬(c=i):=Vv;have e:(i:Int)<=(c:Int):=Vv;have e:c+1-(i+1)=c-i:=Vv;go_in
 have e:Hid (∀d,(Builtin.append_ #[181,3] d #[Vr g i c,aa ((c:Int)+1-(i:Int))]).run prog w= .ok (Vr w.heap.size (c+1) G) ((w.alloc (.cells a 249)).drew)):=U;clear U A hold;have p:=λd l=>T (w.alloc (.cells a 249)).drew d l L j
 clear T;go_wp2_with (at_builtin;(first|(refine Lib.wpList_append_run _ rfl _ _ _ _ rfl _ _ rfl rfl _ _ (e.o _) ?_)|(refine wpList_copy_runI _ rfl _ _ 181 181 rfl _ _ rfl rfl (p _ _) ?_)))
 have M:(((w.alloc (.cells a 249)).drew.setRow w.heap.size b).drew).heap[w.heap.size]?=some (.cells b 249 (0,0)):=h;have d:(((w.alloc (.cells a 249)).drew.setRow w.heap.size b).drew).heap[g]?=w.heap[g]?:=o;go_region_law_o (refine step_copy_runI rfl _ _ 181 181 rfl (.slice (some (aj w.heap.size ((i+1)*4))) (c-i) (G-(i+1))) (.slice (some (aj g (i*4))) (c-i) (c-i)) (by simp[Act.eval,Act.put]) (by simp[Act.eval,Act.put]) (k _ _ _ _ M d) ?_)
 go_wp2;go_ret
 have e:w.grownBy ((((w.alloc (.cells a 249)).drew.setRow w.heap.size b).drew).setRow w.heap.size t) (some g):=by
  have d:w.grownBy ((w.alloc (.cells a 249)).drew) (some g):=⟨rfl,rfl,rfl,Vw,λk h _=>Below.l w _ k h⟩;have h:w.grownBy (((w.alloc (.cells a 249)).drew.setRow w.heap.size b).drew) (some g):=jZ (cs:=b) d (.inr (aE _))|>λq=>⟨q.os,q.tape,q.output,q.size,q.block⟩
  exact jZ h (.inr (aE _))
 have b:=setRow_heap _ w.heap.size _ t _ _ M;refine⟨w.heap.size,G,rfl,⟨?_,.inr ⟨w.heap.size,G,t,rfl,aP _,b,K,R,?_,?_⟩⟩,e,.inr (aE _)⟩;.simp[m,f];omega
 .rw[E.o];simp[B,P,z];omega
 .have b:a.toList=cs.take (i*4)++Z.toList++Y.toList:=by rw[C.o];simp
  rw[E.o,D.o,b];exact Ld cs xs Z.toList Y.toList c i f m hi
def Lf (l:List gH)(i:Nat)(x:gH):(l.flatMap eC).take (i*4)++eC x++(l.flatMap eC).drop (i*4)=(l.take i++x::l.drop i).flatMap eC:=by
 have h:∀(l:List gH) (i:Nat),(l.flatMap eC).take (i*4)=(l.take i).flatMap eC/\(l.flatMap eC).drop (i*4)=(l.drop i).flatMap eC:=by
  intro l
  induction l with
  |nil=>intro i;simp
  |cons y l ih=>
   intro i
   cases i with
   |zero=>simp
   |succ i=>
    have⟨a,b⟩:=ih i;constructor;.rw[bt,cZ,bt,<-a,show(i+1)*4=(eC y).length+i*4 by rw[gz];omega,List.take_append,ch Vv];congr 2;omega
    .rw[bt,List.drop_succ_cons,<-b,show(i+1)*4=(eC y).length+i*4 by rw[gz];omega,List.drop_append,cu Vv];simp
 have⟨a,b⟩:=h l i;rw[a,b];simp
def Lg (w:aw)(v:Value)(l:List gH)(i:Nat)(x:gH)(vb:Nat)(a:w.ownsRow 0 249 4 v l.length (l.flatMap eC))(h1:∀u∈l.flatMap eC,u.oneCell'=true)(z:i<=l.length)(c:l.length<=2199023255000)(d:dZ w vb (eC x).toArray 249)(h:∀u∈eC x,u.oneCell'=true)(f:v.ownBlock≠some vb):
  Vq 346 #[v,aa i,Vr vb 1 1] w (BY w v (l.length+1) ((l.take i++x::l.drop i).flatMap eC)):=by
 rw[<-Lf];by_cases he:i=l.length;.subst he;have:=BZ w v (l.flatMap eC) (eC x) l.length vb a c d rfl h;have o:(l.flatMap eC).take (l.length*4)=l.flatMap eC:=ch (by rw[a.1];exact aE _);have p:(l.flatMap eC).drop (l.length*4)= []:=cu (by rw[a.1];exact aE _);rw[o,p,bV];exact this
 .rcases a.2 with⟨rfl,t⟩|⟨g,b,j,rfl,y,k,r,q,s,m⟩;.omega
  .have n:vb≠g:=λe=>f (by rw[e];rfl)
   by_cases hr:l.length+1<=b;.exact zU w _ (eC x) g l.length b i vb j k s m a.1 h1 Vv c hr q d rfl h n
   .exact zV w _ (eC x) g l.length b i vb j k m a.1 h1 Vv c Vv r d rfl h
section
open VH
section
variable {w:aw} {c db i:Nat} {x:gH} {l:List gH}
theorem mo {T:TypeId}{k n g o:Nat}{xs:ay}(h:w.ownsRow 0 T k (Vr g n c) n xs)(v:Value)(d:o<n*k):
  (w.setCell (aj g o) v).ownsRow 0 T k (Vr g n c) n (xs.set o v):=by
 rcases h.2 with⟨a,_⟩|⟨r,e,b,a,f,i,j,l,m,p⟩;.cases a
 .cases a;have q:dZ w g b T:=i;refine⟨by simpa using h.1,.inr ⟨g,c,b.setIfInBounds o v,rfl,f,q.set o v,j,l,by simpa using m,?_⟩⟩;rw[<-p,Array.toList_setIfInBounds,List.take_set]
def qs (x:gH):Prop:=(∃a n c,x.2.1= .slice a n c)/\(∃a n c,x.2.2.1= .slice a n c)/\∃o,x.2.2.2= .map o
theorem qs.one (h:qs x):x.2.1.oneCell'=true/\x.2.2.1.oneCell'=true/\x.2.2.2.oneCell'=true:=by
 obtain⟨⟨a,n,c,b⟩,⟨f,i,g,d⟩,o,e⟩:=h;rw[b,d,e];exact⟨rfl,rfl,rfl⟩
theorem qs.new (n:Int):qs (n,ai,ai,.map none):=⟨⟨_,_,_,rfl⟩,⟨_,_,_,rfl⟩,_,rfl⟩
structure DR (w:aw)(db:Nat)(sv uv:Value)(l:List gH):Prop where
 blk:dZ w db #[sv,uv] 183
 row:w.ownsRow 0 249 4 sv l.length (l.flatMap eC)
 form:∀x∈l,qs x
 srt:l.Pairwise (λa b=>a.1<b.1)
 ne:sv.ownBlock≠some db
 len:l.length<=2199023255000
theorem DR.O {w':aw}{sv uv:Value}(h:DR w db sv uv l)(h1:w'.heap[db]?=w.heap[db]?)(a:∀b,sv.ownBlock=some b->w'.heap[b]?=w.heap[b]?):DR w' db sv uv l:=
 ⟨h1.J h.blk,eD h.row a,h.form,h.srt,h.ne,h.len⟩
theorem DR.G {w':aw}{sv uv:Value}(h:DR w db sv uv l)(a:ak w w'):DR w' db sv uv l:=
 h.O (a.block _ h.blk.lt) (λb e=>a.block b (h.row.lt b e).2)
theorem Hj (w:aw)(db:Nat)(sv uv:Value)(l:List gH)(n:Int)(h:DR w db sv uv l):
  Calls prog 345 #[ah db,aa n] w λe w'=>wM (l.map (·.1)) n e/\ak w w':=by
 have g:=Lb w sv l n 0 h.row (λx k=>(h.form x k).one) (h.srt.imp (λh=>Int.le_of_lt h)) h.len;have⟨o,p⟩:=h.blk.I;obtain⟨a,m,c,rfl⟩:=d7 h.row;go_in
 go_wp2_with fail;refine g.V ?_;rintro e w' ⟨⟨i,rfl,b,d,f⟩,j⟩;go_wp2;go_ret2;exact⟨⟨i,rfl,b,d,f⟩,j⟩
def wS (w:aw)(db:Nat)(sv uv:Value)(l:List gH)(n:Int)(e:Ending)(w':aw):Prop:=
 ∃g c pre x post,e= .returned (.pointer (some (aj g (pre.length*4))))/\DR w' db (.slice (some (aj g 0)) (pre++x::post).length c) uv (pre++x::post)/\x.1=n/\
  ((l=pre++x::post/\sv= .slice (some (aj g 0)) (pre++x::post).length c)\/(l=pre++post/\x=(n,ai,ai,.map none)))/\ee (db::sv.ownBlock.toList) w w'/\(sv.ownBlock=some g\/w.heap.size<=g)
theorem vz (h:x.2.1.oneCell'=true/\x.2.2.1.oneCell'=true/\x.2.2.2.oneCell'=true):∀u∈eC x,u.oneCell'=true:=by
 intro u a;simp[eC]at a;rcases a with rfl|rfl|rfl|rfl;.rfl
 .exact h.1
 .exact h.2.1
 .exact h.2.2
theorem FH {n:Int}(t:x.1=n)(f:l.Pairwise (λa b=>a.1<b.1))(h1:∀k y,(l.map (·.1))[k]?=some y->k<i->y<n)(p:∀k y,(l.map (·.1))[k]?=some y->i<=k->n<=y)(u:(l.map (·.1))[i]?≠some n):
  (l.take i++x::l.drop i).Pairwise (λa b=>a.1<b.1):=by
 have r:∀y∈l.drop i,n<y.1:=by
  intro y d;have⟨j,c⟩:=bX.1 d;rw[dJ]at c;have q:=p (i+j) y.1 (by rw[aT,c];rfl) Vv;by_cases e:y.1=n
  .exfalso;apply u
   cases j with
   |zero=>rw[aT,show i=i+0 by omega,c];simp[e]
   |succ j=>
    have h:i+(j+1)<l.length:=by
     by_cases q:i+(j+1)<l.length;.exact q
     .rw[bg Vv]at c;cases c
    have w:=p i (l[i]'Vv).1 (by rw[aT,aO Vv];rfl) (aE _);rw[cg]at f;have v:=f i (i+(j+1)) Vv h Vv;rw[aO h]at c;rw[Option.some.inj c]at v;omega
  .omega
 have s:∀y∈l.take i,y.1<n:=by
  intro y d;have⟨j,c⟩:=bX.1 d
  have m:j<i:=by
   by_cases q:j<i;.exact q
   .rw[bg (by rw[bN];omega)]at c;cases c
  rw[cC m]at c;exact h1 j y.1 (by rw[aT,c];rfl) m
 rw[cl];refine⟨f.sublist (List.take_sublist _ _),bu.2 ⟨λy d=>by rw[t];exact r y d,f.sublist (List.drop_sublist _ _)⟩,?_⟩;intro a o b g;rcases aR.1 g with rfl|g;.rw[t];exact s a o
 .have:=s a o;have:=r b g;omega
theorem uF (w:aw)(db:Nat)(sv uv:Value)(l:List gH)(n:Int)(h:DR w db sv uv l)(Z:l.length<2199023255000):
  Calls prog 266 #[ah db,aa n] w (wS w db sv uv l n):=by
 have S:=Hj w db sv uv l n h;obtain⟨a,c,rfl⟩:=iB h.row;go_in
 go_wp2_with fail;refine S.V ?_;rintro e w1 ⟨⟨i,rfl,A,Q,R⟩,m⟩;rw[bO]at A;have f:=h.G m;by_cases hin:(l.map (·.1))[i]?=some n
 .have r:decide ((l.map (·.1))[i]?=some n)=true:=decide_eq_true hin;rw[r];rw[aT]at hin;have⟨x,d,O⟩:=bi.1 hin;have J:=gl d;obtain⟨g,rfl,_,E,_⟩:=eJ h.row Vv;have⟨W,X⟩:=f.blk.I;have K:i<=l.length:=Vv;have v:Hid (l=l.take i++x::l.drop (i+1)):=(by show l=_;have:=bn.1 d;obtain⟨Y,rfl⟩:=this;simp);have y:Hid ((l.take i).length=i):=by show(l.take i).length=i;rw[bN];omega
  have L:decide ((i:Int)<(l.length:Int))=true:=by simpa using J
  clear d hin r;go_wp2;go_ret;refine⟨g,c,l.take i,x,l.drop (i+1),by rw[y.o];rfl,?_,O,.inl ⟨v.o,by rw[<-v.o]⟩,ee.oB m,.inl rfl⟩;rw[<-v.o];exact f
 .have r:decide ((l.map (·.1))[i]?=some n)=false:=decide_eq_false hin;rw[r];have⟨W,X⟩:=f.blk.I;have V:w.heap.size<=w1.heap.size:=m.size;have H:dZ (w1.Vn #[aa n,ai,ai,.map none] 249) w1.heap.size (eC (n,ai,ai,.map none)).toArray 249:=dZ.new w1 _ _;have D:=f.G ((Vs w1).alloc (aE _) (am #[aa n,ai,ai,.map none] 249));have M:(Value.slice a l.length c).ownBlock≠some w1.heap.size:=λe=>by have:=(f.row.lt _ e).2;omega
  have T:=Lg _ (.slice a l.length c) l i (n,ai,ai,.map none) w1.heap.size D.row (λu C=>by
   have⟨x,d,C⟩:=List.mem_flatMap.1 C
   exact vz (h.form x d).one u C) A Vv H (vz ⟨rfl,rfl,rfl⟩) M
  have N:Hid (((l.map (·.1))[i]?=some n)->False):=hin;clear hin r;go_wp2_with fail;refine T.V ?_;rintro e w2 ⟨g,p,rfl,I,j,G⟩;have o:ee (db::(Value.slice a l.length c).ownBlock.toList) w w2:=(by have P:ee (db::(Value.slice a l.length c).ownBlock.toList) w (w1.Vn #[aa n,ai,ai,.map none] 249):=(ee.oB m).alloc _;refine P.J ⟨j.os,j.tape,j.output,j.size,λk B s=>j.block k B (λe=>s ?_)⟩;rw[<-e];simp);have U:db<w1.heap.size:=f.blk.lt;have t:dZ w2 db #[.slice a l.length c,uv] 183:=(j.block db Vx (λe=>h.ne e.sy)).J D.blk
  have F:db≠g:=by
   rcases G with q|q;.exact λe=>h.ne (by rw[e];exact q)
   .simp at q;omega
  have E:(Value.slice a l.length c).ownBlock=some g\/w.heap.size<=g:=G.imp id (λq=>by simp at q;omega);have⟨a,b⟩:=t.I;have⟨a,b⟩:=(t.set 0 (Vr g (l.length+1) p)).I;have y:Hid ((l.take i).length=i):=by show(l.take i).length=i;rw[bN];omega
  have z:Hid ((l.take i++(n,Value.slice none 0 0,Value.slice none 0 0,Value.map none)::l.drop i).length=l.length+1):=by show List.length _=_;simp;omega
  have L:decide ((i:Int)<(l.length:Int)+1)=true:=Vx;have K:i<=l.length:=A;go_wp2;go_ret;refine⟨g,p,l.take i,(n,ai,ai,.map none),l.drop i,by rw[y.o];rfl,?_,rfl,.inr ⟨(bY i l).sy,rfl⟩,?_,E⟩
  .rw[z.o];refine⟨t.set 0 _,?_,?_,FH rfl h.srt Q R N.o,λe=>F (by simpa [Value.ownBlock]using e.sy),by rw[z.o];omega⟩
   .rw[z.o];refine eD I λb m=> ?_
    obtain rfl:g=b:=by simpa [Value.ownBlock]using m
    rw[dY,dQ (λe=>F e)]
   .intro x d;simp only[aW,aR]at d;rcases d with d|rfl|d;.exact h.form x (List.mem_of_mem_take d)
    .exact qs.new n
    .exact h.form x (cJ d)
  .exact⟨o.os,o.tape,o.output,by simpa using o.size,λk B s=>by
    rw[dY,dQ (λe=>s (by simp[e]))]
    exact o.block k B s⟩
theorem sl {a:aC}(b:w.ownsRow 0 249 4 (.slice a l.length c) l.length (l.flatMap eC))(h:l[i]?=some x):
  ∃g,a=some (aj g 0)/\g<w.heap.size/\∀w':aw,w'.heap[g]?=w.heap[g]?->w'.cell? (aj g (i*4))=some (aa x.1)/\w'.cell? (aj g (i*4+1))=some x.2.1/\w'.cell? (aj g (i*4+2))=some x.2.2.1/\w'.cell? (aj g (i*4+3))=some x.2.2.2:=by
 have n:=gl h;obtain⟨g,rfl,_,k,d⟩:=eJ b Vv;have e:=λj m=>gd eC 4 gz l i x h j m
 refine⟨g,rfl,k,λw' f=>⟨?_,?_,?_,?_⟩⟩;.exact d w' f _ _ ((e 0 Vv).J rfl)
 .exact d w' f _ _ ((e 1 Vv).J rfl)
 .exact d w' f _ _ ((e 2 Vv).J rfl)
 .exact d w' f _ _ ((e 3 Vv).J rfl)
end
end
section
variable {α β:Type}
def j0 {α β:Type}(P:α->β->(ax)->Prop):(ax)->List α->List β->Prop
 |_,[],[]=>True
 |Y,x::l,y::r=>∃A B:ax,P x y A/\j0 P B l r/\(∀b,A b->Y b)/\(∀b,B b->Y b)/\∀b,A b->¬B b
 |_,[],_::_=>False
 |_,_::_,[]=>False
theorem j0.V {P:α->β->(ax)->Prop}{Y Z:ax}(a:∀b,Y b->Z b):∀{l:List α} {r:List β},j0 P Y l r->j0 P Z l r
 | [],[],_=>trivial
 |_::_,_::_,⟨A,B,h1,h2,h3,h4,h5⟩=>⟨A,B,h1,h2,λb h=>a b (h3 b h),λb h=>a b (h4 b h),h5⟩
 | [],_::_,h=>h.elim
 |_::_,[],h=>h.elim
theorem j0.imp {P Q:α->β->(ax)->Prop}:∀{l:List α} {r:List β} {Y:ax},j0 P Y l r->(∀x y A,x∈l->y∈r->(∀b,A b->Y b)->P x y A->Q x y A)->j0 Q Y l r
 | [],[],_,_,_=>trivial
 |_::_,_::_,_,⟨A,B,h1,h2,h3,h4,h5⟩,h=>⟨A,B,h _ _ A Vw Vw h3 h1,h2.imp (λx y C d e a=>h x y C (by simp[d]) (by simp[e]) (λb c=>h4 b (a b c))),h3,h4,h5⟩
 | [],_::_,_,h,_=>h.elim
 |_::_,[],_,h,_=>h.elim
theorem j0.len {P:α->β->(ax)->Prop}:∀{l:List α} {r:List β} {Y:ax},j0 P Y l r->l.length=r.length
 | [],[],_,_=>rfl
 |_::_,_::_,_,⟨_,_,_,h2,_⟩=>by simp[h2.len]
 | [],_::_,_,h=>h.elim
 |_::_,[],_,h=>h.elim
theorem j0.split {P:α->β->(ax)->Prop}:∀{pre:List α} {x:α} {post:List α} {r:List β} {Y:ax},j0 P Y (pre++x::post) r->
  ∃rp y rq,r=rp++y::rq/\rp.length=pre.length/\∃A B:ax,P x y A/\j0 P B (pre++post) (rp++rq)/\(∀b,A b->Y b)/\(∀b,B b->Y b)/\∀b,A b->¬B b
 | [],_,_,[],_,h=>h.elim
 | [],_,_,y::rq,_,⟨A,B,h1,h2,h3,h4,h5⟩=>⟨[],y,rq,rfl,rfl,A,B,h1,h2,h3,h4,h5⟩
 |_::_,_,_,[],_,h=>h.elim
 |_::_,_,_,q::_,_,⟨A,B,h1,h2,h3,h4,h5⟩=>by
  obtain⟨rp,y,rq,rfl,i,f,c,j,k,d,e,l⟩:=h2.split;refine⟨q::rp,y,rq,rfl,by simp[i],f,λb=>A b\/c b,j,⟨A,c,h1,k,λb h=> .inl h,λb h=> .inr h,λb a g=>h5 b a (e b g)⟩,λb h=>h4 b (d b h),?_,?_⟩
  .rintro b (h|h);.exact h3 b h
   .exact h4 b (e b h)
  .rintro b a (h|h);.exact h5 b h (d b a)
   .exact l b a h
theorem j0.join {P:α->β->(ax)->Prop}:∀{pre:List α} {x:α} {post:List α} {rp:List β} {y:β} {rq:List β} {A B Y:ax},rp.length=pre.length->P x y A->j0 P B (pre++post) (rp++rq)->
  (∀b,A b->Y b)->(∀b,B b->Y b)->(∀b,A b->¬B b)->j0 P Y (pre++x::post) (rp++y::rq)
 | [],_,_,[],_,_,A,B,_,_,h1,h2,h3,h4,h5=>⟨A,B,h1,h2,h3,h4,h5⟩
 | [],_,_,_::_,_,_,_,_,_,hl,_,_,_,_,_=>by simp at hl
 |_::_,_,_,[],_,_,_,_,_,hl,_,_,_,_,_=>by simp at hl
 |_::_,_,_,_::_,_,_,A,_,_,hl,h1,⟨C,D,q1,q2,q3,q4,q5⟩,h3,h4,h5=>by
  refine⟨C,λb=>A b\/D b,q1,j0.join (by simpa using hl) h1 q2 (λb h=> .inl h) (λb h=> .inr h) (λb h c=>h5 b h (q4 b c)),λb h=>h4 b (q3 b h),?_,?_⟩
  .rintro b (h|h);.exact h3 b h
   .exact h4 b (q4 b h)
  .rintro b a (h|h);.exact h5 b h (q3 b a)
   .exact q5 b a h
theorem j0.filter {P:α->β->(ax)->Prop}{p:α->Bool}{q:β->Bool}(a:∀x y A,P x y A->p x=q y):∀{l:List α} {r:List β} {Y:ax},j0 P Y l r->j0 P Y (l.filter p) (r.filter q)
 | [],[],_,_=>trivial
 |x::_,y::_,_,⟨A,B,h1,h2,h3,h4,h5⟩=>by
  rw[cm,cm,a x y A h1]
  cases q y with
  |true=>exact⟨A,B,h1,h2.filter a,h3,h4,h5⟩
  |false=>exact(h2.filter a).V h4
 | [],_::_,_,h=>h.elim
 |_::_,[],_,h=>h.elim
theorem j0.append {P:α->β->(ax)->Prop}:∀{l:List α} {r:List β} {l':List α} {r':List β} {A B Y:ax},j0 P A l r->j0 P B l' r'->(∀b,A b->Y b)->(∀b,B b->Y b)->(∀b,A b->¬B b)->j0 P Y (l++l') (r++r')
 | [],[],_,_,_,_,_,_,h2,_,h4,_=>h2.V h4
 |_::_,_::_,_,_,A,B,_,⟨C,D,q1,q2,q3,q4,q5⟩,h2,h3,h4,h5=>by
  refine⟨C,λb=>D b\/B b,q1,q2.append h2 (λb h=> .inl h) (λb h=> .inr h) (λb h=>h5 b (q4 b h)),λb h=>h3 b (q3 b h),?_,?_⟩
  .rintro b (h|h);.exact h3 b (q4 b h)
   .exact h4 b h
  .rintro b a (h|h);.exact q5 b a h
   .exact h5 b (q3 b a) h
 | [],_::_,_,_,_,_,_,h,_,_,_,_=>h.elim
 |_::_,[],_,_,_,_,_,h,_,_,_,_=>h.elim
inductive Kd where
 |vals
 |msgs
 |ents (t:au)
def pQ (S:eF)(f:fw):Kd:=if f.isMap then .ents f.key else if(fC S f).isSome then .msgs else .vals
def oO (S:eF)(T:Option MT)(n:Int)(kd:Kd):Prop:=∀d f,T=some d->ed d.fs n=some f->kd=pQ S f
def ou (S:eF)(T:Option MT)(n:Int):Option MT:=T.bind λd=>(ed d.fs n).bind (fC S)
def vA (T:Option MT)(n:Int):Prop:=∃d f,T=some d/\ed d.fs n=some f/\f.isRep=false
def mU (v:LV):ay:= [.int .u64 v.1,ag v.2,ai,Vp]
def re (v:LV):PV:=(v.1,v.2,PM.none)
def rK (p:Nat):Value:=ah p
def kr (t:au)(v:PV):LV:=(if fk jp t then(v.1+9223372036854775808)%2^64 else v.1,v.2.1)
def lI (a b:LV):Prop:=a.1<b.1\/(a.1=b.1/\Op.bytesLess a.2.toList b.2.toList=true)
def j7:List LV->aB->LV->Option Nat
 |k::l,p::r,q=>if k.1=q.1/\gQ k.2 q.2=true then some p else j7 l r q
 |_,_,_=>none
def SJ:Option Nat->DataW Unit->DataW Unit
 |some p,_=>oM (some p)
 |none,z=>z
def kV (k:LV):Value:= .agg #[.int .u64 k.1,ag k.2]
def j8 (w:aw)(mb:Nat)(ks:List LV)(ps:aB):Prop:=
 ∃D,w.ownsMap prog 386 gO mb ks.length D/\Go.Maps.size D=ks.length/\(∀(k:LV) kl,Go.keyOf prog 386 (kV k)=some kl->∀z,D.atKey kl z=SJ (j7 ks ps k) z)
abbrev Qa:=Option MT->aw->(ax)->Nat->PM->Prop
structure UA (w:aw)(x:gH)(f:PF)(A:ax)(lv:List LV):Prop where
 ne:lv≠ []
 pm:f.2=lv.map re
 row:eP w A 55 4 x.2.1 lv.length (lv.flatMap mU)
 c2:x.2.2.1=ai
 c3:x.2.2.2= .map none
def mV (m:PM):PV:=(0,eS,m)
structure UB (R:Qa)(w:aw)(T:Option MT)(L:Prop)(x:gH)(f:PF)(A:ax)(ps:aB)(B:ax):Prop where
 ne:ps≠ []
 lone:L->ps.length=1
 c1:x.2.1=ai
 c3:x.2.2.2= .map none
 row:eP w A 180 1 x.2.2.1 ps.length (ps.map rK)
 inA:∀b,B b->A b
 own:∀b,x.2.2.1.ownBlock=some b->¬B b
 sub:j0 (λp v C=>v=mV v.2.2/\R T w C p v.2.2) B ps f.2
 len:ps.length<=2199023255000
structure UC (R:Qa)(w:aw)(x:gH)(f:PF)(A:ax)(t:au)(mb:Nat)(ps:aB)(B:ax):Prop where
 ne:ps≠ []
 c1:x.2.1=ai
 c2:x.2.2.1=ai
 c3:x.2.2.2= .map (some mb)
 map:j8 w mb (f.2.map λv=>kr t (fS v)) ps
 inA:∀b,B b->A b
 inM:A mb
 own:¬B mb
 key:∀v∈f.2,Fi t (fS v)
 srt:f.2.Pairwise (λa b=>lI (kr t (fS a)) (kr t (fS b)))
 sub:j0 (λp v C=>v=mV v.2.2/\R none w C p v.2.2) B ps f.2
 len:ps.length<=2199023255000
def gY (S:eF)(R:Qa)(w:aw)(T:Option MT)(x:gH)(f:PF)(A:ax):Prop:=
 x.1=f.1/\((oO S T x.1 .vals/\∃lv,UA w x f A lv)\/(oO S T x.1 .msgs/\∃ps B,UB R w (ou S T x.1) (vA T x.1) x f A ps B)\/∃t,oO S T x.1 (.ents t)/\∃mb ps B,UC R w x f A t mb ps B)
structure DrB (w:aw)(Z:ax)(db:Nat)(sv uv:Value)(u:au)(l:List gH):Prop where
 c:DR w db sv uv l
 un:w.ownsRow 0 5 1 uv u.size (Lib.strCells u)
 zd:Z db
 zs:∀b,sv.ownBlock=some b->Z b
 zu:∀b,uv.ownBlock=some b->Z b
 su:∀b,sv.ownBlock=some b->uv.ownBlock≠some b
 ud:uv.ownBlock≠some db
structure OB (w:aw)(Z:ax)(db:Nat)(sv uv:Value)(u:au)(l:List gH)(Y:ax):Prop extends DrB w Z db sv uv u l where
 yz:∀b,Y b->Z b
 yl:∀b,Y b->b<w.heap.size
 yd:¬Y db
 ys:∀b,sv.ownBlock=some b->¬Y b
 yu:∀b,uv.ownBlock=some b->¬Y b
def eQ (S:eF):Nat->Qa
 |0,_,_,_,_,_=>False
 |k+1,T,w,Z,db,m=>∃sv uv l Y,OB w Z db sv uv m.unk l Y/\j0 (gY S (eQ S k) w T) Y l m.fs
end
def mZ (n:Int)(vs:List PV):∀l:List PF,ik n vs true l=l.filter (λx=>decide (x.1≠n))
 | []=>rfl
 |x::l=>by
  rw[ik,cm];simp only[dC,cV,aU,if_false,aX,dt];rw[mZ n vs l];by_cases h:x.1=n<;>simp[h]
def m8 (n:Int):∀l:List PF,(∀x∈l,x.1≠n)->l.filter (λx=>decide (x.1≠n))=l:=λl h=>dd.2 (λx a=>by simp[h x a])
def tq (n:Int)(vs:List PV)(fq:List PF)(c:∀x∈fq,n<x.1):∀fp:List PF,(∀x∈fp,x.1<n)->ik n vs false (fp++fq)=fp++(n,vs)::fq
 | [],_=>by
  cases fq with
  |nil=>rfl
  |cons y r=>
   have e:=c y Vw;simp only[aX];have a:decide (n<=y.1)=true:=Vx;have b:¬y.1=n:=Vv;rw[ik,a,dH,mZ,m8 n r (λx d=>by have:=c x (by simp[d]);omega)]
   simp[b]
 |x::fp,hp=>by
  have d:=hp x Vw;rw[bo,ik];have a:decide (n<=x.1)=false:=Vx;have b:¬x.1=n:=Vv;rw[a];simp only[dK,cW,aU,if_false,aX,b,de];rw[tq n vs fq c fp (λy e=>hp y (by simp[e]))];rfl
def wT (n:Int)(vs old:List PV)(fq:List PF)(a:∀x∈fq,n<x.1):∀fp:List PF,(∀x∈fp,x.1<n)->ik n vs false (fp++(n,old)::fq)=fp++(n,vs)::fq
 | [],_=>by
  simp only[aX];rw[ik];simp only[dj,decide_true,dK,dB,if_true,aX,dH];rw[mZ,m8 n fq (λx b=>by have:=a x b;omega)]
  rfl
 |x::fp,hp=>by
  have b:=hp x Vw;rw[bo,ik];have c:decide (n<=x.1)=false:=Vx;have d:¬x.1=n:=Vv;rw[c];simp only[dK,cW,aU,if_false,aX,d,de];rw[wT n vs old fq a fp (λy e=>hp y (by simp[e]))];rfl
def rh (n:Int)(old:List PV)(fq:List PF):∀fp:List PF,(∀x∈fp,x.1<n)->gT (fp++(n,old)::fq) n=old
 | [],_=>by simp[gT]
 |x::fp,hp=>by
  have c:=hp x Vw;have a:¬x.1=n:=Vv;simp only[bo,gT,a,if_false];exact rh n old fq fp (λy b=>hp y (by simp[b]))
def nX (n:Int):∀l:List PF,(∀x∈l,x.1≠n)->gT l n= []
 | [],_=>rfl
 |x::l,h=>by
  simp only[gT,h x Vw,if_false];exact nX n l (λy a=>h y (by simp[a]))
def j8.O {w w':aw}{mb:Nat}{ks:List LV}{ps:aB}(h:j8 w mb ks ps)(d:w'.heap[mb]?=w.heap[mb]?):j8 w' mb ks ps:=by
 obtain⟨D,a,b,c⟩:=h;exact⟨D,lg a d,b,c⟩
def j8.lt {w:aw}{mb:Nat}{ks:List LV}{ps:aB}(h:j8 w mb ks ps):mb<w.heap.size:=by
 obtain⟨D,a,_⟩:=h;exact a.lt
def tr {w w':aw}{b:Nat}(a:b<w.heap.size)(h:w'.heap[b]?=w.heap[b]?):b<w'.heap.size:=by
 by_cases q:b<w'.heap.size;.exact q
 .rw[cL Vv,bU a]at h;cases h
def gY.O {S:eF}{R:Qa}{w w':aw}{T:Option MT}{x:gH}{f:PF}{A:ax}(i:∀T C p m,(∀b,C b->A b)->R T w C p m->R T w' C p m)
  (e:∀b,A b->b<w.heap.size->w'.heap[b]?=w.heap[b]?) (h:gY S R w T x f A):gY S R w' T x f A:=by
 obtain⟨k,l⟩:=h;refine⟨k,?_⟩;rcases l with⟨q,lv,h⟩|⟨q,g,B,h⟩|⟨t,q,j,g,B,h⟩;.exact .inl ⟨q,lv,{h with row:=h.row.O e}⟩
 .exact .inr (.inl ⟨q,g,B,{h with row:=h.row.O e,sub:=h.sub.imp λp v C _ _ c a=>⟨a.1,i _ _ _ _ (λb d=>h.inA b (c b d)) a.2⟩}⟩)
 .exact .inr (.inr ⟨t,q,j,g,B,{h with map:=h.map.O (e j h.inM h.map.lt),sub:=h.sub.imp λp v C _ _ c a=>⟨a.1,i _ _ _ _ (λb d=>h.inA b (c b d)) a.2⟩}⟩)
def DrB.O {w w':aw}{Z:ax}{db:Nat}{sv uv:Value}{u:au}{l:List gH}(h:DrB w Z db sv uv u l)(d:∀b,Z b->b<w.heap.size->w'.heap[b]?=w.heap[b]?):DrB w' Z db sv uv u l:=
 {h with
  c:=h.c.O (d db h.zd h.c.blk.lt) (λb a=>d b (h.zs b a) (h.c.row.lt b a).2)
  un:=eD h.un λb a=>d b (h.zu b a) (h.un.lt b a).2}
def eQ.O {S:eF}:∀{k:Nat} {T:Option MT} {w w':aw} {Z:ax} {db:Nat} {m:PM},eQ S k T w Z db m->(∀b,Z b->b<w.heap.size->w'.heap[b]?=w.heap[b]?)->eQ S k T w' Z db m
 |0,_,_,_,_,_,_,h,_=>h
 |_+1,_,_,_,_,_,_,⟨sv,uv,l,Y,hy,hs⟩,hk=>
  ⟨sv,uv,l,Y,{hy with toDrB:=hy.toDrB.O hk,yl:=λb a=>tr (hy.yl b a) (hk b (hy.yz b a) (hy.yl b a))},hs.imp λ_ _ _ _ _ d h=>
   h.O (λ_ _ _ _ e f=>eQ.O f λb a c=>hk b (hy.yz b (d b (e b a))) c) (λb a c=>hk b (hy.yz b (d b a)) c)⟩
def eQ.V {S:eF}{k:Nat}{T:Option MT}{w:aw}{Z Z':ax}{db:Nat}{m:PM}(h:eQ S k T w Z db m)(d:∀b,Z b->Z' b):eQ S k T w Z' db m:=by
 cases k with
 |zero=>exact h
 |succ k=>
  obtain⟨sv,uv,l,Y,c,e⟩:=h;exact⟨sv,uv,l,Y,{c with zd:=d _ c.zd,zs:=λb a=>d b (c.zs b a),zu:=λb a=>d b (c.zu b a),yz:=λb a=>d b (c.yz b a)},e⟩
def eQ.lt {S:eF}{k:Nat}{T:Option MT}{w:aw}{Z:ax}{db:Nat}{m:PM}(h:eQ S k T w Z db m):db<w.heap.size/\Z db:=by
 cases k with
 |zero=>exact h.elim
 |succ k=>
  obtain⟨sv,uv,l,Y,a,b⟩:=h;exact⟨a.c.blk.lt,a.zd⟩
def j0.nums {S:eF}{R:Qa}{w:aw}{T:Option MT}:∀{l:List gH} {fs:List PF} {Y:ax},j0 (gY S R w T) Y l fs->fs.map (·.1)=l.map (·.1)
 | [],[],_,_=>rfl
 |_::_,_::_,_,⟨_,_,h1,h2,_⟩=>by simp[h2.nums,h1.1]
 | [],_::_,_,h=>h.elim
 |_::_,[],_,h=>h.elim
structure wU (S:eF)(k:Nat)(T:Option MT)(w1:aw)(Z1:ax)(db:Nat)(m:PM)(n:Int)(g:Nat)(pre:List gH)(x:gH)(post:List gH)(sv uv:Value)(A B:ax)(fp fq:List PF):Prop where
 own:sv.ownBlock=some g
 y:OB w1 Z1 db sv uv m.unk (pre++x::post) (λb=>A b\/B b)
 len:fp.length=pre.length
 sep:j0 (gY S (eQ S k) w1 T) B (pre++post) (fp++fq)
 dis:∀b,A b->¬B b
 xn:x.1=n
 lo:∀f∈fp,f.1<n
 hi:∀f∈fq,n<f.1
 was:(∃old,m.fs=fp++(n,old)::fq/\gY S (eQ S k) w1 T x (n,old) A)\/(m.fs=fp++fq/\x=(n,ai,ai,.map none)/\∀b,¬A b)
def wU.put {S:eF}{k:Nat}{T:Option MT}{w1:aw}{Z1:ax}{db:Nat}{m:PM}{n:Int}{g:Nat}{pre:List gH}{x:gH}{post:List gH}{sv uv:Value}{A B:ax}{fp fq:List PF}
  (h:wU S k T w1 Z1 db m n g pre x post sv uv A B fp fq) {vs:List PV} (c:vs≠ []):m.put n vs= .mk (fp++(n,vs)::fq) m.unk:=by
 have b:vs.isEmpty=false:=by cases vs with
  |nil=>exact absurd rfl c
  |cons _ _=>rfl
 unfold PM.put;rw[b];rcases h.was with⟨a,e,_⟩|⟨e,_⟩;.rw[e,wT n vs a fq h.hi fp h.lo]
 .rw[e,tq n vs fq h.hi fp h.lo]
def wU.close {S:eF}{k:Nat}{T:Option MT}{w1:aw}{Z1:ax}{db:Nat}{m:PM}{n:Int}{g:Nat}{pre:List gH}{x:gH}{post:List gH}{sv uv:Value}{A B:ax}{fp fq:List PF}
  (h:wU S k T w1 Z1 db m n g pre x post sv uv A B fp fq) {w2:aw} {x':gH} {vs:List PV} {A':ax} (s:DR w2 db sv uv (pre++x'::post)) (v:gY S (eQ S k) w2 T x' (n,vs) A') (u:vs≠ [])
  (i:∀b,A' b->Z1 b->b<w1.heap.size->A b) (j:∀b,A' b->b<w2.heap.size) (p:∀b,Z1 b->b<w1.heap.size->b≠g->¬A b->w2.heap[b]?=w1.heap[b]?):eQ S (k+1) T w2 (λb=>Z1 b\/A' b) db (m.put n vs):=by
 rw[h.put u];have l:∀b,B b->w2.heap[b]?=w1.heap[b]?:=λb a=>p b (h.y.yz b (.inr a)) (h.y.yl b (.inr a)) (λe=>h.y.ys g h.own (.inr (e▸a))) (λd=>h.dis b d a)
 have q:=h.y.c.blk.lt;refine⟨sv,uv,pre++x'::post,λb=>A' b\/B b,⟨⟨s,?_,.inl h.y.zd,λb a=> .inl (h.y.zs b a),λb a=> .inl (h.y.zu b a),h.y.su,h.y.ud⟩,?_,?_,?_,?_,?_⟩,?_⟩;.exact eD h.y.un λb a=>p b (h.y.zu b a) (h.y.un.lt b a).2 (λe=>h.y.su g h.own (e▸a)) (λd=>h.y.yu b a (.inl d))
 .rintro b (a|a);.exact .inr a
  .exact .inl (h.y.yz b (.inr a))
 .rintro b (a|a);.exact j b a
  .exact tr (h.y.yl b (.inr a)) (l b a)
 .rintro(a|a);.exact h.y.yd (.inl (i db a h.y.zd q))
  .exact h.y.yd (.inr a)
 .rintro b c (a|a);.exact h.y.ys b c (.inl (i b a (h.y.zs b c) (h.y.c.row.lt b c).2))
  .exact h.y.ys b c (.inr a)
 .rintro b c (a|a);.exact h.y.yu b c (.inl (i b a (h.y.zu b c) (h.y.un.lt b c).2))
  .exact h.y.yu b c (.inr a)
 .refine j0.join (A:=A') (B:=B) h.len v ?_ (λb a=> .inl a) (λb a=> .inr a) (λb d a=>h.dis b (i b d (h.y.yz b (.inr a)) (h.y.yl b (.inr a))) a);exact h.sep.imp λy f C _ _ o c=>c.O (λ_ _ _ _ r t=>t.O λb a _=>l b (o b (r b a))) (λb a _=>l b (o b a))
end Go.Proofs.YtfebdimolnobaaaGreatDoor
