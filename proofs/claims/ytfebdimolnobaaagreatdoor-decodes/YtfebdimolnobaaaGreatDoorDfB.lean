import Derived.Test.YtfebdimolnobaaaGreatDoorTreeOK
import Derived.Shelf.Spec.SlicesInsert
import Derived.Lib.AppendZerosOnto
set_option maxRecDepth 100000
set_option maxHeartbeats 8000000
set_option linter.all false
namespace Go.Proofs.YtfebdimolnobaaaGreatDoor
open Go.RowKit Go.Proofs.Tryz
def tT:(prog.info? 249).map (λi=>(i.zero,i.size,i.bytes))=some (some (.agg #[aa 0,ah,ah,.map none]),4,64):=Tj
def lf {P:Program}(w:aw)(dT sT ty elem:TypeId)(k g o dLen dCap:Nat)(a:Addr)(yA sCap:Nat)(Ts:aq)(t:TypeId)(cs:ay)
  (n:P.underlying dT=some (.slice elem)) (c:(P.info? elem).map (·.size)=some k)
  (f:w.heap[g]?=some (.cells Ts t (0,0))) (m:cs.length=Nat.min yA dLen*k)
  (d:∀j v,cs[j]?=some v->w.cell? (a.add j)=some v) (b:o+cs.length<=Ts.size) (h1:∀v∈cs,v.oneCell'=true):
  (Builtin.copy_ #[dT,sT] ty #[.slice (some (ai g o)) dLen dCap,.slice (some a) yA sCap]).run P w=
   .ok (goInt (Nat.min yA dLen)) (w.setRow g (Ts.toList.take o++cs++Ts.toList.drop (o+cs.length)).toArray):=by
 have l:=run_loadCells_list (P:=P) w a cs d;have e:=run_storeCells_at P g o t cs 0 Ts w f (by simpa using b) h1
 cases hq:P.info? elem with
 |none=>simp[hq]at c
 |some i=>
  have h:i.size=k:=by simpa [hq]using c
  simp[Builtin.copy_,run_underlying n,Builtin.lenOf,Builtin.firstCells,sizeOf,typeInfo,hq,h,<-m,l,e]
def AQ (w:aw)(v:Value)(n:Nat)(cs:ay)(e:Ending)(w':aw):Prop:=
 ∃g cap,e= .returned (Ta g n cap)/\w'.ownsRow 0 249 4 (Ta g n cap) n cs/\w.grownBy w' v.ownBlock/\(v.ownBlock=some g\/w.heap.size<=g)
def AR (w:aw)(v:Value)(cs xs:ay)(n vb:Nat)(b:w.ownsRow 0 249 4 v n cs)(z:n<=1073741824)(t:dP w vb xs.toArray 249)(h:xs.length=4)(f:∀u∈xs,u.oneCell'=true):
  Calls prog 346 #[v,aa n,Ta vb 1 1] w (AQ w v (n+1) (cs++xs)):=by
 have⟨x,k,o,l,q⟩:=info_parts tT;have i:∀j u,xs[j]?=some u->w.cell? (((ai vb 0):Addr).add j)=some u:=λj u s=>aY t j u (by simpa using s)
 obtain⟨a,c,rfl⟩:=ig b;go_in
 go_wp2_with (at_builtin;refine wpList_append_lies _ rfl _ _ 181 rfl 0 249 x _ 4 64 underlying181 k o l q rfl Te (.slice a n c) n cs rfl b (ai vb 0) 1 1 xs rfl h i f Te Tl Te Te _ rfl ?_;intro g d w1 p m r y)
 all_goals
  go_ret;exact⟨g,d,rfl,p,by cases a<;>exact m,by cases a<;>exact r.imp id (λe=>Te)⟩
def js {w w':aw}{row:Option Nat}{g:Nat}{cs:aq}(h:w.grownBy w' row)(b:row=some g\/w.heap.size<=g):w.grownBy (w'.setRow g cs) row:=
 ⟨h.os,h.tape,h.output,by simpa using h.size,λk c a=>by
  rw[setRow_other _ _ _ _ (λe=>by subst e;rcases b with q|q;exact a q.sy;omega)]
  exact h.block k c a⟩
def JB (Ts cs xs D:ay)(n i:Nat)(b:Ts.take (n*4)=cs)(a:cs.length=n*4)(c:xs.length=4)(h:i<n):
  ((Ts.take ((i+1)*4)++cs.drop (i*4)++D).take (i*4)++xs++(Ts.take ((i+1)*4)++cs.drop (i*4)++D).drop (i*4+xs.length)).take ((n+1)*4)=cs.take (i*4)++xs++cs.drop (i*4):=by
 have d:n*4<=Ts.length:=by rw[<-b,bG]at a;omega
 have g:(Ts.take ((i+1)*4)).length=i*4+4:=by rw[bG];omega
 have e:(Ts.take ((i+1)*4)++cs.drop (i*4)++D).take (i*4)=cs.take (i*4):=(by rw[cJ,List.take_append_of_le_length Te,List.take_take,Nat.min_eq_left Te,<-b,List.take_take,Nat.min_eq_left Te]);have f:(Ts.take ((i+1)*4)++cs.drop (i*4)++D).drop (i*4+xs.length)=cs.drop (i*4)++D:=(by rw[cJ,c];exact List.drop_left' g);rw[e,f,<-cJ];exact List.take_left' (by simp[c,a];omega)
def yT (w:aw)(cs xs:ay)(g n c i vb:Nat)(Ts:aq)(x:w.heap[g]?=some (.cells Ts 249 (0,0)))(a:Ts.size=c*4)(p:Ts.toList.take (n*4)=cs)(b:cs.length=n*4)(C:∀u∈cs,u.oneCell'=true)(hi:i<n)(e:n<=1073741824)(E:n+1<=c)(Z:c<=maxLen)(m:dP w vb xs.toArray 249)(d:xs.length=4)(D:∀u∈xs,u.oneCell'=true)(s:vb≠g):
  Calls prog 346 #[Ta g n c,aa i,Ta vb 1 1] w (AQ w (Ta g n c) (n+1) (cs.take (i*4)++xs++cs.drop (i*4))):=by
 have o:prog.underlying 181=some (.slice 249):=underlying181;have H:(prog.info? 249).map (·.size)=some 4:=(by have⟨f,R,a,J,e⟩:=info_parts tT;rw[R];simp[J]);have N:∀(W:aw),W.heap[vb]?=w.heap[vb]?->∀j u,xs[j]?=some u->W.cell? (((ai vb 0):Addr).add j)=some u:=λW f j u o=>aY (f.J m) j u (by simpa using o)
 have U:∀F B,(callFunc 404 #[Ta vb 1 1,.slice (some (ai g ((i+1)*4))) F B]).run prog w= .ok (.value (.bool false)) w:=λF B=>by
  rw[run_callFunc_extern func404 Tj Tj Tj (e:=Extern.SlicesOverlaps.overlaps #[181,181] #[4]) Tj,
   Lib.run_overlaps_apart w 181 4 249 o 4 sizeOf249 (ai vb 0) (ai g ((i+1)*4)) 1 1 F B s 249 249 4 Ts.size (by unfold World.shape?;rw[m];simp[d]) (by unfold World.shape?;rw[x]) Te (m.I.2 _) (m.I.2 _)]
  rfl
 obtain⟨a,y⟩:∃r:aq,Hid (r=(Ts.toList.take ((i+1)*4)++cs.drop (i*4)++Ts.toList.drop ((i+1)*4+(cs.drop (i*4)).length)).toArray):=⟨_,rfl⟩;have A:(cs.drop (i*4)).length=(n-i)*4:=by rw[List.length_drop,b];omega
 have e:a.size=Ts.size:=by rw[y.o];simp[A];omega
 have Q:∀(W:aw),W.heap[g]?=w.heap[g]?->∀j v,(cs.drop (i*4))[j]?=some v->W.cell? (((ai g (i*4)):Addr).add j)=some v:=λW f j v l=>by
  rw[Addr.add_lit,bz (w:=w) (by exact f),cell_of_row w g _ Ts _ _ x,<-bT];rw[List.getElem?_drop]at l
  have S:i*4+j<n*4:=by
   rw[<-b];by_cases q:i*4+j<cs.length;.exact q
   .rw[bi Te]at l;cases l
  rw[<-p,cG S]at l;exact l
 have I:∀(W:aw) k h G,W.heap[g]?=w.heap[g]?->(Builtin.copy_ #[181,181] k #[.slice (some (ai g ((i+1)*4))) (n+1-(i+1)) h,.slice (some (ai g (i*4))) (n+1-i) G]).run prog W= .ok (goInt (Nat.min (n+1-i) (n+1-(i+1)))) (W.setRow g a):=λW k h G f=>by
  rw[y.o];exact lf W _ _ k 249 4 g ((i+1)*4) (n+1-(i+1)) h (ai g (i*4)) (n+1-i) G Ts 249 (cs.drop (i*4)) o H (f.J x) (by rw[A];simp only[Nat.min_def];split<;>omega) (Q W f) (by rw[A];omega) (λv m=>C v (List.mem_of_mem_drop m))
 obtain⟨t,z⟩:∃r:aq,Hid (r=(a.toList.take (i*4)++xs++a.toList.drop (i*4+xs.length)).toArray):=⟨_,rfl⟩
 have T:∀(W:aw) k h,W.heap[g]?=some (.cells a 249 (0,0))->W.heap[vb]?=w.heap[vb]?->(Builtin.copy_ #[181,181] k #[.slice (some (ai g (i*4))) (n+1-i) h,Ta vb 1 1]).run prog W= .ok (goInt (Nat.min 1 (n+1-i))) (W.setRow g t):=λW k h f V=>by
  rw[z.o];exact lf W _ _ k 249 4 g (i*4) (n+1-i) h (ai vb 0) 1 1 a 249 xs o H f (by rw[d];simp only[Nat.min_def];split<;>omega) (N W V) Te D
 have J:¬((i:Int)=(n:Int)):=Te;have e:IntKind.i64.wrap ((i:Int)+1)=(i:Int)+1:=by rw[IntKind.wrap_i64];omega
 have e:IntKind.i64.wrap ((n:Int)+1)=(n:Int)+1:=by rw[IntKind.wrap_i64];omega
 go_in
 go_wp2_with (simp only[U])
 have mixed:prog.follows Departure.mixedOrders=true:=Tj;have e:(0:Int)<=(i:Int)+1:=Te;have e:i<=n:=Te;have e:((i:Int)+1).toNat=i+1:=Te;have X:¬(c=i+1):=Te;have e:(i:Int)<=(n:Int)+1:=Te;have Y:¬(c=i):=Te;have K:(w.drew).heap[g]?=w.heap[g]?:=rfl;have O:n+1-(i+1)=n-i:=Te;rw[O]at I;have L:(w.drew.setRow g a).heap[g]?=some (.cells a 249 (0,0)):=setRow_heap _ _ _ _ _ _ (K.J x);have P:(w.drew.setRow g a).heap[vb]?=w.heap[vb]?:=setRow_other _ _ _ _ s;go_region_law_o (refine step_copy_runI rfl _ _ 181 181 rfl (.slice (some (ai g ((i+1)*4))) (n-i) (c-(i+1))) (.slice (some (ai g (i*4))) (n+1-i) (c-i)) (by simp[Act.eval,Act.put]) (by simp[Act.eval,Act.put]) (I _ _ _ _ K) ?_)
 go_wp2_with (at_builtin;refine wpList_copy_runI _ rfl _ _ 181 181 rfl _ _ rfl rfl (T _ _ _ L P) ?_)
 go_ret;have M:w.grownBy ((w.drew.setRow g a).setRow g t) (some g):=js (js ⟨rfl,rfl,rfl,aD _,λ_ _ _=>rfl⟩ (.inl rfl)) (.inl rfl);have a:=setRow_heap _ g _ t _ _ L;refine⟨g,c,rfl,⟨?_,.inr ⟨g,c,t,rfl,aM _,a,Te,Z,?_,?_⟩⟩,M,.inl rfl⟩;.simp[d,b];omega
 .rw[z.o];simp;omega
 .rw[z.o,y.o];exact JB Ts.toList cs xs _ n i p b d hi
def JC (cs xs Z Y:ay)(n i:Nat)(b:cs.length=n*4)(a:xs.length=4)(e:i<n):
  (((cs.take (i*4)++Z++Y).take (i*4)++xs++(cs.take (i*4)++Z++Y).drop (i*4+xs.length)).take ((i+1)*4)++cs.drop (i*4)++
   ((cs.take (i*4)++Z++Y).take (i*4)++xs++(cs.take (i*4)++Z++Y).drop (i*4+xs.length)).drop ((i+1)*4+(cs.drop (i*4)).length)).take ((n+1)*4)=cs.take (i*4)++xs++cs.drop (i*4):=by
 have c:(cs.take (i*4)).length=i*4:=by rw[bG];omega
 have d:(cs.take (i*4)++Z++Y).take (i*4)=cs.take (i*4):=(by rw[cJ];exact List.take_left' c);rw[d];rw[List.take_left' (l₁:=cs.take (i*4)++xs) (i:=(i+1)*4) (by simp[a,c];omega)];exact List.take_left' (by simp[a,b];omega)
def yU (w:aw)(cs xs:ay)(g n c i vb:Nat)(Ts:aq)(a:w.heap[g]?=some (.cells Ts 249 (0,0)))(K:Ts.toList.take (n*4)=cs)(f:cs.length=n*4)(F:∀u∈cs,u.oneCell'=true)(hi:i<n)(d:n<=1073741824)(p:c<n+1)(b:n<=c)(x:dP w vb xs.toArray 249)(m:xs.length=4)(H:∀u∈xs,u.oneCell'=true):
  Calls prog 346 #[Ta g n c,aa i,Ta vb 1 1] w (AQ w (Ta g n c) (n+1) (cs.take (i*4)++xs++cs.drop (i*4))):=by
 obtain rfl:c=n:=Te;have s:prog.underlying 181=some (.slice 249):=underlying181;have⟨b,P,k,U,V⟩:=info_parts tT;have Q:(prog.info? 249).map (·.size)=some 4:=by rw[P];simp[U]
 have M:g<w.heap.size:=dP.lt a;have Ub:vb<w.heap.size:=x.lt;have E:(cs.drop (i*4)).length=(c-i)*4:=by rw[List.length_drop,f];omega
 have D:∀(W:aw),W.heap[g]?=w.heap[g]?->∀j v,cs[j]?=some v->W.cell? (ai g j)=some v:=λW o j v e=>by
  rw[bz (w:=w) (by exact o),cell_of_row w g _ Ts _ _ a,<-bT]
  have a:j<c*4:=by
   rw[<-f];by_cases q:j<cs.length;.exact q
   .rw[bi Te]at e;cases e
  rw[<-K,cG a]at e;exact e
 have hold:(Builtin.firstCells b.size i (Ta g i c)).run prog w.drew= .ok (cs.take (i*4)).toArray w.drew:=by
  rw[U]
  exact run_firstCells_some w.drew 4 i (ai g 0) i c (cs.take (i*4)) (by rw[bG];omega) (λj v e=>by
   rw[Addr.add_lit,dg];rw[List.getElem?_take]at e;split at e;.exact D _ rfl j v e
   .cases e)
 obtain⟨G,y⟩:∃G,Hid (G=grownCap w (c+1) c 249):=⟨_,rfl⟩;obtain⟨Z,O⟩:∃Z:aq,Hid (Z=Builtin.zeroCells (Value.agg #[aa 0,ah,ah,.map none]).cells (c+1-i)):=⟨_,rfl⟩;obtain⟨Y,N⟩:∃Y:aq,Hid (Y=Builtin.zeroCells (Value.agg #[aa 0,ah,ah,.map none]).cells (G-(c+1))):=⟨_,rfl⟩;obtain⟨a,z⟩:∃R:aq,Hid (R=(cs.take (i*4)).toArray++Z++Y):=⟨_,rfl⟩;have d:Z.size=(c+1-i)*4:=by rw[O.o];simp[Builtin.zeroCells,Value.cells]
 have K:c+1<=G:=by rw[y.o];exact grownCap_ge w _ _ _
 have R:G<=maxLen:=by rw[y.o];exact grownCap_le_maxLen w _ _ _ Tl
 have h:Y.size=(G-(c+1))*4:=by rw[N.o];simp[Builtin.zeroCells,Value.cells]
 have A:a.size=G*4:=by rw[z.o];simp[d,h,f];omega
 have T:∀d,(Builtin.append_ #[181,3] d #[Ta g i c,aa ((c:Int)+1-(i:Int))]).run prog w=
   .ok (Ta w.heap.size (c+1) G) (w.drew.alloc (.cells a 249)):=λd=>by
  have h:=Lib.run_append_grow_zeros w 181 3 d 249 b _ .i64 .i64 s underlying3 P k (some (ai g 0)) i c (cs.take (i*4)) hold (c+1-i) Te Te Te Te (by rw[V];omega) (by rw[V,show i+(c+1-i)=c+1 by omega];exact growslice_fits p Te);rw[show i+(c+1-i)=c+1 by omega,<-y.o,<-N.o,<-O.o,<-z.o]at h;rw[show(c:Int)+1-(i:Int)=((c+1-i:Nat):Int)by omega];exact h
 obtain⟨b,B⟩:∃r:aq,Hid (r=(a.toList.take (i*4)++xs++a.toList.drop (i*4+xs.length)).toArray):=⟨_,rfl⟩;have X:b.size=a.size:=by rw[B.o];simp[m,A];omega
 have S:∀(W:aw) d l,W.heap[w.heap.size]?=some (.cells a 249 (0,0))->W.heap[vb]?=w.heap[vb]?->(Builtin.copy_ #[181,181] d #[.slice (some (ai w.heap.size (i*4))) (c+1-i) l,Ta vb 1 1]).run prog W= .ok (goInt (Nat.min 1 (c+1-i))) (W.setRow w.heap.size b):=λW d l o I=>by
  rw[B.o];exact lf W _ _ d 249 4 w.heap.size (i*4) (c+1-i) l (ai vb 0) 1 1 a 249 xs s Q o (by rw[m];simp only[Nat.min_def];split<;>omega) (λj u s=>aY (I.J x) j u (by simpa using s)) Te H
 obtain⟨t,C⟩:∃r:aq,Hid (r=(b.toList.take ((i+1)*4)++cs.drop (i*4)++b.toList.drop ((i+1)*4+(cs.drop (i*4)).length)).toArray):=⟨_,rfl⟩
 have k:∀(W:aw) d l J,W.heap[w.heap.size]?=some (.cells b 249 (0,0))->W.heap[g]?=w.heap[g]?->(Builtin.copy_ #[181,181] d #[.slice (some (ai w.heap.size ((i+1)*4))) (c-i) l,.slice (some (ai g (i*4))) (c-i) J]).run prog W= .ok (goInt (Nat.min (c-i) (c-i))) (W.setRow w.heap.size t):=λW d l J o I=>by
  rw[C.o]
  exact lf W _ _ d 249 4 w.heap.size ((i+1)*4) (c-i) l (ai g (i*4)) (c-i) J b 249 (cs.drop (i*4)) s Q o (by rw[E];simp only[Nat.min_def];split<;>omega) (λj v e=>by
   rw[Addr.add_lit];rw[List.getElem?_drop]at e
   exact D W I _ v e) (by rw[E,X,A];omega) (λv x=>F v (List.mem_of_mem_drop x))
 have L:(w.alloc (.cells a 249)).drew.heap[w.heap.size]?=some (.cells a 249 (0,0)):=heap_alloc_new w.drew _;have j:(w.alloc (.cells a 249)).drew.heap[vb]?=w.heap[vb]?:=Below.l w.drew _ vb Ub;have e:(w.alloc (.cells a 249)).drew.heap[g]?=w.heap[g]?:=Below.l w.drew _ g M;have h:((w.alloc (.cells a 249)).drew.setRow w.heap.size b).heap[w.heap.size]?=some (.cells b 249 (0,0)):=setRow_heap _ _ _ _ _ _ L;have o:((w.alloc (.cells a 249)).drew.setRow w.heap.size b).heap[g]?=w.heap[g]?:=(setRow_other _ _ _ _ Te).J e;have e:¬((i:Int)=(c:Int)):=Te;have e:(c:Int)<(c:Int)+1:=Te;have e:IntKind.i64.wrap ((i:Int)+1)=(i:Int)+1:=by rw[IntKind.wrap_i64];omega
 have e:IntKind.i64.wrap ((c:Int)+1)=(c:Int)+1:=by rw[IntKind.wrap_i64];omega
 have e:IntKind.i64.wrap ((c:Int)+1-(i:Int))=(c:Int)+1-(i:Int):=by rw[IntKind.wrap_i64];omega
 have mixed:prog.follows Departure.mixedOrders=true:=Tj;have e:(0:Int)<=(i:Int)+1:=Te;have e:i<=c:=Te;have e:((i:Int)+1).toNat=i+1:=Te;have e:¬(G=i):=Te;have e:¬(G=i+1):=Te;have e:¬(c=i):=Te;have e:(i:Int)<=(c:Int):=Te;have e:c+1-(i+1)=c-i:=Te;go_in
 have e:Hid (∀d,(Builtin.append_ #[181,3] d #[Ta g i c,aa ((c:Int)+1-(i:Int))]).run prog w= .ok (Ta w.heap.size (c+1) G) ((w.alloc (.cells a 249)).drew)):=T;clear T D hold;have p:=λd l=>S (w.alloc (.cells a 249)).drew d l L j
 clear S;go_wp2_with (at_builtin;(first|(refine Lib.wpList_append_run _ rfl _ _ _ _ rfl _ _ rfl rfl _ _ (e.o _) ?_)|(refine wpList_copy_runI _ rfl _ _ 181 181 rfl _ _ rfl rfl (p _ _) ?_)))
 have M:(((w.alloc (.cells a 249)).drew.setRow w.heap.size b).drew).heap[w.heap.size]?=some (.cells b 249 (0,0)):=h;have d:(((w.alloc (.cells a 249)).drew.setRow w.heap.size b).drew).heap[g]?=w.heap[g]?:=o;go_region_law_o (refine step_copy_runI rfl _ _ 181 181 rfl (.slice (some (ai w.heap.size ((i+1)*4))) (c-i) (G-(i+1))) (.slice (some (ai g (i*4))) (c-i) (c-i)) (by simp[Act.eval,Act.put]) (by simp[Act.eval,Act.put]) (k _ _ _ _ M d) ?_)
 go_wp2;go_ret
 have e:w.grownBy ((((w.alloc (.cells a 249)).drew.setRow w.heap.size b).drew).setRow w.heap.size t) (some g):=by
  have d:w.grownBy ((w.alloc (.cells a 249)).drew) (some g):=⟨rfl,rfl,rfl,Tf,λk h _=>Below.l w _ k h⟩;have h:w.grownBy (((w.alloc (.cells a 249)).drew.setRow w.heap.size b).drew) (some g):=js (cs:=b) d (.inr (aD _))|>λq=>⟨q.os,q.tape,q.output,q.size,q.block⟩
  exact js h (.inr (aD _))
 have b:=setRow_heap _ w.heap.size _ t _ _ M;refine⟨w.heap.size,G,rfl,⟨?_,.inr ⟨w.heap.size,G,t,rfl,aM _,b,K,R,?_,?_⟩⟩,e,.inr (aD _)⟩;.simp[m,f];omega
 .rw[C.o];simp[E,X,A];omega
 .have b:a.toList=cs.take (i*4)++Z.toList++Y.toList:=by rw[z.o];simp
  rw[C.o,B.o,b];exact JC cs xs Z.toList Y.toList c i f m hi
def JD (l:List gw)(i:Nat)(x:gw):(l.flatMap d8).take (i*4)++d8 x++(l.flatMap d8).drop (i*4)=(l.take i++x::l.drop i).flatMap d8:=by
 have h:∀(l:List gw) (i:Nat),(l.flatMap d8).take (i*4)=(l.take i).flatMap d8/\(l.flatMap d8).drop (i*4)=(l.drop i).flatMap d8:=by
  intro l
  induction l with
  |nil=>intro i;simp
  |cons y l ih=>
   intro i
   cases i with
   |zero=>simp
   |succ i=>
    have⟨a,b⟩:=ih i;constructor;.rw[aW,List.take_succ_cons,aW,<-a,show(i+1)*4=(d8 y).length+i*4 by rw[gp];omega,List.take_append,ck Te];congr 2;omega
    .rw[aW,List.drop_succ_cons,<-b,show(i+1)*4=(d8 y).length+i*4 by rw[gp];omega,List.drop_append,cU Te];simp
 have⟨a,b⟩:=h l i;rw[a,b];simp
def JE (w:aw)(v:Value)(l:List gw)(i:Nat)(x:gw)(vb:Nat)(a:w.ownsRow 0 249 4 v l.length (l.flatMap d8))(h1:∀u∈l.flatMap d8,u.oneCell'=true)(z:i<=l.length)(c:l.length<=1073741824)(d:dP w vb (d8 x).toArray 249)(h:∀u∈d8 x,u.oneCell'=true)(f:v.ownBlock≠some vb):
  S9 346 #[v,aa i,Ta vb 1 1] w (AQ w v (l.length+1) ((l.take i++x::l.drop i).flatMap d8)):=by
 rw[<-JD];by_cases he:i=l.length;.subst he;have:=AR w v (l.flatMap d8) (d8 x) l.length vb a c d rfl h;have o:(l.flatMap d8).take (l.length*4)=l.flatMap d8:=ck (by rw[a.1];exact aD _);have p:(l.flatMap d8).drop (l.length*4)= []:=cU (by rw[a.1];exact aD _);rw[o,p,bH];exact this
 .rcases a.2 with⟨rfl,t⟩|⟨g,b,j,rfl,y,k,r,q,s,m⟩;.omega
  .have n:vb≠g:=λe=>f (by rw[e];rfl)
   by_cases hr:l.length+1<=b;.exact yT w _ (d8 x) g l.length b i vb j k s m a.1 h1 Te c hr q d rfl h n
   .exact yU w _ (d8 x) g l.length b i vb j k m a.1 h1 Te c Te r d rfl h
section
open Tq
section
variable {w:aw} {c db i:Nat} {x:gw} {l:List gw}
theorem lu {T:TypeId}{k n g o:Nat}{xs:ay}(h:w.ownsRow 0 T k (Ta g n c) n xs)(v:Value)(d:o<n*k):
  (w.setCell (ai g o) v).ownsRow 0 T k (Ta g n c) n (xs.set o v):=by
 rcases h.2 with⟨a,_⟩|⟨r,e,b,a,f,i,j,l,m,p⟩;.cases a
 .cases a;have q:dP w g b T:=i;refine⟨by simpa using h.1,.inr ⟨g,c,b.setIfInBounds o v,rfl,f,q.set o v,j,l,by simpa using m,?_⟩⟩;rw[<-p,Array.toList_setIfInBounds,List.take_set]
def pY (x:gw):Prop:=(∃a n c,x.2.1= .slice a n c)/\(∃a n c,x.2.2.1= .slice a n c)/\∃o,x.2.2.2= .map o
theorem pY.one (h:pY x):x.2.1.oneCell'=true/\x.2.2.1.oneCell'=true/\x.2.2.2.oneCell'=true:=by
 obtain⟨⟨a,n,c,b⟩,⟨f,i,g,d⟩,o,e⟩:=h;rw[b,d,e];exact⟨rfl,rfl,rfl⟩
theorem pY.new (n:Int):pY (n,ah,ah,.map none):=⟨⟨_,_,_,rfl⟩,⟨_,_,_,rfl⟩,_,rfl⟩
structure CO (w:aw)(db:Nat)(sv uv:Value)(l:List gw):Prop where
 blk:dP w db #[sv,uv] 183
 row:w.ownsRow 0 249 4 sv l.length (l.flatMap d8)
 form:∀x∈l,pY x
 srt:l.Pairwise (λa b=>a.1<b.1)
 ne:sv.ownBlock≠some db
 len:l.length<=1073741824
theorem CO.O {w':aw}{sv uv:Value}(h:CO w db sv uv l)(h1:w'.heap[db]?=w.heap[db]?)(a:∀b,sv.ownBlock=some b->w'.heap[b]?=w.heap[b]?):CO w' db sv uv l:=
 ⟨h1.J h.blk,dR h.row a,h.form,h.srt,h.ne,h.len⟩
theorem CO.G {w':aw}{sv uv:Value}(h:CO w db sv uv l)(a:aj w w'):CO w' db sv uv l:=
 h.O (a.block _ h.blk.lt) (λb e=>a.block b (h.row.lt b e).2)
theorem FX (w:aw)(db:Nat)(sv uv:Value)(l:List gw)(n:Int)(h:CO w db sv uv l):
  Calls prog 345 #[ag db,aa n] w λe w'=>vQ (l.map (·.1)) n e/\aj w w':=by
 have g:=JA w sv l n 0 h.row (λx k=>(h.form x k).one) (h.srt.imp (λh=>Int.le_of_lt h)) h.len;have⟨o,p⟩:=h.blk.I;obtain⟨a,m,c,rfl⟩:=dO h.row;go_in
 go_wp2_with fail;refine g.V ?_;rintro e w' ⟨⟨i,rfl,b,d,f⟩,j⟩;go_wp2;go_ret2;exact⟨⟨i,rfl,b,d,f⟩,j⟩
def vU (w:aw)(db:Nat)(sv uv:Value)(l:List gw)(n:Int)(e:Ending)(w':aw):Prop:=
 ∃g c pre x post,e= .returned (.pointer (some (ai g (pre.length*4))))/\CO w' db (.slice (some (ai g 0)) (pre++x::post).length c) uv (pre++x::post)/\x.1=n/\
  ((l=pre++x::post/\sv= .slice (some (ai g 0)) (pre++x::post).length c)\/(l=pre++post/\x=(n,ah,ah,.map none)))/\dY (db::sv.ownBlock.toList) w w'/\(sv.ownBlock=some g\/w.heap.size<=g)
theorem uD (h:x.2.1.oneCell'=true/\x.2.2.1.oneCell'=true/\x.2.2.2.oneCell'=true):∀u∈d8 x,u.oneCell'=true:=by
 intro u a;simp[d8]at a;rcases a with rfl|rfl|rfl|rfl;.rfl
 .exact h.1
 .exact h.2.1
 .exact h.2.2
theorem Et {n:Int}(t:x.1=n)(f:l.Pairwise (λa b=>a.1<b.1))(h1:∀k y,(l.map (·.1))[k]?=some y->k<i->y<n)(p:∀k y,(l.map (·.1))[k]?=some y->i<=k->n<=y)(u:(l.map (·.1))[i]?≠some n):
  (l.take i++x::l.drop i).Pairwise (λa b=>a.1<b.1):=by
 have r:∀y∈l.drop i,n<y.1:=by
  intro y d;have⟨j,c⟩:=bY.1 d;rw[List.getElem?_drop]at c;have q:=p (i+j) y.1 (by rw[aT,c];rfl) Te;by_cases e:y.1=n
  .exfalso;apply u
   cases j with
   |zero=>rw[aT,show i=i+0 by omega,c];simp[e]
   |succ j=>
    have h:i+(j+1)<l.length:=by
     by_cases q:i+(j+1)<l.length;.exact q
     .rw[bi Te]at c;cases c
    have w:=p i (l[i]'Te).1 (by rw[aT,aP Te];rfl) (aD _);rw[cj]at f;have v:=f i (i+(j+1)) Te h Te;rw[aP h]at c;rw[Option.some.inj c]at v;omega
  .omega
 have s:∀y∈l.take i,y.1<n:=by
  intro y d;have⟨j,c⟩:=bY.1 d
  have m:j<i:=by
   by_cases q:j<i;.exact q
   .rw[bi (by rw[bG];omega)]at c;cases c
  rw[cG m]at c;exact h1 j y.1 (by rw[aT,c];rfl) m
 rw[cB];refine⟨f.sublist (List.take_sublist _ _),bU.2 ⟨λy d=>by rw[t];exact r y d,f.sublist (List.drop_sublist _ _)⟩,?_⟩;intro a o b g;rcases aR.1 g with rfl|g;.rw[t];exact s a o
 .have:=s a o;have:=r b g;omega
theorem tU (w:aw)(db:Nat)(sv uv:Value)(l:List gw)(n:Int)(h:CO w db sv uv l)(Z:l.length<1073741824):
  Calls prog 266 #[ag db,aa n] w (vU w db sv uv l n):=by
 have S:=FX w db sv uv l n h;obtain⟨a,c,rfl⟩:=ig h.row;go_in
 go_wp2_with fail;refine S.V ?_;rintro e w1 ⟨⟨i,rfl,A,Q,R⟩,m⟩;rw[bm]at A;have f:=h.G m;by_cases hin:(l.map (·.1))[i]?=some n
 .have r:decide ((l.map (·.1))[i]?=some n)=true:=decide_eq_true hin;rw[r];rw[aT]at hin;have⟨x,d,N⟩:=bg.1 hin;have I:=gl d;obtain⟨g,rfl,_,F,_⟩:=dV h.row Te;have⟨W,X⟩:=f.blk.I;have J:i<=l.length:=Te;have v:Hid (l=l.take i++x::l.drop (i+1)):=(by show l=_;have:=bt.1 d;obtain⟨Y,rfl⟩:=this;simp);have y:Hid ((l.take i).length=i):=by show(l.take i).length=i;rw[bG];omega
  have K:decide ((i:Int)<(l.length:Int))=true:=by simpa using I
  clear d hin r;go_wp2;go_ret;refine⟨g,c,l.take i,x,l.drop (i+1),by rw[y.o];rfl,?_,N,.inl ⟨v.o,by rw[<-v.o]⟩,dY.oB m,.inl rfl⟩;rw[<-v.o];exact f
 .have r:decide ((l.map (·.1))[i]?=some n)=false:=decide_eq_false hin;rw[r];have⟨W,X⟩:=f.blk.I;have V:w.heap.size<=w1.heap.size:=m.size;have H:dP (w1.S6 #[aa n,ah,ah,.map none] 249) w1.heap.size (d8 (n,ah,ah,.map none)).toArray 249:=dP.new w1 _ _;have D:=f.G ((Tb w1).alloc (aD _) (ak #[aa n,ah,ah,.map none] 249));have L:(Value.slice a l.length c).ownBlock≠some w1.heap.size:=λe=>by have:=(f.row.lt _ e).2;omega
  have T:=JE _ (.slice a l.length c) l i (n,ah,ah,.map none) w1.heap.size D.row (λu C=>by
   have⟨x,d,C⟩:=List.mem_flatMap.1 C
   exact uD (h.form x d).one u C) A Te H (uD ⟨rfl,rfl,rfl⟩) L
  have M:Hid (((l.map (·.1))[i]?=some n)->False):=hin;clear hin r;go_wp2_with fail;refine T.V ?_;rintro e w2 ⟨g,p,rfl,O,j,E⟩;have o:dY (db::(Value.slice a l.length c).ownBlock.toList) w w2:=(by have P:dY (db::(Value.slice a l.length c).ownBlock.toList) w (w1.S6 #[aa n,ah,ah,.map none] 249):=(dY.oB m).alloc _;refine P.J ⟨j.os,j.tape,j.output,j.size,λk B s=>j.block k B (λe=>s ?_)⟩;rw[<-e];simp);have U:db<w1.heap.size:=f.blk.lt;have t:dP w2 db #[.slice a l.length c,uv] 183:=(j.block db Tg (λe=>h.ne e.sy)).J D.blk
  have G:db≠g:=by
   rcases E with q|q;.exact λe=>h.ne (by rw[e];exact q)
   .simp at q;omega
  have F:(Value.slice a l.length c).ownBlock=some g\/w.heap.size<=g:=E.imp id (λq=>by simp at q;omega);have⟨a,b⟩:=t.I;have⟨a,b⟩:=(t.set 0 (Ta g (l.length+1) p)).I;have y:Hid ((l.take i).length=i):=by show(l.take i).length=i;rw[bG];omega
  have z:Hid ((l.take i++(n,Value.slice none 0 0,Value.slice none 0 0,Value.map none)::l.drop i).length=l.length+1):=by show List.length _=_;simp;omega
  have K:decide ((i:Int)<(l.length:Int)+1)=true:=Tg;have J:i<=l.length:=A;go_wp2;go_ret;refine⟨g,p,l.take i,(n,ah,ah,.map none),l.drop i,by rw[y.o];rfl,?_,rfl,.inr ⟨(b8 i l).sy,rfl⟩,?_,F⟩
  .rw[z.o];refine⟨t.set 0 _,?_,?_,Et rfl h.srt Q R M.o,λe=>G (by simpa [Value.ownBlock]using e.sy),by rw[z.o];omega⟩
   .rw[z.o];refine dR O λb m=> ?_
    obtain rfl:g=b:=by simpa [Value.ownBlock]using m
    rw[dM,dG (λe=>G e)]
   .intro x d;simp only[aQ,aR]at d;rcases d with d|rfl|d;.exact h.form x (List.mem_of_mem_take d)
    .exact pY.new n
    .exact h.form x (List.mem_of_mem_drop d)
  .exact⟨o.os,o.tape,o.output,by simpa using o.size,λk B s=>by
    rw[dM,dG (λe=>s (by simp[e]))]
    exact o.block k B s⟩
theorem rS {a:aC}(b:w.ownsRow 0 249 4 (.slice a l.length c) l.length (l.flatMap d8))(h:l[i]?=some x):
  ∃g,a=some (ai g 0)/\g<w.heap.size/\∀w':aw,w'.heap[g]?=w.heap[g]?->w'.cell? (ai g (i*4))=some (aa x.1)/\w'.cell? (ai g (i*4+1))=some x.2.1/\w'.cell? (ai g (i*4+2))=some x.2.2.1/\w'.cell? (ai g (i*4+3))=some x.2.2.2:=by
 have n:=gl h;obtain⟨g,rfl,_,k,d⟩:=dV b Te;have e:=λj m=>fW d8 4 gp l i x h j m
 refine⟨g,rfl,k,λw' f=>⟨?_,?_,?_,?_⟩⟩;.exact d w' f _ _ ((e 0 Te).J rfl)
 .exact d w' f _ _ ((e 1 Te).J rfl)
 .exact d w' f _ _ ((e 2 Te).J rfl)
 .exact d w' f _ _ ((e 3 Te).J rfl)
end
end
def ni (mb:Nat)(fv nl:Value)(b:Nat):Prop:=b=mb\/fv.ownBlock=some b\/nl.ownBlock=some b
structure gC (w:aw)(rb:Nat)(M:lB)(mb:Nat)(mn:au)(fv nl:Value)(nums:List fB)(names:aA):Prop where
 mblk:dP w mb #[ae mn,fv] 111
 fr:w.ownsRow 0 178 5 fv nums.length (nums.flatMap fI)
 nr:w.ownsRow 0 9 1 nl names.length (eh names)
 sep:∀b,ni mb fv nl b->¬M.D rb b
section
variable {w w':aw} {rb:Nat} {M M':lB} {ws:List W} {p:PS} {mb:Nat} {mn:au} {fv nl:Value} {nums:List fB} {names:aA}
def gC.lt (h:gC w rb M mb mn fv nl nums names){b:Nat}(a:ni mb fv nl b):b<w.heap.size:=by
 rcases a with rfl|a|a;.exact h.mblk.lt
 .exact(h.fr.lt b a).2
 .exact(h.nr.lt b a).2
def gC.O (h:gC w rb M mb mn fv nl nums names)(hk:∀b,b<w.heap.size->ni mb fv nl b->w'.heap[b]?=w.heap[b]?)(hs:∀b,ni mb fv nl b->¬M'.D rb b):gC w' rb M' mb mn fv nl nums names:=by
 exact⟨(hk _ h.mblk.lt (.inl rfl)).J h.mblk,dR h.fr λb a=>hk b (h.fr.lt b a).2 (.inr (.inl a)),dR h.nr λb a=>hk b (h.nr.lt b a).2 (.inr (.inr a)),hs⟩
def gC.step (h:gC w rb M mb mn fv nl nums names)(st:et w (M.D rb) w' (M'.D rb)):gC w' rb M' mb mn fv nl nums names:=
 h.O (λb c a=>st.block b c (h.sep b a)) (λb a=>st.not (h.lt a) (h.sep b a))
def gC.G (h:gC w rb M mb mn fv nl nums names)(hb:aj w w'):gC w' rb M mb mn fv nl nums names:=
 h.O (λb a _=>hb.block b a) h.sep
def gC.alloc (h:gC w rb M mb mn fv nl nums names)(o:Obj):gC (w.alloc o) rb M mb mn fv nl nums names:=h.G ((Below.refl _ _).alloc (aD _) o)
def gC.drew (h:gC w rb M mb mn fv nl nums names):gC w.drew rb M mb mn fv nl nums names:=h.G (Below.refl _ _).drew
def gC.drewN (h:gC w rb M mb mn fv nl nums names)(n:Nat):gC (w.drewN n) rb M mb mn fv nl nums names:=h.G (gN (Below.refl _ _) n)
def gC.ty (h:gC w rb M mb mn fv nl nums names){b:Nat}(a:ni mb fv nl b):∃cs T,dP w b cs T/\(T=111\/T=178\/T=9):=by
 rcases a with rfl|a|a;.exact⟨_,_,h.mblk,.inl rfl⟩
 .have⟨c,K⟩:=eo h.fr a;exact⟨_,_,K,.inr (.inl rfl)⟩
 .have⟨c,K⟩:=eo h.nr a;exact⟨_,_,K,.inr (.inr rfl)⟩
def fx.loc (h:fx w rb M ws p)(l:gC w rb M mb mn fv nl nums names)(hk:∀b,b<w.heap.size->¬ni mb fv nl b->w'.heap[b]?=w.heap[b]?):fx w' rb M ws p:=by
 refine h.O λb f c=>hk b f λd=> ?_
 rcases c with c|c;.exact l.sep b d c
 .have⟨cs,T,K,a⟩:=l.ty d;have⟨g,e⟩:=eo h.hw c;have:=K.ty e;subst this;rcases a with a|a|a<;>exact absurd a Th
def et.both (st:et w (M.D rb) w' (M'.D rb))(mb:Nat)(fv nl:Value):et w (λb=>M.D rb b\/ni mb fv nl b) w' (λb=>M'.D rb b\/ni mb fv nl b):=st.more _
def gC.fr2 (h:gC w rb M mb mn fv nl nums names):∃cs,w.ownsRow 0 178 5 fv nums.length cs/\Hid (cs=nums.flatMap fI):=⟨_,h.fr,rfl⟩
def Gw {m:fB}:∀{l:List fB} {k:Nat},l[k]?=some m->(l.flatMap fI)[k*5+4]?=some (aa m.num)
 |x::l,0,h=>by
  simp only[cO,Option.some.injEq]at h;subst h
  rfl
 |x::l,k+1,h=>by
  simp only[cg]at h;have q:=Gw (k:=k) h;rw[aW,cM (by rw[oY];omega),oY,show(k+1)*5+4-5=k*5+4 from by omega];exact q
def gC.field (l:gC w rb M mb mn fv nl nums names)(h:fx w rb M ws p){v:Value}(x:fB)(hg:w.grownBy w' fv.ownBlock){cs:ay}(i:Hid (cs=nums.flatMap fI))
  (s:w'.ownsRow 0 178 5 v (nums.length+1) (cs++fI x)) (r:∀b,v.ownBlock=some b->fv.ownBlock=some b\/w.heap.size<=b):
  fx (w'.setCell (ai mb 1) v) rb M ws p/\gC (w'.setCell (ai mb 1) v) rb M mb mn v nl (nums++ [x]) names/\et w (λb=>M.D rb b\/ni mb fv nl b) (w'.setCell (ai mb 1) v) (λb=>M.D rb b\/ni mb v nl b):=by
 have i:=i.o;subst i;have k:=l.fr
 have j:∀b,b<w.heap.size->¬ni mb fv nl b->(w'.setCell (ai mb 1) v).heap[b]?=w.heap[b]?:=λb a g=>by
  rw[Below.heap_setCell _ _ _ _ (λe=>g (.inl e))];exact hg.block b a (λe=>g (.inr (.inl e.sy)))
 have m:dP w' mb #[ae mn,fv] 111:=l.mblk.grown hg (λe=>by
  have⟨n,c⟩:=eo k e.sy
  exact absurd (l.mblk.ty c) Th)
 refine⟨h.loc l j,⟨m.set 1 v,?_,dR l.nr λb a=> ?_,λb d=> ?_⟩,⟨hg.os,hg.tape,hg.output,by simpa [World.setCell]using hg.size,λb a g=>j b a (λe=>g (.inr e)),λb a=> ?_⟩⟩
 .have q:(w'.setCell (ai mb 1) v).ownsRow 0 178 5 v (nums.length+1) (nums.flatMap fI++fI x):=by
   refine dR s λb a=>Below.heap_setCell _ _ _ _ (λe=> ?_)
   subst e;have⟨n,c⟩:=eo s a;exact absurd (m.ty c) Th
  simpa using q
 .have⟨n,c⟩:=eo l.nr a;rw[Below.heap_setCell _ _ _ _ (λe=> ?_)];.refine hg.block b c.lt (λe=> ?_);have⟨y,o⟩:=eo k e.sy;exact absurd (c.ty o) Th
  .have t:b=mb:=e;subst t;exact absurd (c.ty l.mblk) Th
 .rcases d with d|d|d;.exact l.sep b (.inl d)
  .rcases r b d with f|f;.exact l.sep b (.inr (.inl f))
   .intro u;have:=h.lt u;omega
  .exact l.sep b (.inr (.inr d))
 .rcases a with a|a|a|a;.exact .inl (.inl a)
  .exact .inl (.inr (.inl a))
  .rcases r b a with f|f;.exact .inl (.inr (.inr (.inl f)))
   .exact .inr f
  .exact .inl (.inr (.inr (.inr a)))
def gC.name (l:gC w rb M mb mn fv nl nums names)(h:fx w rb M ws p){v:Value}{x:au}(hg:w.grownBy w' nl.ownBlock)
  (q:w'.ownsRow 0 9 1 v (names.length+1) (eh names++ [ae x])) (j:∀b,v.ownBlock=some b->nl.ownBlock=some b\/w.heap.size<=b):
  fx w' rb M ws p/\gC w' rb M mb mn fv v nums (names++ [x])/\et w (λb=>M.D rb b\/ni mb fv nl b) w' (λb=>M.D rb b\/ni mb fv v b):=by
 have i:∀b,b<w.heap.size->¬ni mb fv nl b->w'.heap[b]?=w.heap[b]?:=λb a g=>hg.block b a (λe=>g (.inr (.inr e.sy)))
 refine⟨h.loc l i,⟨l.mblk.grown hg (λe=> ?_),?_,?_,λb c=> ?_⟩,⟨hg.os,hg.tape,hg.output,hg.size,λb a g=>i b a (λe=>g (.inr e)),λb a=> ?_⟩⟩;.have⟨m,f⟩:=eo l.nr e.sy;exact absurd (l.mblk.ty f) Th
 .refine dR l.fr λb a=> ?_
  have⟨m,f⟩:=eo l.fr a;refine hg.block b f.lt (λe=> ?_);have⟨o,k⟩:=eo l.nr e.sy;exact absurd (f.ty k) Th
 .simpa [eh]using q
 .rcases c with c|c|c;.exact l.sep b (.inl c)
  .exact l.sep b (.inr (.inl c))
  .rcases j b c with d|d;.exact l.sep b (.inr (.inr d))
   .intro n;have:=h.lt n;omega
 .rcases a with a|a|a|a;.exact .inl (.inl a)
  .exact .inl (.inr (.inl a))
  .exact .inl (.inr (.inr (.inl a)))
  .rcases j b a with d|d;.exact .inl (.inr (.inr (.inr d)))
   .exact .inr d
end
structure FD where
 p:PS
 nums:List fB
 names:aA
def tu (l:ar)(n:Int):Bool:=l.any λx=>x==n
def Lv (nums:ar)(n:Int):Bool:=(decide (n<1)||decide (536870911<n))||tu nums n
def f1 (ws:List W)(s:FD):PS:=xq (gM ws 1 ⟨#[]⟩ s.p) (fG ws 1 ⟨#[]⟩ s.p)
def f2 (ws:List W)(s:FD):PS:=if eC s.names (gM ws 1 ⟨#[]⟩ s.p).1||decide (12<=s.nums.length)then sY (gM ws 1 ⟨#[]⟩ s.p) (f1 ws s)else f1 ws s
def f3 (ws:List W)(s:FD):PS:=fG ws 0 ⟨#[61]⟩ (f2 ws s)
def f5 (ws:List W)(s:FD):PS:=fG ws 0 ⟨#[59]⟩ (fG ws 2 ⟨#[]⟩ (f3 ws s))
abbrev T3:=au×au×au
def px (ws:List W)(t:T3)(s:FD):FD:=
 {p:=if Lv (s.nums.map fB.num) (iR (gM ws 2 ⟨#[]⟩ (f3 ws s)).1)then sY (gM ws 2 ⟨#[]⟩ (f3 ws s)) (f5 ws s)else f5 ws s
  nums:=s.nums++ [⟨(gM ws 1 ⟨#[]⟩ s.p).1,t.1,t.2.1,t.2.2,iR (gM ws 2 ⟨#[]⟩ (f3 ws s)).1⟩]
  names:=s.names++ [(gM ws 1 ⟨#[]⟩ s.p).1]}
section
variable {w:World} {rb b mb:Nat} {M:lB} {ws:List W} {p:PS} {mn:ByteArray} {nums:List fB} {names:List ByteArray}
theorem Tryz.info178:(prog.info? 178).map (λi=>(i.zero,i.size,i.bytes))=some (some (.agg #[.string ⟨#[]⟩,.string ⟨#[]⟩,.string ⟨#[]⟩,.string ⟨#[]⟩,.int .i64 0]),5,72):=Tj
theorem fx.other (h:fx w rb M ws p){cs:Array Value}{T:TypeId}(K:dP w b cs T)(g:T≠102)(i:¬M.D rb b)(off:Nat)(v:Value):fx (w.setCell ⟨b,off,none⟩ v) rb M ws p:=
 h.O λc _ a=>Below.heap_setCell _ _ _ _ (λe=>by
  have f:c=b:=e;subst f;rcases a with a|a;.exact i a
  .have⟨j,d⟩:=eo h.hw a
   exact g (K.ty d))
theorem gC.other {fv nl:Value}(l:gC w rb M mb mn fv nl nums names)(f:¬ni mb fv nl b)(off:Nat)(v:Value):gC (w.setCell ⟨b,off,none⟩ v) rb M mb mn fv nl nums names:=
 l.O (λc _ d=>Below.heap_setCell _ _ _ _ (λe=>f (by have a:c=b:=e;subst a;exact d))) l.sep
theorem et.fresh {w':World}{S T:Nat->Prop}(h:et w S w' T)(g:w.heap.size<=b)(off:Nat)(v:Value):et w S (w'.setCell ⟨b,off,none⟩ v) T:=
 ⟨h.os,h.tape,h.output,by simpa [World.setCell]using h.size,λc a d=>(Below.heap_setCell _ _ _ _ (λe=>by have f:c=b:=e;omega)).J (h.block c a d),h.grow⟩
theorem cell_one_new (w:World)(a:Value)(t:TypeId):∀j u,[a][j]?=some u->(w.alloc (.cells #[a] t)).cell? ((⟨w.heap.size,0,none⟩:Addr).add j)=some u:=by
 intro j u b
 match j,b with
 |0,b=>simp at b;subst b;simp[Addr.add]
 |j+1,b=>simp at b
theorem yf (H:jY ws)(h:p.i<ws.length)(so:Int)(s:ByteArray):(gM ws so s p).1.size<=2000:=by
 unfold gM sW;split;.exact H.size _ _ (fZ h)
 .exact aM _
theorem SO {fv nl:Value}(h:fx w rb M ws p)(l:gC w rb M mb mn fv nl nums names)(H:jY ws)(hi:p.i<ws.length)(hu:nums.length<=2001)(hnn:names.length<=2001)
  (s0 s1 s2 s3:ByteArray) (n0:Int):
  Calls prog 79 #[.pointer (some ⟨rb,0,none⟩),.pointer (some ⟨mb,0,none⟩),.agg #[.string s0,.string s1,.string s2,.string s3,.int .i64 n0],nl] w λe w'=>
   ∃Tw nl',e= .returned nl'/\fx w' rb M ws (px ws (s1,s2,s3) ⟨p,nums,names⟩).p/\gC w' rb M mb mn Tw nl' (px ws (s1,s2,s3) ⟨p,nums,names⟩).nums (px ws (s1,s2,s3) ⟨p,nums,names⟩).names/\
    et w (λb=>M.D rb b\/ni mb fv nl b) w' (λb=>M.D rb b\/ni mb Tw nl' b):=by
 have⟨i0,T7,T8,T9,Ua⟩:=info_parts Tryz.info178;have⟨i9,Ub,TH,TI,TJ⟩:=info_parts Tryz.info9;have⟨TC,D,T⟩:=l.fr2;obtain⟨L,O,rfl⟩:=ig D;obtain⟨P,R,Q,rfl⟩:=dO l.nr;obtain⟨x,hx⟩:=Td (gM ws 1 ⟨#[]⟩ p);have Y:Hid (gM ws 1 ⟨#[]⟩ p=x):=hx;clear hx;have f:=dP.new w #[.string s0,.string s1,.string s2,.string s3,.int .i64 n0] 178;have d:=(et.refl w (M.D rb)).alloc (Obj.cells #[.string s0,.string s1,.string s2,.string s3,.int .i64 n0] 178);have nE:¬ni mb (.slice L nums.length O) (.slice P R Q) w.heap.size:=λn=>by have:=l.lt n;omega
 have F:¬M.D rb w.heap.size:=λn=>by have:=h.lt n;omega
 replace h:=h.alloc (Obj.cells #[.string s0,.string s1,.string s2,.string s3,.int .i64 n0] 178);replace l:=l.alloc (Obj.cells #[.string s0,.string s1,.string s2,.string s3,.int .i64 n0] 178);go_in
 go_wp2_with fail;refine(vo h H hi 1 Te ⟨#[]⟩).V ?_;rintro e w1 ⟨rfl,h1,G⟩;rw[Y.o];unfold sX;replace l:=l.step G;have TV:¬ni mb (.slice L nums.length O) (.slice P R Q) w1.heap.size:=λn=>by have:=l.lt n;omega
 replace f:=f.step G F;replace d:=(d.J G).alloc (Obj.cells #[.string x.1,.int .i64 x.2] 102);have z1:w.heap.size<w1.heap.size:=f.lt;have a:=dP.new w1 #[.string x.1,.int .i64 x.2] 102;have J:¬M.D rb w1.heap.size:=λn=>by have:=h1.lt n;omega
 replace h1:=h1.alloc (Obj.cells #[.string x.1,.int .i64 x.2] 102);replace l:=l.alloc (Obj.cells #[.string x.1,.int .i64 x.2] 102);replace f:=f.alloc (Obj.cells #[.string x.1,.int .i64 x.2] 102);have TW:=rT H hi 1 ⟨#[]⟩;clear G h;go_wp2_with fail;refine(Qy h1 x).V ?_;rintro e w2 ⟨rfl,E,s⟩;replace l:=l.step s;replace f:=f.step s F;replace a:=a.step s J;replace d:=d.J s;clear s h1;obtain⟨B,hB⟩:=Td ((eC names x.1||decide (12<=nums.length)));have X:Hid ((eC names x.1||decide (12<=nums.length))=B):=hB;clear hB;go_upto_region 3 with fail
 go_cut [30]from 18 to 30 (λv wr=>v= .bool B/\wr=w2)
 case first=>
  have⟨m1,m2⟩:=a.I;have⟨q1,q2⟩:=l.mblk.I;go_wp2_with fail;refine(MD _ _ _ names x.1 Te l.nr).V ?_;rintro e _ ⟨⟨r,rfl,hr⟩,rfl⟩;have TN:=hr.ge;cases I:eC names x.1
  .rw[I]at TN;cases h12:decide (12<=nums.length)
   .have TX:decide ((12:Int)<=(nums.length:Int))=false:=by have:=of_decide_eq_false h12;simp;omega
    obtain rfl:B=false:=by rw[<-X.o,I,h12];rfl
    go_wp2;go_meet
    case rel=>exact⟨rfl,rfl⟩
   .have TX:(12:Int)<=(nums.length:Int):=by have:=dI h12;omega
    obtain rfl:B=true:=by rw[<-X.o,I,h12];rfl
    go_wp2;go_meet
    case rel=>exact⟨rfl,rfl⟩
  .rw[I]at TN;obtain rfl:B=true:=by rw[<-X.o,I];rfl
   go_wp2;go_meet
   case rel=>exact⟨rfl,rfl⟩
 case rest=>
  obtain⟨rfl,rfl⟩:=hcut;have TA:Hid (f2 ws ⟨p,nums,names⟩=if B then sY x (xq x (fG ws 1 ⟨#[]⟩ p))else xq x (fG ws 1 ⟨#[]⟩ p)):=(by show f2 ws ⟨p,nums,names⟩=_;unfold f2 f1;simp only[Y.o,X.o]);go_upto_if 30 with fail
  go_cut []from 31 to 33 (λwr=>fx wr rb M ws (f2 ws ⟨p,nums,names⟩)/\gC wr rb M mb mn (.slice L nums.length O) (.slice P R Q) nums names/\et w (M.D rb) wr (M.D rb)/\dP wr w.heap.size #[.string s0,.string s1,.string s2,.string s3,.int .i64 n0] 178/\dP wr w1.heap.size #[.string x.1,.int .i64 x.2] 102)
  case first=>
   cases B
   .go_wp2;go_meet
    case rel=>exact⟨by rw[TA.o];exact E,l,d,f,a⟩
   .have⟨m1,m2⟩:=a.I;go_wp2_with fail;refine(MY E x).V ?_;rintro e w3 ⟨rfl,h3,z⟩;go_wp2;go_meet
    case rel=>exact⟨by rw[TA.o];exact h3,l.step z,d.J z,f.step z F,a.step z J⟩
  case rest=>
   have TO:(f2 ws ⟨p,nums,names⟩).i<ws.length:=by rw[TA.o];cases B<;>exact TW
   clear E l d f a TA X;obtain⟨E,l,d,f,a⟩:=hcut;go_wp2_with fail;refine(vo E H TO 0 Te ⟨#[61]⟩).V ?_;rintro e w3 ⟨rfl,h3,z⟩;replace l:=l.step z;replace f:=f.step z F;replace a:=a.step z J;replace d:=d.J z;have TE:=rT H TO 0 ⟨#[61]⟩;clear E z;unfold sX;go_wp2_with fail;obtain⟨y,hy⟩:=Td (gM ws 2 ⟨#[]⟩ (f3 ws ⟨p,nums,names⟩));have HY:Hid (gM ws 2 ⟨#[]⟩ (f3 ws ⟨p,nums,names⟩)=y):=hy;clear hy;refine(vo h3 H TE 2 Te ⟨#[]⟩).V ?_;rintro e S ⟨rfl,Z,U⟩;have TP:gM ws 2 ⟨#[]⟩ (fG ws 0 ⟨#[61]⟩ (f2 ws ⟨p,nums,names⟩))=y:=HY.o;rw[TP];clear TP;unfold sX;have TY:=rT H TE 2 ⟨#[]⟩;have TZ:¬M.D rb S.heap.size:=λn=>by have:=Z.lt n;omega
   have C:=dP.new S #[.string y.1,.int .i64 y.2] 102;replace l:=(l.step U).alloc (Obj.cells #[.string y.1,.int .i64 y.2] 102);replace f:=(f.step U F).alloc (Obj.cells #[.string y.1,.int .i64 y.2] 102);have z4:w1.heap.size<S.heap.size:=(a.step U J).lt;have y1:¬w.heap.size=w1.heap.size:=Te;have y2:¬w1.heap.size=w.heap.size:=Te;have y3:¬w.heap.size=S.heap.size:=Te;have y4:¬S.heap.size=w.heap.size:=Te;have y5:¬w1.heap.size=S.heap.size:=Te;have y6:¬S.heap.size=w1.heap.size:=Te;replace a:=(a.step U J).alloc (Obj.cells #[.string y.1,.int .i64 y.2] 102);replace d:=(d.J U).alloc (Obj.cells #[.string y.1,.int .i64 y.2] 102);replace Z:=Z.alloc (Obj.cells #[.string y.1,.int .i64 y.2] 102);clear U h3;go_wp2_with fail;refine(vo Z H TY 0 Te ⟨#[59]⟩).V ?_;rintro e w5 ⟨rfl,q,V⟩;replace l:=l.step V;replace f:=f.step V F;replace a:=a.step V J;replace C:=C.step V TZ;replace d:=d.J V;clear V Z;unfold sX;have⟨m1,m2⟩:=a.I;have⟨n1,n2⟩:=f.I;have⟨o1,o2⟩:=C.I;have T0:y.1.size<=2000:=by rw[<-HY.o];exact yf H TE _ _
   go_wp2_with fail;obtain⟨N,hN⟩:=Td (iR y.1);have HN:Hid (iR y.1=N):=hN;clear hN;refine(Sc _ y.1 T0).V ?_;rintro e _ ⟨rfl,rfl⟩;rw[HN.o];replace q:=(q.other f Th F 0 (.string x.1)).other (f.set 0 (.string x.1)) Th F 4 (.int .i64 N);replace l:=(l.other nE 0 (.string x.1)).other nE 4 (.int .i64 N);replace d:=(d.fresh (aD _) 0 (.string x.1)).fresh (aD _) 4 (.int .i64 N);replace a:=(a.other (c:=w.heap.size) 0 (.string x.1) y1).other (c:=w.heap.size) 4 (.int .i64 N) y1;replace C:=(C.other (c:=w.heap.size) 0 (.string x.1) y3).other (c:=w.heap.size) 4 (.int .i64 N) y3;have A:dP ((w5.setCell ⟨w.heap.size,0,none⟩ (.string x.1)).setCell ⟨w.heap.size,4,none⟩ (.int .i64 N)) w.heap.size #[.string x.1,.string s1,.string s2,.string s3,.int .i64 N] 178:=(f.set 0 (.string x.1)).set 4 (.int .i64 N);clear m1 m2 f;go_upto_region 10 with fail
   clear n1 n2 o1 o2;generalize(w5.setCell ⟨w.heap.size,0,none⟩ (.string x.1)).setCell ⟨w.heap.size,4,none⟩ (.int .i64 N)=w6 at*;obtain⟨j,TT⟩:=Td ((decide (N<1)||decide (536870911<N)));have TB:Hid ((decide (N<1)||decide (536870911<N))=j):=TT;clear TT;have⟨n1,n2⟩:=A.I;go_cut [11]from 47 to 54 (λv wr=>v= .bool j/\wr=w6)
   case first=>
    cases h1:decide (N<1)
    .cases E:decide (536870911<N)
     .obtain rfl:j=false:=by rw[<-TB.o,h1,E];rfl
      go_wp2;go_meet
      case rel=>exact⟨rfl,rfl⟩
     .obtain rfl:j=true:=by rw[<-TB.o,h1,E];rfl
      go_wp2;go_meet
      case rel=>exact⟨rfl,rfl⟩
    .obtain rfl:j=true:=by rw[<-TB.o,h1];rfl
     go_wp2;go_meet
     case rel=>exact⟨rfl,rfl⟩
   case rest=>
    obtain⟨rfl,hwc⟩:=hcut;subst wc;have⟨q1,q2⟩:=l.mblk.I;have⟨TC,D,T⟩:=l.fr2;obtain⟨K,TU⟩:=Td ((j||tu (nums.map fB.num) N));have TQ:Hid ((j||tu (nums.map fB.num) N)=K):=TU;clear TU;go_upto_block 0 with fail
    go_cut [11,12]from 55 to 77 (λv _ wr=>v= .bool K/\∃o,wr=w6.drewN o)
    case first=>
     go_wp2;go_loopw [11,12] (λv i wr=>∃(k o:Nat),k<=nums.length/\i= .int .i64 k/\v= .bool (j||tu ((nums.take k).map fB.num) N)/\wr=w6.drewN o) (λ_ i _=>nums.length-(intOf i).toNat)
     case atStart=>exact⟨0,0,aM _,rfl,by simp[tu],rfl⟩
     case round=>
      obtain⟨k,o,hk,rfl,rfl,rfl⟩:=hrel;by_cases TM:k<nums.length
      .have⟨m,I⟩:=gx TM;have HT:Hid (tu ((nums.take (k+1)).map fB.num) N=(tu ((nums.take k).map fB.num) N||m.num==N)):=(by show tu ((nums.take (k+1)).map fB.num) N=_;unfold tu;rw[bu,I];simp);obtain⟨g,rfl,_,hgl,Tv⟩:=dV D Te;have qc:=Tv w6 rfl (k*5+4) _ (by rw[T.o];exact Gw I);clear Tv;obtain⟨bk,TK⟩:∃b,(j||tu ((nums.take k).map fB.num) N)=b:=⟨_,rfl⟩;have TR:Hid ((j||tu ((nums.take k).map fB.num) N)=bk):=TK;rw[TK];clear TK;have T4:(k:Int)<(nums.length:Int):=Te;cases bk
       .go_wp2;go_quiet (fail);go_wp2;go_roundw
        case rel=>
         refine⟨k+1,_,Te,by go_num,?_,rfl⟩;rw[HT.o,<-Bool.or_assoc,TR.o,cC]
        case measure=>simp[intOf];omega
       .go_wp2;go_quiet (fail);go_wp2;go_roundw
        case rel=>
         refine⟨k+1,_,Te,by go_num,?_,rfl⟩;rw[HT.o,<-Bool.or_assoc,TR.o,cF]
        case measure=>simp[intOf];omega
      .have HE:Hid ((j||tu ((nums.take k).map fB.num) N)=K):=(by rw[ck Te];exact TQ);rw[HE.o];have T4:¬(k:Int)<(nums.length:Int):=Te;go_wp2;go_meet
       case rel=>exact⟨rfl,_,rfl⟩
    case rest=>
     obtain⟨rfl,o,hq⟩:=hcut;subst wc;have TF:Hid ((px ws (s1,s2,s3) ⟨p,nums,names⟩).p=if K then sY y (f5 ws ⟨p,nums,names⟩)else f5 ws ⟨p,nums,names⟩):=(by show(px ws (s1,s2,s3) ⟨p,nums,names⟩).p=_;unfold px Lv;simp only[HY.o,HN.o,TB.o,TQ.o]);replace q:fx (w6.drewN o) rb M ws (f5 ws ⟨p,nums,names⟩):=q.drewN o;replace l:=l.drewN o;replace d:=d.drewN o;replace a:dP (w6.drewN o) _ _ _:=a;replace C:dP (w6.drewN o) _ _ _:=C;replace A:dP (w6.drewN o) _ _ _:=A;clear q1 q2 n1 n2 D T;generalize w6.drewN o=w7 at*;go_upto_if 78 with fail
     go_cut []from 79 to 81 (λwr=>fx wr rb M ws (px ws (s1,s2,s3) ⟨p,nums,names⟩).p/\gC wr rb M mb mn (.slice L nums.length O) (.slice P R Q) nums names/\et w (M.D rb) wr (M.D rb)/\dP wr w.heap.size #[.string x.1,.string s1,.string s2,.string s3,.int .i64 N] 178/\dP wr w1.heap.size #[.string x.1,.int .i64 x.2] 102)
     case first=>
      cases K
      .go_wp2;go_meet
       case rel=>exact⟨by rw[TF.o];exact q,l,d,A,a⟩
      .have⟨m1,m2⟩:=C.I;go_wp2_with fail;refine(MY q y).V ?_;rintro e w8 ⟨rfl,h8,TD⟩;go_wp2;go_meet
       case rel=>exact⟨by rw[TF.o];exact h8,l.step TD,d.J TD,A.step TD F,a.step TD J⟩
     case rest=>
      clear q l d A a C TF;obtain⟨q,l,d,A,a⟩:=hcut;have⟨TC,D,T⟩:=l.fr2;have T5:(gM ws 1 ⟨#[]⟩ p)=x:=Y.o
      have TS:Hid ((px ws (s1,s2,s3) ⟨p,nums,names⟩).nums=nums++ [⟨x.1,s1,s2,s3,N⟩]/\(px ws (s1,s2,s3) ⟨p,nums,names⟩).names=names++ [x.1]):=by
       constructor;.show nums++ [⟨(gM ws 1 ⟨#[]⟩ p).1,s1,s2,s3,iR (gM ws 2 ⟨#[]⟩ (f3 ws ⟨p,nums,names⟩)).1⟩]=_;rw[HY.o,HN.o,Y.o]
       .show names++ [(gM ws 1 ⟨#[]⟩ p).1]=_;rw[Y.o]
      clear T5
      have HO:Hid (some mb≠(Value.slice L nums.length O).ownBlock):=λe=>by
       have⟨c2,K2⟩:=eo D e.sy;exact absurd (l.mblk.ty K2) Th
      have T6:TC.length=nums.length*5:=D.1;have⟨n1,n2⟩:=A.I;have⟨q1,q2⟩:=l.mblk.I;have⟨o1,o2⟩:=(l.mblk.alloc (Obj.cells #[.string x.1,.string s1,.string s2,.string s3,.int .i64 N] 178)).I;go_upto_region 17 with fail
      go_cut []from 82 to 91 (λwr=>∃Tw,fx wr rb M ws (px ws (s1,s2,s3) ⟨p,nums,names⟩).p/\gC wr rb M mb mn Tw (.slice P R Q) (nums++ [⟨x.1,s1,s2,s3,N⟩]) names/\et w (λb=>M.D rb b\/ni mb (.slice L nums.length O) (.slice P R Q) b) wr (λb=>M.D rb b\/ni mb Tw (.slice P R Q) b)/\dP wr w1.heap.size #[.string x.1,.int .i64 x.2] 102)
      case first=>
       go_region_law (first|(refine step_append_lies _ Tk _ _ _ Tk 0 178 i0 _ 5 72 underlying109 T7 T8 T9 Ua rfl Te (.slice L nums.length O) nums.length TC Tk (D.alloc _) ⟨wc.heap.size,0,none⟩ 1 1 [_,_,_,_,_] Tk Tk (aY (t:=178) (fr:=(0,0)) (heap_alloc_new wc _)) Tm Te Tl Te Te (wc.heap.size+1) Tf ?_;intro gg cap w9 Ts Tr TL TM;have⟨x1,x2⟩:=((l.mblk.alloc _).drew.grown Tr HO.o).I))
       all_goals
        go_wp2;go_meet
        case rel=>
         have h6:=(q.alloc (Obj.cells #[.string x.1,.string s1,.string s2,.string s3,.int .i64 N] 178)).drew;have l6:=(l.alloc (Obj.cells #[.string x.1,.string s1,.string s2,.string s3,.int .i64 N] 178)).drew
         have⟨hR,hL,hS⟩:=l6.field h6 ⟨x.1,s1,s2,s3,N⟩ Tr T Ts (λb n=>by
          have TG:gg=b:=by simpa [Value.ownBlock]using n
          subst TG;rcases TL with h1|h1;.exact .inl h1
          .right;simp;omega)
         exact⟨_,hR,hL,((d.alloc _).drew.both mb _ _).J hS,(a.alloc _).drew.step hS (λhx=>hx.elim J TV)⟩
      case rest=>
       clear q l d A a D T n1 n2 q1 q2 o1 o2 HO T6;obtain⟨Tw,q,l,d,a⟩:=hcut;have⟨m1,m2⟩:=a.I;go_wp2_with (first|(at_builtin;refine wpList_append_lies _ rfl _ _ 30 rfl 0 9 i9 _ 1 16 underlying30 Ub TH TI TJ rfl Th _ _ _ rfl (l.nr.alloc _) _ 1 1 [_] rfl rfl (cell_one_new _ _ _) ?h1 Te ?h63 ?hby Te _ rfl ?_;rotate_right;intro gg cap w9 Ts Tr TL TM))
       case h1=>intro u hu;simp at hu;subst hu;rfl
       case h63=>unfold maxLen;omega
       case hby=>omega
       go_ret
       have⟨hR,hL,hS⟩:=(l.alloc (Obj.cells #[.string x.1] 9)).name (q.alloc (Obj.cells #[.string x.1] 9)) Tr Ts (λb n=>by
        have TG:gg=b:=by simpa [Value.ownBlock]using n
        subst TG;rcases TL with h1|h1;.exact .inl h1
        .right;omega)
       refine⟨Tw,_,rfl,hR,?_,(d.alloc _).J hS⟩;rw[TS.o.1,TS.o.2];exact hL
end
section
variable {ws:List W} {p:PS} {so:Int} {s:FD} {t:T3} {how:au} {n:Nat} {first:Bool}
structure iC (ws:List W)(p:PS):Prop where
 lt:p.i<ws.length
 used:p.used.length<=p.i
theorem ik (ws:List W)(so:Int)(s:au)(p:PS):p.i<=(fG ws so s p).i:=by
 show p.i<=mA so s (gh ws p) p.i;unfold mA;split<;>omega
theorem fQ (H:jY ws)(h:iC ws p)(so:Int)(s:au):iC ws (fG ws so s p):=
 ⟨rT H h.lt so s,aL h.used (ik ws so s p)⟩
theorem ji {s:au}(h:(fG ws so s p).bad<0):p.bad<0/\(fG ws so s p).i=p.i+1/\(fG ws so s p).bad=p.bad/\gT so s (gh ws p).1=true:=by
 have a:mB so s (gh ws p) p.bad<0:=h;show p.bad<0/\mA so s (gh ws p) p.i=p.i+1/\mB so s (gh ws p) p.bad=p.bad/\_;unfold mB at a;unfold mA mB;cases hs:gT so s (gh ws p).1;.rw[hs]at a;simp only[aN,if_false]at a;split at a<;>omega
 .rw[hs]at a;simp only[if_true]at a;simp only[if_true,and_self,and_true];exact a
theorem fT {s:au}(h:0<=p.bad):(fG ws so s p).bad=p.bad:=by
 show mB so s (gh ws p) p.bad=p.bad;unfold mB;split;.rfl
 .rw[dG Te]
theorem tx (ws:List W)(p:PS):(nh ws p).i=(fG ws 3 ⟨#[]⟩ p).i/\(nh ws p).bad=(fG ws 3 ⟨#[]⟩ p).bad:=by
 unfold nh;split<;>exact⟨rfl,rfl⟩
theorem lK (H:jY ws)(h:iC ws p):iC ws (nh ws p):=by
 have b:=fQ H h 3 ⟨#[]⟩;refine⟨by rw[(tx ws p).1];exact b.lt,?_⟩;rw[(tx ws p).1];unfold nh;split
 .next hk=>
  show(p.used++ [Ea ws p]).length<=mA 3 ⟨#[]⟩ (gh ws p) p.i
  have a:gT 3 ⟨#[]⟩ (gh ws p).1=true:=by
   cases a:gT 3 ⟨#[]⟩ (gh ws p).1;.exfalso;unfold Ea gM sW at hk;rw[a]at hk;exact absurd (show(dN ⟨#[]⟩==1)=true from hk) Th
   .rfl
  unfold mA;rw[a];have:=h.used;simp;omega
 .exact b.used
theorem Gx (h:0<=p.bad):(nh ws p).bad=p.bad:=by rw[(tx ws p).2,fT h]
theorem yg (ws:List W)(p:PS):p.i<=(nh ws p).i:=by rw[(tx ws p).1];exact ik _ _ _ _
theorem nF (ws:List W)(s:FD):(f2 ws s).i=(fG ws 1 ⟨#[]⟩ s.p).i/\(f2 ws s).bad=(fG ws 1 ⟨#[]⟩ s.p).bad/\(f2 ws s).used=s.p.used:=by
 unfold f2 f1;split<;>exact⟨rfl,rfl,rfl⟩
theorem oB (ws:List W)(t:T3)(s:FD):(px ws t s).p.i=(f5 ws s).i/\(px ws t s).p.bad=(f5 ws s).bad/\(px ws t s).p.used=s.p.used:=by
 have h:(f5 ws s).used=s.p.used:=(nF ws s).2.2;unfold px;simp only;split;.exact⟨rfl,rfl,h⟩
 .exact⟨rfl,rfl,h⟩
theorem Q8 (H:jY ws)(h:iC ws s.p):iC ws (f2 ws s):=by
 have b:=fQ H h 1 ⟨#[]⟩;have⟨a,_,c⟩:=nF ws s;exact⟨by rw[a];exact b.lt,by rw[a,c];exact b.used⟩
theorem yh (H:jY ws)(h:iC ws s.p):iC ws (px ws t s).p:=by
 have b:iC ws (f5 ws s):=fQ H (fQ H (fQ H (Q8 H h) 0 ⟨#[61]⟩) 2 ⟨#[]⟩) 0 ⟨#[59]⟩;have⟨a,_,c⟩:=oB ws t s;have d:(f5 ws s).used=s.p.used:=(nF ws s).2.2;exact⟨by rw[a];exact b.lt,by rw[a,c,<-d];exact b.used⟩
theorem Lw (ws:List W)(t:T3)(s:FD):s.p.i<=(px ws t s).p.i:=by
 rw[(oB ws t s).1];refine aL ?_ (aL (ik ws 2 ⟨#[]⟩ (f3 ws s)) (ik ws 0 ⟨#[59]⟩ _));refine aL ?_ (ik ws 0 ⟨#[61]⟩ (f2 ws s));rw[(nF ws s).1];exact ik _ _ _ _
theorem Bq (h:0<=s.p.bad):(px ws t s).p.bad=s.p.bad:=by
 rw[(oB ws t s).2.1];have a:(f2 ws s).bad=s.p.bad:=by rw[(nF ws s).2.1,fT h]
 have b:(f3 ws s).bad=s.p.bad:=(fT (by rw[a];exact h)).J a;have c:(fG ws 2 ⟨#[]⟩ (f3 ws s)).bad=s.p.bad:=(fT (by rw[b];exact h)).J b;exact(fT (by rw[c];exact h)).J c
theorem wg (h:(px ws t s).p.bad<0):s.p.bad<0/\s.p.i<(px ws t s).p.i:=by
 by_cases hb:s.p.bad<0;.refine⟨hb,?_⟩;rw[(oB ws t s).2.1]at h;rw[(oB ws t s).1];have⟨d,b,_⟩:=ji (p:=fG ws 2 ⟨#[]⟩ (f3 ws s)) h;have⟨e,f,_⟩:=ji d;have⟨a,c,_⟩:=ji (p:=f2 ws s) e;rw[(nF ws s).2.1]at a;have⟨l,g,_⟩:=ji a;have i:(f5 ws s).i=(fG ws 2 ⟨#[]⟩ (f3 ws s)).i+1:=b;have j:(f3 ws s).i=(f2 ws s).i+1:=c;have k:=(nF ws s).1;omega
 .rw[Bq Te]at h;exact⟨h,absurd h hb⟩
def oC (ws:List W)(how:au)(s:FD):FD:=px ws ((Ea ws s.p).1,eS,how) {s with p:=nh ws s.p}
structure vB (ws:List W)(s:FD):Prop where
 ok:iC ws s.p
 nums:s.p.bad<0->s.nums.length<=s.p.i
 names:s.p.bad<0->s.names.length<=s.p.i
theorem Br (ws:List W)(t:T3)(s:FD):(px ws t s).nums.length=s.nums.length+1/\(px ws t s).names.length=s.names.length+1:=by
 unfold px;simp
theorem qP (H:jY ws)(h:vB ws s):vB ws (oC ws how s):=by
 have e:iC ws (nh ws s.p):=lK H h.ok;refine⟨yh H (s:={s with p:=nh ws s.p}) e,λd=> ?_,λd=> ?_⟩;.have⟨b,c⟩:=wg (s:={s with p:=nh ws s.p}) d;have a:(nh ws s.p).bad<0:=b;rw[(tx ws s.p).2]at a;have f:=h.nums (ji a).1;have g:(oC ws how s).nums.length=s.nums.length+1:=(Br ws _ {s with p:=nh ws s.p}).1;have i:(nh ws s.p).i<(oC ws how s).p.i:=c;have:=yg ws s.p;omega
 .have⟨b,c⟩:=wg (s:={s with p:=nh ws s.p}) d;have a:(nh ws s.p).bad<0:=b;rw[(tx ws s.p).2]at a;have f:=h.names (ji a).1;have g:(oC ws how s).names.length=s.names.length+1:=(Br ws _ {s with p:=nh ws s.p}).2;have i:(nh ws s.p).i<(oC ws how s).p.i:=c;have:=yg ws s.p;omega
def fo (ws:List W)(p:PS):Nat:=if p.bad<0 then ws.length-p.i else 0
theorem qj (H:jY ws)(h:iC ws s.p)(b:s.p.bad<0):fo ws (oC ws how s).p<fo ws s.p:=by
 have f:=h.lt;unfold fo;rw[dH b];split
 .next h1=>
  have⟨c,a⟩:=wg (s:={s with p:=nh ws s.p}) h1;have d:(nh ws s.p).i<(oC ws how s).p.i:=a;have:=yg ws s.p;have:=(yh H (t:=((Ea ws s.p).1,eS,how)) (s:={s with p:=nh ws s.p}) (lK H h)).lt;have e:(oC ws how s).p.i<ws.length:=this;omega
 .omega
def mQ (rb n:Nat)(w:aw):Nat:=
 match w.cell? (ai rb 2),w.cell? (ai rb 1)with
 |some (.int _ b),some (.int _ i)=>if b<0 then n-i.toNat else 0
 |_,_=>0
theorem fx.meas {w:aw}{rb:Nat}{M:lB}(h:fx w rb M ws p):mQ rb ws.length w=fo ws p:=by
 unfold mQ fo;rw[h.rd.cell 2,h.rd.cell 1];simp
def o9 (ws:List W)(how:au):Nat->Bool->FD->FD
 |0,_,s=>s
 |n+1,first,s=>if s.p.bad<0&& !(tV ws ⟨#[125]⟩ s.p&& !first)then o9 ws how n false (oC ws how s)else s
theorem oD (h:(decide (s.p.bad<0)&& !(tV ws ⟨#[125]⟩ s.p&& !first))=false):o9 ws how n first s=s:=by
 cases n with
 |zero=>rfl
 |succ n=>rw[o9,dG (by rw[h];decide)]
theorem Bt (h:(decide (s.p.bad<0)&& !(tV ws ⟨#[125]⟩ s.p&& !first))=true)(a:0<n):o9 ws how n first s=o9 ws how (n-1) false (oC ws how s):=by
 cases n with
 |zero=>omega
 |succ n=>rw[o9,dH h];rfl
theorem Bu (H:jY ws):∀(n:Nat) (first:Bool) (s:FD),vB ws s->vB ws (o9 ws how n first s)
 |0,_,_,h=>h
 |n+1,first,s,h=>by
  rw[o9];split;.exact Bu H n false _ (qP H h)
  .exact h
def rG (ws:List W)(s:FD):PS:=if eC s.names (gM ws 1 ⟨#[]⟩ s.p).1 then sY (gM ws 1 ⟨#[]⟩ s.p) (f1 ws s)else f1 ws s
def nG (ws:List W)(s:FD):FD:={p:=fG ws 0 ⟨#[123]⟩ (rG ws s),nums:=s.nums,names:=s.names++ [(gM ws 1 ⟨#[]⟩ s.p).1]}
def pG (ws:List W)(s:FD):au:=⟨#[46]⟩++(gM ws 1 ⟨#[]⟩ s.p).1
def Cc (ws:List W)(s:FD):FD:={o9 ws (pG ws s) ws.length true (nG ws s)with p:=fG ws 0 ⟨#[125]⟩ (o9 ws (pG ws s) ws.length true (nG ws s)).p}
def sq (ws:List W)(p:PS):PS:=if fL (dN (gM ws 3 ⟨#[]⟩ p).1) (gM ws 3 ⟨#[]⟩ p).1 then fG ws 3 ⟨#[]⟩ p else sY (gh ws p) (fG ws 3 ⟨#[]⟩ p)
def uT (ws:List W)(p:PS):PS:=fG ws 0 ⟨#[62]⟩ (nh ws (fG ws 0 ⟨#[44]⟩ (sq ws (fG ws 0 ⟨#[60]⟩ p))))
def NC (ws:List W)(p:PS):T3:=((Ea ws (fG ws 0 ⟨#[44]⟩ (sq ws (fG ws 0 ⟨#[60]⟩ p)))).1,(gM ws 3 ⟨#[]⟩ (fG ws 0 ⟨#[60]⟩ p)).1,AC)
def Cd (ws:List W)(s:FD):FD:=px ws (NC ws s.p) {s with p:=uT ws s.p}
theorem qk (ws:List W)(s:FD):(rG ws s).i=(fG ws 1 ⟨#[]⟩ s.p).i/\(rG ws s).bad=(fG ws 1 ⟨#[]⟩ s.p).bad/\(rG ws s).used=s.p.used:=by
 unfold rG f1;split<;>exact⟨rfl,rfl,rfl⟩
theorem Bz (H:jY ws)(h:iC ws s.p):iC ws (rG ws s):=by
 have b:=fQ H h 1 ⟨#[]⟩;have⟨a,_,c⟩:=qk ws s;exact⟨by rw[a];exact b.lt,by rw[a,c];exact b.used⟩
theorem Gy (H:jY ws)(h:vB ws s):vB ws (nG ws s):=by
 have f:=Bz H h.ok
 have d:(nG ws s).p.bad<0->s.p.bad<0/\s.p.i+1<=(nG ws s).p.i:=λb=>by
  have⟨a,e,_⟩:=ji (p:=rG ws s) b;rw[(qk ws s).2.1]at a;have⟨c,g,_⟩:=ji a;have i:=(qk ws s).1;have j:(nG ws s).p.i=(rG ws s).i+1:=e;exact⟨c,Te⟩
 refine⟨fQ H f 0 ⟨#[123]⟩,λb=> ?_,λb=> ?_⟩;.have⟨a,c⟩:=d b;have:=h.nums a;show s.nums.length<=_;omega
 .have⟨a,c⟩:=d b;have:=h.names a;show(s.names++ [_]).length<=_;rw[bf,cE];omega
theorem PG (H:jY ws)(h:vB ws s)(so:Int)(t:au):vB ws {s with p:=fG ws so t s.p}:=by
 refine⟨fQ H h.ok so t,λc=> ?_,λc=> ?_⟩;.have⟨b,a,_⟩:=ji (p:=s.p) c;have:=h.nums b;have d:(fG ws so t s.p).i=s.p.i+1:=a;show s.nums.length<=(fG ws so t s.p).i;omega
 .have⟨b,a,_⟩:=ji (p:=s.p) c;have:=h.names b;have d:(fG ws so t s.p).i=s.p.i+1:=a;show s.names.length<=(fG ws so t s.p).i;omega
theorem ND (H:jY ws)(h:vB ws s):vB ws (Cc ws s):=PG H (Bu H ws.length true _ (Gy H h)) 0 ⟨#[125]⟩
theorem oF (ws:List W)(p:PS):(sq ws p).i=(fG ws 3 ⟨#[]⟩ p).i/\(sq ws p).bad=(fG ws 3 ⟨#[]⟩ p).bad/\(sq ws p).used=p.used:=by
 unfold sq;split<;>exact⟨rfl,rfl,rfl⟩
theorem E5 (H:jY ws)(h:iC ws p):iC ws (sq ws p):=by
 have b:=fQ H h 3 ⟨#[]⟩;have⟨a,_,c⟩:=oF ws p;exact⟨by rw[a];exact b.lt,by rw[a,c];exact b.used⟩
theorem E6 (H:jY ws)(h:iC ws p):iC ws (uT ws p):=
 fQ H (lK H (fQ H (E5 H (fQ H h _ _)) _ _)) _ _
theorem Lx (ws:List W)(p:PS):p.i<=(uT ws p).i:=by
 refine aL ?_ (ik ws 0 ⟨#[62]⟩ _);refine aL ?_ (yg ws _);refine aL ?_ (ik ws 0 ⟨#[44]⟩ _);rw[(oF ws _).1];exact aL (ik ws 0 ⟨#[60]⟩ p) (ik ws 3 ⟨#[]⟩ _)
theorem NE (h:0<=p.bad):(uT ws p).bad=p.bad:=by
 have a:(fG ws 0 ⟨#[60]⟩ p).bad=p.bad:=fT h;have b:(sq ws (fG ws 0 ⟨#[60]⟩ p)).bad=p.bad:=by rw[(oF ws _).2.1,fT (by rw[a];exact h),a]
 have c:(fG ws 0 ⟨#[44]⟩ (sq ws (fG ws 0 ⟨#[60]⟩ p))).bad=p.bad:=(fT (by rw[b];exact h)).J b;have d:(nh ws (fG ws 0 ⟨#[44]⟩ (sq ws (fG ws 0 ⟨#[60]⟩ p)))).bad=p.bad:=(Gx (by rw[c];exact h)).J c;exact(fT (by rw[d];exact h)).J d
theorem NF (H:jY ws)(h:vB ws s):vB ws (Cd ws s):=by
 have f:iC ws (uT ws s.p):=E6 H h.ok
 have e:(Cd ws s).p.bad<0->s.p.bad<0/\s.p.i+1<=(Cd ws s).p.i:=λb=>by
  have⟨a,c⟩:=wg (s:={s with p:=uT ws s.p}) b;have g:(uT ws s.p).i<(Cd ws s).p.i:=c;have d:(uT ws s.p).bad<0:=a;have:=Lx ws s.p;refine⟨?_,Te⟩;by_cases hc:s.p.bad<0;.exact hc
  .rw[NE Te]at d;exact d
 have⟨l1,l2⟩:=Br ws (NC ws s.p) {s with p:=uT ws s.p};refine⟨yh H (s:={s with p:=uT ws s.p}) f,λb=> ?_,λb=> ?_⟩;.have⟨a,c⟩:=e b;have:=h.nums a;have i:(Cd ws s).nums.length=s.nums.length+1:=l1;omega
 .have⟨a,c⟩:=e b;have:=h.names a;have i:(Cd ws s).names.length=s.names.length+1:=l2;omega
end
section
variable {w:World} {rb mb:Nat} {M:lB} {ws:List W} {mn:ByteArray} {fv nl:Value} {s:FD}
def iA (M:lB)(rb mb:Nat)(fv nl:Value)(b:Nat):Prop:=M.D rb b\/ni mb fv nl b
structure jO (w:World)(rb:Nat)(M:lB)(ws:List W)(mb:Nat)(mn:ByteArray)(fv nl:Value)(s:FD):Prop where
 r:fx w rb M ws s.p
 l:gC w rb M mb mn fv nl s.nums s.names
theorem jO.lt (h:jO w rb M ws mb mn fv nl s){b:Nat}(a:iA M rb mb fv nl b):b<w.heap.size:=a.elim h.r.lt h.l.lt
theorem jO.G {w':World}(h:jO w rb M ws mb mn fv nl s)(a:Below w.heap.size w w'):jO w' rb M ws mb mn fv nl s:=⟨h.r.G a,h.l.G a⟩
theorem jO.alloc (h:jO w rb M ws mb mn fv nl s)(o:Obj):jO (w.alloc o) rb M ws mb mn fv nl s:=⟨h.r.alloc o,h.l.alloc o⟩
theorem jO.drew (h:jO w rb M ws mb mn fv nl s):jO w.drew rb M ws mb mn fv nl s:=⟨h.r.drew,h.l.drew⟩
theorem jO.turn {w':World}{M':lB}(h:jO w rb M ws mb mn fv nl s){q:PS}(a:fx w' rb M' ws q)(b:et w (M.D rb) w' (M'.D rb)):jO w' rb M' ws mb mn fv nl {s with p:=q}:=⟨a,h.l.step b⟩
theorem et.bd {w':World}{M':lB}(a:et w (M.D rb) w' (M'.D rb))(mb:Nat)(fv nl:Value):et w (iA M rb mb fv nl) w' (iA M' rb mb fv nl):=a.more _
theorem Ir (h:jO w rb M ws mb mn fv nl s)(H:jY ws)(f:s.p.i<ws.length)(g:s.nums.length<=2001)(a:s.names.length<=2001)
  (s0 s1 s2 s3:ByteArray) (n0:Int):
  S9 79 #[.pointer (some ⟨rb,0,none⟩),.pointer (some ⟨mb,0,none⟩),.agg #[.string s0,.string s1,.string s2,.string s3,.int .i64 n0],nl] w λe w'=>
   ∃Tt Tw,e= .returned Tw/\jO w' rb M ws mb mn Tt Tw (px ws (s1,s2,s3) s)/\et w (iA M rb mb fv nl) w' (iA M rb mb Tt Tw):=by
 refine(SO h.r h.l H f g a s0 s1 s2 s3 n0).V ?_;rintro e w' ⟨Tt,Tw,rfl,b,c,d⟩;exact⟨Tt,Tw,rfl,⟨b,c⟩,d⟩
theorem SP (h:jO w rb M ws mb mn fv nl s)(H:jY ws)(m:vB ws s)(a:s.names.length<=2001):
  Calls prog 77 #[.pointer (some ⟨rb,0,none⟩),.pointer (some ⟨mb,0,none⟩),nl] w λe w'=>
   ∃M' Tt Tw,e= .returned Tw/\jO w' rb M' ws mb mn Tt Tw (Cc ws s)/\et w (iA M rb mb fv nl) w' (iA M' rb mb Tt Tw):=by
 have⟨D,j,n,u,A⟩:=info_parts Tryz.info9;obtain⟨o,t,q,rfl⟩:=dO h.l.nr;obtain⟨x,a⟩:=Td (gM ws 1 ⟨#[]⟩ s.p);have C:Hid (gM ws 1 ⟨#[]⟩ s.p=x):=a;clear a;go_in
 go_wp2_with fail;refine(vo h.r H m.ok.lt 1 Te ⟨#[]⟩).V ?_;rintro e w1 ⟨rfl,h1,y⟩;rw[C.o];unfold sX;have a:=h.turn h1 y;have g:=(y.bd mb fv (.slice o t q)).alloc (Obj.cells #[.string x.1,.int .i64 x.2] 102);have c:=dP.new w1 #[.string x.1,.int .i64 x.2] 102;have i:¬iA M rb mb fv (.slice o t q) w1.heap.size:=λm=>by have:=a.lt m;omega
 replace a:=a.alloc (Obj.cells #[.string x.1,.int .i64 x.2] 102);clear y h h1;go_wp2_with fail;refine(Qy a.r x).V ?_;rintro e w2 ⟨rfl,b,l⟩;replace a:=a.turn b l;replace c:=c.step (l.bd mb fv (.slice o t q)) i;replace g:=g.J (l.bd mb fv (.slice o t q));clear l b;have⟨G,I⟩:=c.I;go_wp2_with fail;refine(MD _ _ _ s.names x.1 Te a.l.nr).V ?_;rintro e _ ⟨⟨r,rfl,b⟩,rfl⟩;have f:=b.ge;clear b;obtain⟨B,b⟩:=Td (eC s.names x.1);rw[b]at f;have d:Hid (eC s.names x.1=B):=b;clear b;have P:Hid (rG ws s=if B then sY x (xq x (fG ws 1 ⟨#[]⟩ s.p))else xq x (fG ws 1 ⟨#[]⟩ s.p)):=(by show rG ws s=_;unfold rG f1;rw[C.o,d.o]);go_upto_if 19 with fail
 go_cut []from 20 to 22 (λwr=>jO wr rb M ws mb mn fv (.slice o t q) {s with p:=rG ws s}/\et w (iA M rb mb fv (.slice o t q)) wr (iA M rb mb fv (.slice o t q))/\dP wr w1.heap.size #[.string x.1,.int .i64 x.2] 102)
 case first=>
  cases B
  .go_wp2;go_meet
   case rel=>exact⟨by rw[P.o];exact a,g,c⟩
  .go_wp2_with fail;refine(MY a.r x).V ?_;rintro e w3 ⟨rfl,k,b⟩;go_wp2;go_meet
   case rel=>exact⟨by rw[P.o];exact a.turn k b,g.J (b.bd mb fv _),c.step (b.bd mb fv _) i⟩
 case rest=>
  clear a g c G I P d f;obtain⟨a,g,c⟩:=hcut;have⟨G,I⟩:=c.I;go_wp2_with (first|(at_builtin;refine wpList_append_lies _ rfl _ _ 30 rfl 0 9 D _ 1 16 underlying30 j n u A rfl Th _ _ _ rfl (a.l.nr.alloc _) _ 1 1 [_] rfl rfl (cell_one_new _ _ _) ?h1 Te ?h63 ?hby Te _ rfl ?_;rotate_right;intro E k y d f z v))
  case h1=>intro u b;simp at b;subst b;rfl
  case h63=>unfold maxLen;omega
  case hby=>omega
  have n:wc.heap.size+1=(wc.alloc (Obj.cells #[.string x.1] 9)).heap.size:=Tf
  have⟨l,j,N⟩:=(a.l.alloc (Obj.cells #[.string x.1] 9)).name (a.r.alloc (Obj.cells #[.string x.1] 9)) f d (λb m=>by
   have r:E=b:=by simpa [Value.ownBlock]using m
   subst r;rcases z with h1|h1;.exact .inl h1
   .right;omega)
  replace g:=(g.alloc (Obj.cells #[.string x.1] 9)).J (U:=iA M rb mb fv (.slice (some ⟨E,0,none⟩) (s.names.length+1) k)) N;have Q:=c.alloc (Obj.cells #[.string x.1] 9);have S:¬iA M rb mb fv (.slice (some ⟨E,0,none⟩) (s.names.length+1) k) w1.heap.size:=N.not Q.lt i;replace c:=Q.step N i;have T:jO y rb M ws mb mn fv (.slice (some ⟨E,0,none⟩) (s.names.length+1) k) {p:=rG ws s,nums:=s.nums,names:=s.names++ [x.1]}:=⟨l,j⟩;clear a l j N Q G I d f z n i;refine(vo T.r H (Bz H m.ok).lt 0 Te ⟨#[123]⟩).V ?_;rintro e f ⟨rfl,d,K⟩;have a:jO f rb M ws mb mn fv (.slice (some ⟨E,0,none⟩) (s.names.length+1) k) (nG ws s):=(by have:=T.turn d K;unfold nG;rw[C.o];exact this);replace g:=g.J (K.bd mb fv _);replace c:=c.step (K.bd mb fv _) S;have V:=Gy H m;have f:x.1.size<=2000:=by rw[<-C.o];exact yf H m.ok.lt _ _
  clear d K T v;unfold sX;have f:pG ws s=⟨#[46]⟩++x.1:=by unfold pG;rw[C.o]
  obtain⟨R,d⟩:=Td (o9 ws ((⟨#[46]⟩:ByteArray)++x.1) ws.length true (nG ws s));have j:Hid (o9 ws ((⟨#[46]⟩:ByteArray)++x.1) ws.length true (nG ws s)=R):=d;have r:Hid (Cc ws s={R with p:=fG ws 0 ⟨#[125]⟩ R.p}):=(by show Cc ws s=_;unfold Cc;rw[f,d]);clear d f;have d:vB ws R:=by rw[<-j.o];exact Bu H _ _ _ V
  go_wp2;go_loopw [2,8] (λd k wr=>∃(n:Nat) (b:Bool) (M':lB) (Tt:Value) (f:FD),k= .bool b/\vB ws f/\fo ws f.p<=n/\Hid (o9 ws ((⟨#[46]⟩:ByteArray)++x.1) n b f=R)/\jO wr rb M' ws mb mn Tt d f/\et w (iA M rb mb fv (.slice o t q)) wr (iA M' rb mb Tt d)/\dP wr w1.heap.size #[.string x.1,.int .i64 x.2] 102/\¬iA M' rb mb Tt d w1.heap.size) (λ_ _ wr=>mQ rb ws.length wr)
  case atStart=>exact⟨ws.length,true,M,fv,nG ws s,rfl,V,by unfold fo;split<;>omega,j,a,g,c,S⟩
  case round=>
   clear a g c S V;obtain⟨n,b,M',Tt,f,rfl,d,j,J,a,g,c,i⟩:=hrel;have t:=a.r.meas;have⟨l,m⟩:=a.r.rd.I;cases hbad:decide (f.p.bad<0)
   .obtain rfl:R=f:=by rw[<-J.o,oD];rw[hbad];rfl
    go_wp2_with fail;refine(vo a.r H d.ok.lt 0 Te ⟨#[125]⟩).V ?_;rintro e w6 ⟨rfl,k,j⟩;unfold sX;go_wp2;go_ret;exact⟨M',Tt,_,rfl,by rw[r.o];exact a.turn k j,g.J (j.bd mb Tt _)⟩
   .have A:f.p.bad<0:=dI hbad;go_wp2_with fail;refine(QR a.r d.ok.lt ⟨#[125]⟩).V ?_;rintro e w6 ⟨rfl,L⟩;replace a:=a.G L;replace g:=g.G L;replace c:=c.G L c.lt;clear L l m;cases z:tV ws ⟨#[125]⟩ f.p
    .have⟨G,I⟩:=c.I;have X:f.p.used.length<=2001:=by have:=d.ok.used;have:=d.ok.lt;have:=H.len;omega
     have Y:f.nums.length<=2001:=by have:=d.nums A;have:=d.ok.lt;have:=H.len;omega
     have Z:f.names.length<=2001:=by have:=d.names A;have:=d.ok.lt;have:=H.len;omega
     have k:=(lK H d.ok).lt;have q:=qj (how:=(⟨#[46]⟩:ByteArray)++x.1) H d.ok A;have l:Hid (o9 ws ((⟨#[46]⟩:ByteArray)++x.1) (n-1) false (oC ws ((⟨#[46]⟩:ByteArray)++x.1) f)=R):=(by have:=J.o;rw[Bt (by rw[hbad,z];rfl) Te]at this;exact this);go_wp2;go_region_with (first|(go_at_call 80;refine(QD a.r.drew H d.ok.lt X).V ?_;rintro e u ⟨rfl,O,F,j⟩;have m:=c.drew.step (j.bd mb Tt u2) i;have⟨B,C⟩:=m.I)|(go_at_call 79;refine(Ir (a.drew.turn F j) H k Y Z _ _ _ _ _).V ?_;rintro e E ⟨o,y,rfl,D,p⟩))
     all_goals
      go_wp2;go_roundw
      case rel=>
       have v:=(j.bd mb Tt u2).J p;exact⟨n-1,false,O,o,oC ws ((⟨#[46]⟩:ByteArray)++x.1) f,rfl,qP H d,Te,l,D,g.drew.J v,c.drew.step v i,v.not c.lt i⟩
      case measure=>rw[D.r.meas,t];exact q
    .cases b
     .obtain rfl:R=f:=by rw[<-J.o,oD];rw[z];simp
      go_wp2_with fail;refine(vo a.r H d.ok.lt 0 Te ⟨#[125]⟩).V ?_;rintro e u ⟨rfl,F,j⟩;unfold sX;go_wp2;go_ret;exact⟨M',Tt,_,rfl,by rw[r.o];exact a.turn F j,g.J (j.bd mb Tt _)⟩
     .have⟨G,I⟩:=c.I;have X:f.p.used.length<=2001:=by have:=d.ok.used;have:=d.ok.lt;have:=H.len;omega
      have Y:f.nums.length<=2001:=by have:=d.nums A;have:=d.ok.lt;have:=H.len;omega
      have Z:f.names.length<=2001:=by have:=d.names A;have:=d.ok.lt;have:=H.len;omega
      have k:=(lK H d.ok).lt;have q:=qj (how:=(⟨#[46]⟩:ByteArray)++x.1) H d.ok A;have l:Hid (o9 ws ((⟨#[46]⟩:ByteArray)++x.1) (n-1) false (oC ws ((⟨#[46]⟩:ByteArray)++x.1) f)=R):=(by have:=J.o;rw[Bt (by rw[hbad,z];rfl) Te]at this;exact this);go_wp2;go_region_with (first|(go_at_call 80;refine(QD a.r.drew H d.ok.lt X).V ?_;rintro e u ⟨rfl,O,F,j⟩;have m:=c.drew.step (j.bd mb Tt u2) i;have⟨B,C⟩:=m.I)|(go_at_call 79;refine(Ir (a.drew.turn F j) H k Y Z _ _ _ _ _).V ?_;rintro e E ⟨o,y,rfl,D,p⟩))
      all_goals
       go_wp2;go_roundw
       case rel=>
        have v:=(j.bd mb Tt u2).J p;exact⟨n-1,false,O,o,oC ws ((⟨#[46]⟩:ByteArray)++x.1) f,rfl,qP H d,Te,l,D,g.drew.J v,c.drew.step v i,v.not c.lt i⟩
       case measure=>rw[D.r.meas,t];exact q
end
end Go.Proofs.YtfebdimolnobaaaGreatDoor
