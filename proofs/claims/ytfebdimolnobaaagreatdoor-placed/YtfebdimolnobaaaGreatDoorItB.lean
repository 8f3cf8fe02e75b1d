import Derived.Test.YtfebdimolnobaaaGreatDoorWkN
import Derived.Shelf.SlSortCmp.WholeK
set_option maxRecDepth 100000
set_option maxHeartbeats 8000000
set_option linter.all false
namespace Go.Proofs.YtfebdimolnobaaaGreatDoor
open Go.RowKit
section
open Go.Maps Go.Sort
theorem LK:(Tryz.prog.info? 386).map (fun i=>(i.zero,i.size,i.bytes))=some (some (.agg #[.int .u64 0,ae ⟨#[]⟩]),2,24):=by kernel_rfl
def iV:List LV->aq
 | []=> []
 |k::ks=> .int .u64 k.1::ae k.2::iV ks
theorem rC:∀(a b:List LV),iV (a++b)=iV a++iV b
 | [],b=>rfl
 |k::a,b=>by simp[iV,rC a b]
theorem iP:∀a:List LV,(iV a).length=2*a.length
 | []=>rfl
 |k::a=>by simp[iV,iP a];omega
def tH:Code:=(Code.region 2 #[{dst:=some 5,op:=Op.alloc 386,type:=0,pos:= "iter.go:51",after:= #[],guard:=none},{dst:=none,op:=Op.store 386 (Operand.tmp 5) (Operand.tmp 7),type:=0,pos:= "iter.go:51",after:= #[{on:=0,ground:=Ground.data},{on:=0,ground:=Ground.phase}],guard:=none}] false)
def AZ:Code:=(Code.block 1 (Code.region 3 #[{dst:=some 8,op:=Op.load 389 (Operand.tmp 2),type:=389,pos:= "iter.go:52",after:= #[],guard:=none},{dst:=some 9,op:=Op.load 386 (Operand.tmp 5),type:=386,pos:= "iter.go:52",after:= #[],guard:=none},{dst:=some 10,op:=Op.buildSlice 389 1 #[(0,Operand.tmp 9)],type:=389,pos:= "iter.go:52",after:= #[{on:=1,ground:=Ground.data}],guard:=none},{dst:=some 11,op:=Op.call {callee:=Callee.builtin Builtin.append,args:= #[Operand.tmp 8,Operand.tmp 10],argTypes:= #[389,389]},type:=389,pos:= "iter.go:52",after:= #[{on:=0,ground:=Ground.data},{on:=2,ground:=Ground.data}],guard:=none},{dst:=none,op:=Op.store 389 (Operand.tmp 2) (Operand.tmp 11),type:=0,pos:= "iter.go:52",after:= #[{on:=3,ground:=Ground.data},{on:=3,ground:=Ground.chain},{on:=0,ground:=Ground.phase},{on:=1,ground:=Ground.phase},{on:=2,ground:=Ground.phase},{on:=3,ground:=Ground.phase}],guard:=none}] false))
def nG (fn:FuncId)(sv:Value)(Bs D:Nat)(st:LoopState)(pend:Option Code):Loop:=
 {state:=st,pending:=pend,fn,tmps:= #[ah,sv,ag Bs,undef,ah,undef,sv,undef,undef,undef,undef,undef,undef],params:= #[7],assign:=tH,body:=AZ,defers:=D}
structure Do (w0:an)(fn:FuncId)(sv:Value)(Bs l D:Nat)(ss:List LV)(W:an):Prop where
 box:∃v,W.heap[Bs]?=some (.cells #[v] 389 (0,0))/\W.ownsRow w0.heap.size 386 2 v ss.length (iV ss)
 L:W.heap[l]?=some (.loop (nG fn sv Bs D .ready none))
 K:W.heap[D]?=some (.deferred (some []))
 below:aj w0 W
theorem vO (w0:an)(fn:FuncId)(sv:Value)(Bs l D B:Nat)(hB:w0.heap.size<=B):AbidesFrom B (Do w0 fn sv Bs l D):=fun s W W' row h hg N2=>by
 have N7:∀r,row=some r->∃o:Obj,W.heap[r]?=some o/\o.isWalk=true:=fun r e=>(N2 r e).2
 obtain⟨v,hv,hr⟩:=h.box
 exact⟨⟨v,(grownBy_keeps hg N7 hv rfl).trans hv,ownsRow_abides_a hr hg N7⟩,(grownBy_keeps hg N7 h.L rfl).trans h.L,(grownBy_keeps hg N7 h.K rfl).trans h.K,
  h.below.grown hg h.below.size (fun k e=>aG hB (N2 k e).1)⟩
theorem Ic (F:Fence)(m:Nat)(w0:an)(fn:FuncId)(OF:F.fn fn)(sv:Value)(Bs l D:Nat)(hBl:Bs≠l)(hDl:D≠l)(hDB:D≠Bs)(h0B:w0.heap.size<=Bs)(h0l:w0.heap.size<=l)
  (N:Nat) (hN:N<=maxLen) (hNb:N*24<=140737488355328) (ss:List LV) (x:LV) (W:an) (h:Do w0 fn sv Bs l D ss W) (hlen:ss.length<N):
  YieldAt F m Tryz.prog l #[kV x] W fun e W'=>e= .returned (.bool true)/\Do w0 fn sv Bs l D (ss++ [x]) W'/\KeepsWalks W W':=by
 obtain⟨i0,hi,OW,OX,OY⟩:=info_parts LK;obtain⟨x1,x2⟩:=x;refine⟨fn,#[ah,sv,ag Bs,undef,ah,undef,sv,kV (x1,x2),undef,undef,undef,undef,undef],tH,AZ,by simpa [nG]using run_yield (P:=Tryz.prog) (args:= #[kV (x1,x2)]) h.L rfl,roundIn_of_wpIn OF ?_⟩;have hlW:l<W.heap.size:=(Array.getElem?_eq_some_iff.1 h.L).1;have hA:Do w0 fn sv Bs l D ss (W.alloc (.cells #[.int .u64 x1,ae x2] 386)):=vO w0 fn sv Bs l D w0.heap.size (ay _) ss W _ none h (World.grownBy_alloc W _ none) (fun r e=>by cases e);have OG:KeepsWalks W (W.alloc (.cells #[.int .u64 x1,ae x2] 386)):=KeepsWalks.alloc _ _;have OH:(W.alloc (.cells #[.int .u64 x1,ae x2] 386)).heap[W.heap.size]?=some (.cells #[.int .u64 x1,ae x2] 386 (0,0)):=World.alloc_heap_new _ _;unfold tH kV
 gi_wp2_with (rw[Oper.semAt_eq _ _ _ (fun c h=>by cases h)];go_simp;try go_bits)
 generalize W.alloc (.cells #[.int .u64 x1,ae x2] 386)=Wa at hA OG OH⊢;obtain⟨v,hv,N2⟩:=hA.box;have hl:l<Wa.heap.size:=(Array.getElem?_eq_some_iff.1 hA.L).1;obtain⟨W2,Oh⟩:∃W2,Wa.putObj l (.loop {nG fn sv Bs D .ready none with state:= .busy})=W2:=⟨_,rfl⟩;have OI:=run_beginRound (P:=Tryz.prog) hA.L rfl;rw[Oh]at OI;have OJ:Wa.grownBy W2 (some l):=by rw[<-Oh];exact grownBy_putObj_a _ _ _
 have OO:KeepsWalks W W2:=by rw[<-Oh];exact OG.trans (KeepsWalks.putObj _ hA.L rfl)
 have Ou:W2.heap[Bs]?=some (.cells #[v] 389 (0,0)):=by rw[<-Oh];exact(World.putObj_heap_other hBl).trans hv
 have Oz:W2.heap[D]?=some (.deferred (some [])):=by rw[<-Oh];exact(World.putObj_heap_other hDl).trans hA.K
 have OA:W2.heap[l]?=some (.loop {nG fn sv Bs D .ready none with state:= .busy}):=by rw[<-Oh];exact World.putObj_heap_same hl
 have OL:W2.heap[W.heap.size]?=some (.cells #[.int .u64 x1,ae x2] 386 (0,0)):=by rw[<-Oh];exact(World.putObj_heap_other (by omega)).trans OH
 have N8:W2.ownsRow w0.heap.size 386 2 v ss.length (iV ss):=N2.kept OJ (ownsRow_ne_a N2 hA.L (fun Od e=>by cases e));have Ov:aj w0 W2:=hA.below.grown OJ hA.below.size (fun k e=>by cases e;exact h0l);clear Oh;have hnc0:W2.cell? (ai W.heap.size 0)=some (.int .u64 x1):=by simp[World.cell?,OL]
 have hnc1:W2.cell? (ai W.heap.size 1)=some (ae x2):=by simp[World.cell?,OL]
 obtain⟨hc2,hf2⟩:=cell_of_box_a Ou;have OB:Bs<W2.heap.size:=(Array.getElem?_eq_some_iff.1 Ou).1;have OP:l<W2.heap.size:=(Array.getElem?_eq_some_iff.1 OA).1;have OC:D<W2.heap.size:=(Array.getElem?_eq_some_iff.1 Oz).1
 have Oa:∀{j:Nat} {o:Obj},W2.heap[j]?=some o->(∀Od,o≠ .cells Od 386 (0,0))->some j≠v.ownBlock:=fun hj OZ=>by
  rcases ownsRow_ne_a N8 hj OZ with e|e
  ·rw[e];simp
  ·exact fun e'=>e e'.symm
 refine⟨W2,OI,?_⟩;unfold AZ
 gi_wp2_with (first
  |(
    gi_at_builtin;refine wpListIn_append_own _ rfl _ _ 389 rfl w0.heap.size 386 i0 (.agg #[.int .u64 0,ae ⟨#[]⟩]) 2 24 Tryz.underlying389 hi OW OX OY rfl (by decide) _ _ _ rfl (N8.alloc _) (ai W2.heap.size 0) 1 1 [.int .u64 x1,ae x2] rfl rfl (jV _ _ _ _) (by simp[Value.oneCell']) (by omega) (by omega) (by have:=Ov.size;simp;omega) ?_;intro v' w3 Ob Oo hnil3
    have Oj:w3.heap[Bs]?=some (.cells #[v] 389 (0,0)):=(Oo.block Bs (by simp;omega) (Oa Ou (fun Od e=>by cases e))).trans ((Below.heap_alloc _ _ Bs OB).trans Ou);obtain⟨O1,O2⟩:=cell_of_box_a Oj;obtain⟨g',N3,Oe,rfl,hbase',hgb',hr1,hr2,hr3,hr4⟩:∃g' N3 Oe,v'= .slice (some (ai g' 0)) (ss.length+1) N3/\w0.heap.size<=g'/\w3.heap[g']?=some (.cells Oe 386 (0,0))/\ss.length+1<=N3/\N3<=maxLen/\Oe.size=N3*2/\Oe.toList.take ((ss.length+1)*2)=iV ss++ [.int .u64 x1,ae x2]:=Ob.2.elim (fun q=>absurd q.2 (by omega)) id
    go_frame)
  |(rw[Oper.semAt_eq _ _ _ (fun c h=>by cases h)];go_simp;try go_bits))
 have Oc:(W2.alloc (.cells #[.int .u64 x1,ae x2] 386)).grownBy w3 v.ownBlock:=Oo;have OM:w3.heap[l]?=some (.loop {nG fn sv Bs D .ready none with state:= .busy}):=(Oc.block l (by simp;omega) (Oa OA (fun Od e=>by cases e))).trans ((Below.heap_alloc _ _ l OP).trans OA);have Ok:w3.heap[D]?=some (.deferred (some [])):=(Oc.block D (by simp;omega) (Oa Oz (fun Od e=>by cases e))).trans ((Below.heap_alloc _ _ D OC).trans Oz);obtain⟨w4,Oq⟩:∃w4,w3.setCell (ai Bs 0) (.slice (some (ai g' 0)) (ss.length+1) N3)=w4:=⟨_,rfl⟩;rw[Oq];have Ow:w3.grownBy w4 (some Bs):=by rw[<-Oq];exact grownBy_setCell0_a _ _ _
 have OQ:w4.heap[Bs]?=some (.cells #[.slice (some (ai g' 0)) (ss.length+1) N3] 389 (0,0)):=by rw[<-Oq];exact heap_setCell_box_a _ Oj
 have Ox:w4.heap[l]?=some (.loop {nG fn sv Bs D .ready none with state:= .busy}):=(Ow.block l (Array.getElem?_eq_some_iff.1 OM).1 (fun e=>hBl (by cases e;rfl))).trans OM;have OR:w4.heap[D]?=some (.deferred (some [])):=(Ow.block D (Array.getElem?_eq_some_iff.1 Ok).1 (fun e=>hDB (by cases e;rfl))).trans Ok;have Of:=Ob.kept Ow (ownsRow_ne_a Ob Oj (fun Od e=>by cases e));have OS:l<w4.heap.size:=(Array.getElem?_eq_some_iff.1 Ox).1;have Ol:aj w0 w3:=(Ov.alloc Ov.size _).grown Oc (by have:=Ov.size;simp;omega) (fun k e=>(N8.lt k e).1);have ON:aj w0 w4:=Ol.grown Ow Ol.size (fun k e=>by cases e;exact h0B);have OT:KeepsWalks W w4:=((OO.trans (KeepsWalks.alloc _ _)).trans (KeepsWalks.of_grownBy Oc (ownsRow_not_walk_a (N8.alloc _)))).trans (by rw[<-Oq];exact KeepsWalks.setCell _ _ _);clear Oq;refine⟨_,_,run_endRound none Ox,rfl,⟨⟨_,(World.putObj_heap_other hBl).trans OQ,?_⟩,World.putObj_heap_same OS,(World.putObj_heap_other hDl).trans OR,ON.grown (grownBy_putObj_a _ _ _) ON.size (fun k e=>by cases e;exact h0l)⟩,OT.trans (KeepsWalks.putObj _ Ox rfl)⟩;have:=Of.kept (grownBy_putObj_a w4 l (.loop {{nG fn sv Bs D .ready none with state:= .busy}with state:=if(none:Option Code).isNone then .ready else .done,pending:=none})) (ownsRow_ne_a Of Ox (fun Od e=>by cases e));simpa [rC,iV]using this
theorem Ba (F:Fence)(n:Nat)(hF:∀f,F.fn f)(hro:F.round=none)(hn:2<=n)(g:Nat)(lb:Array Value)(eg:∀args w,(callFunc g args).run Tryz.prog w= .ok (.enter g args) w)
  (S:List LV->Prop) (N:Nat) (hN:N<=maxLen) (hNb:N*24<=140737488355328) (w:an) (hseq:SeqGives F (n-1) Tryz.prog g lb kV S N w):
  CallsIn F n Tryz.prog 407 #[ah,.func (.func g) #[] lb] w fun e w'=>∃(v:Value) (ss:List LV),e= .returned v/\S ss/\w'.ownsRow w.heap.size 386 2 v ss.length (iV ss)/\aj w w':=by
 have h1:1<=n:=by omega
 refine callsIn_of_wp_marks Tryz.func407 rfl (hF _) ?_ hro;simp only[Tryz.ntmps407,cW,bn,cy,Nat.reduceAdd,Nat.reduceSub,cM,cN,cX,cS,aP,bj]
 gi_wp2
 refine wpIn_rangeFunc ?_;intro fn OF;rw[hro];obtain⟨W0,Oy⟩:∃W0,w.alloc (.cells #[ah] 389)=W0:=⟨_,rfl⟩;have OU:W0.heap.size=w.heap.size+1:=by rw[<-Oy];simp
 have OV:W0.heap[w.heap.size]?=some (.cells #[ah] 389 (0,0)):=by rw[<-Oy];exact World.alloc_heap_new w _
 have OD:aj w W0:=by rw[<-Oy];exact(Below.refl _ w).alloc (ay _) _
 rw[Oy];obtain⟨W1,Oi⟩:∃W1,(W0.alloc (.deferred (some []))).alloc (.loop (nG fn (.func (.func g) #[] lb) w.heap.size W0.heap.size .ready none))=W1:=⟨_,rfl⟩
 have hold:∀k,k<W0.heap.size->W1.heap[k]?=W0.heap[k]?:=fun k hk=>by
  rw[<-Oi];exact(Below.heap_alloc _ _ k (by simp;omega)).trans (Below.heap_alloc _ _ k hk)
 have OE:aj w W1:=by rw[<-Oi];exact(OD.alloc OD.size _).alloc (by have:=OD.size;simp;omega) _
 have hs1:W1.heap.size=W0.heap.size+2:=by rw[<-Oi];simp
 have hM:Do w fn (.func (.func g) #[] lb) w.heap.size (W0.heap.size+1) W0.heap.size [] W1:=
  ⟨⟨_,(hold w.heap.size (by omega)).trans OV,⟨rfl,.inl ⟨rfl,rfl⟩⟩⟩, by rw[<-Oi];have:=World.alloc_heap_new (W0.alloc (.deferred (some []))) (.loop (nG fn (.func (.func g) #[] lb) w.heap.size W0.heap.size .ready none));rwa [bV]at this, by rw[<-Oi];exact(Below.heap_alloc _ _ _ (by simp)).trans (World.alloc_heap_new W0 _),OE⟩
 refine⟨W0.heap.size+1,[{target:= .collected W0.heap.size,args:= #[]}],W1,{target:= .fn (.func g) lb,args:= #[.func (.yield (W0.heap.size+1)) #[] #[]]},W1,g,
  #[.func (.yield (W0.heap.size+1)) #[] #[]]++lb,W1,?_,?_,?_,?_,fun _=>h1,?_⟩
 ·rw[<-Oi];exact run_enterLoop_outer _ _ _ _ _
 ·simp[resolve,go_sem]
 ·intro f' hf';exact hF _
 ·simp[invoke,go_sem,eg]
 ·refine(hseq (W0.heap.size+1) (Do w fn (.func (.func g) #[] lb) w.heap.size (W0.heap.size+1) W0.heap.size) W1 OE (vO _ _ _ _ _ _ _ OE.size)
   (fun pre x W hJ hl=>Ic F (n-1-1) w fn OF _ w.heap.size (W0.heap.size+1) W0.heap.size (by omega) (by omega) (by omega) (ay _) (by omega) N hN hNb pre x W hJ hl) hM).mono ?_
  rintro e W2 ⟨⟨v0,rfl⟩,ss,hS,h2⟩;obtain⟨v,hv,N2⟩:=h2.box;have Om:=run_endLoop (P:=Tryz.prog) h2.L (by simp[nG]);obtain⟨W3,Ot⟩:∃W3,W2.putObj (W0.heap.size+1) (.loop {nG fn (.func (.func g) #[] lb) w.heap.size W0.heap.size .ready none with state:= .exhausted})=W3:=⟨_,rfl⟩;rw[Ot]at Om;have Oo:W2.grownBy W3 (some (W0.heap.size+1)):=by rw[<-Ot];exact grownBy_putObj_a _ _ _
  have Oj:W3.heap[w.heap.size]?=some (.cells #[v] 389 (0,0)):=by rw[<-Ot];exact(World.putObj_heap_other (by omega)).trans hv
  have Ok:W3.heap[W0.heap.size]?=some (.deferred (some [])):=by rw[<-Ot];exact(World.putObj_heap_other (by omega)).trans h2.K
  have Og:=N2.kept Oo (ownsRow_ne_a N2 h2.L (fun Od e=>by cases e));have Ol:aj w W3:=h2.below.grown Oo h2.below.size (fun k e=>by cases e;omega);obtain⟨O1,O2⟩:=cell_of_box_a Oj;clear Ot;refine⟨none,W3,Om,?_⟩
  gi_wp2
  rw[<-OU];refine⟨by simp,.inl ⟨_,_,rfl,run_takeDeferred Ok,?_⟩⟩;exact⟨_,results_tmp rfl _ _ _,v,ss,rfl,hS,Og.kept (grownBy_putObj_a _ _ _) (ownsRow_ne_a Og Ok (fun Od e=>by cases e)),Ol.grown (grownBy_putObj_a _ _ _) Ol.size (fun k e=>by cases e;omega)⟩
theorem FB (F:Fence)(n:Nat)(hF:∀f,F.fn f)(hro:F.round=none)(hn:3<=n)(g:Nat)(lb:Array Value)(eg:∀args w,(callFunc g args).run Tryz.prog w= .ok (.enter g args) w)
  (S:List LV->Prop) (N:Nat) (hN:N<=maxLen) (hNb:N*24<=140737488355328) (w:an) (hseq:SeqGives F (n-1-1) Tryz.prog g lb kV S N w):
  CallsIn F n Tryz.prog 354 #[.func (.func g) #[] lb] w fun e w'=>∃(v:Value) (ss:List LV),e= .returned v/\S ss/\w'.ownsRow w.heap.size 386 2 v ss.length (iV ss)/\aj w w':=by
 have h1:1<=n:=by omega
 refine callsIn_of_wp Tryz.func354 rfl (hF _) ?_ hro;simp only[Tryz.ntmps354,cW,bn,cy,Nat.reduceAdd,Nat.reduceSub,cM,cN,cX,cS,aP,bj]
 gi_wp2
 refine(Ba F (n-1) hF hro (by omega) g lb eg S N hN hNb _ hseq).mono ?_;rintro e w' ⟨v,ss,rfl,hS,N2,hb⟩
 gi_wp2
 go_ret;exact⟨v,ss,rfl,hS,N2,hb⟩
end
end Go.Proofs.YtfebdimolnobaaaGreatDoor
namespace Go.Proofs
open Go.Shelf
def Tryz.sortK_ren:Go.Shelf.Ren:=⟨fun|6=>355|15=>169|14=>408|28=>254|29=>255|20=>427|21=>428|22=>429|23=>430|24=>431|25=>432|26=>433|27=>434|46=>441|47=>332|48=>333|49=>442|50=>443|57=>446|n=>n,fun|22=>389|24=>386|25=>394|3=>3|39=>295|0=>0|53=>164|55=>53|4=>4|46=>367|45=>366|50=>331|5=>5|9=>9|66=>428|70=>431|76=>468|77=>469|n=>n,fun|n=>n⟩
theorem Tryz.sortK:Go.Proofs.SlLaysF0.n6 Tryz.prog Tryz.sortK_ren:={
 mixed:=by kernel_rfl
 f6:=⟨Tryz.f355.name,by decide,Tryz.func355.trans (congrArg some (by kernel_rfl))⟩
 f14:=⟨Tryz.f408.name,by decide,Tryz.func408.trans (congrArg some (by kernel_rfl))⟩
 f15:=Tryz.func169.trans (congrArg some (by kernel_rfl))
 f20:=⟨Tryz.f427.name,by decide,Tryz.func427.trans (congrArg some (by kernel_rfl))⟩
 f21:=⟨Tryz.f428.name,by decide,Tryz.func428.trans (congrArg some (by kernel_rfl))⟩
 f22:=⟨Tryz.f429.name,by decide,Tryz.func429.trans (congrArg some (by kernel_rfl))⟩
 f23:=⟨Tryz.f430.name,by decide,Tryz.func430.trans (congrArg some (by kernel_rfl))⟩
 f24:=⟨Tryz.f431.name,by decide,Tryz.func431.trans (congrArg some (by kernel_rfl))⟩
 f25:=⟨Tryz.f432.name,by decide,Tryz.func432.trans (congrArg some (by kernel_rfl))⟩
 f26:=⟨Tryz.f433.name,by decide,Tryz.func433.trans (congrArg some (by kernel_rfl))⟩
 f27:=⟨Tryz.f434.name,by decide,Tryz.func434.trans (congrArg some (by kernel_rfl))⟩
 f28:=Tryz.func254.trans (congrArg some (by kernel_rfl))
 f29:=Tryz.func255.trans (congrArg some (by kernel_rfl))
 f46:=⟨Tryz.f441.name,by decide,Tryz.func441.trans (congrArg some (by kernel_rfl))⟩
 f47:=Tryz.func332.trans (congrArg some (by kernel_rfl))
 f48:=Tryz.func333.trans (congrArg some (by kernel_rfl))
 f49:=⟨Tryz.f442.name,by decide,Tryz.func442.trans (congrArg some (by kernel_rfl))⟩
 f50:=⟨Tryz.f443.name,by decide,Tryz.func443.trans (congrArg some (by kernel_rfl))⟩
 f57:=⟨Tryz.f446.name,by decide,Tryz.func446.trans (congrArg some (by kernel_rfl))⟩
 t0:=Tryz.underlying0
 a0:=Tryz.isAgg0
 z0:=Tryz.sizeOf0
 v0:=Tryz.zeroValue0
 t3:=Tryz.underlying3
 a3:=Tryz.isAgg3
 z3:=Tryz.sizeOf3
 v3:=Tryz.zeroValue3
 t4:=Tryz.underlying4
 a4:=Tryz.isAgg4
 z4:=Tryz.sizeOf4
 v4:=Tryz.zeroValue4
 t5:=Tryz.underlying5
 a5:=Tryz.isAgg5
 z5:=Tryz.sizeOf5
 v5:=Tryz.zeroValue5
 t9:=Tryz.underlying9
 a9:=Tryz.isAgg9
 z9:=Tryz.sizeOf9
 v9:=Tryz.zeroValue9
 t22:=Tryz.underlying389
 a22:=Tryz.isAgg389
 z22:=Tryz.sizeOf389
 v22:=Tryz.zeroValue389
 t25:=Tryz.underlying394
 a25:=Tryz.isAgg394
 z25:=Tryz.sizeOf394
 v25:=Tryz.zeroValue394
 t39:=Tryz.underlying295
 a39:=Tryz.isAgg295
 z39:=Tryz.sizeOf295
 v39:=Tryz.zeroValue295
 t45:=Tryz.underlying366
 a45:=Tryz.isAgg366
 z45:=Tryz.sizeOf366
 v45:=Tryz.zeroValue366
 t46:=Tryz.underlying367
 a46:=Tryz.isAgg367
 z46:=Tryz.sizeOf367
 v46:=Tryz.zeroValue367
 t50:=Tryz.underlying331
 a50:=Tryz.isAgg331
 z50:=Tryz.sizeOf331
 v50:=Tryz.zeroValue331
 t53:=Tryz.underlying164
 a53:=Tryz.isAgg164
 z53:=Tryz.sizeOf164
 v53:=Tryz.zeroValue164
 t55:=Tryz.underlying53
 a55:=Tryz.isAgg53
 z55:=Tryz.sizeOf53
 v55:=Tryz.zeroValue53
 t66:=Tryz.underlying428
 a66:=Tryz.isAgg428
 z66:=Tryz.sizeOf428
 v66:=Tryz.zeroValue428
 t70:=Tryz.underlying431
 a70:=Tryz.isAgg431
 z70:=Tryz.sizeOf431
 v70:=Tryz.zeroValue431
 t76:=Tryz.underlying468
 a76:=Tryz.isAgg468
 z76:=Tryz.sizeOf468
 v76:=Tryz.zeroValue468
 t77:=Tryz.underlying469
 a77:=Tryz.isAgg469
 z77:=Tryz.sizeOf469
 v77:=Tryz.zeroValue469}
end Go.Proofs
namespace Go.Proofs.YtfebdimolnobaaaGreatDoor
open Go.RowKit
section
open Go.Maps Go.Sort
attribute [local go_sem↓] Go.wp_at_zero Go.wp_at_succ
theorem tI (x:Int)(w:an):Calls Tryz.prog 409 #[.int .u64 x] w fun e w'=>e= .returned (.bool false)/\w'=w:=by
 go_enter Tryz.func409,Tryz.ntmps409
 go_wp2;go_ret;exact⟨rfl,rfl⟩
theorem tJ (x:am)(w:an):Calls Tryz.prog 410 #[ae x] w fun e w'=>e= .returned (.bool false)/\w'=w:=by
 go_enter Tryz.func410,Tryz.ntmps410
 go_wp2;go_ret;exact⟨rfl,rfl⟩
def FD (x y:am):Int:=if Op.bytesLess x.toList y.toList then-1 else if x.toList==y.toList then 0 else 1
theorem Bb (x y:Int)(w:an):Calls Tryz.prog 358 #[.int .u64 x,.int .u64 y] w fun e w'=>e= .returned (aa (iS x y))/\w'=w:=by
 unfold iS
 by_cases h:x<y
 ·rw[if_pos h];go_enter Tryz.func358,Tryz.ntmps358
  go_wp2_with (first|(go_at_call 409;refine(tI _ _).mono ?_;rintro e w' ⟨rfl,rfl⟩))
  go_ret;exact⟨rfl,rfl⟩
 ·have hd:decide (x<y)=false:=by simp[h]
  rw[if_neg h]
  by_cases h2:y<x
  ·rw[if_pos h2];go_enter Tryz.func358,Tryz.ntmps358
   go_wp2_with (first|(go_at_call 409;refine(tI _ _).mono ?_;rintro e w' ⟨rfl,rfl⟩))
   go_ret;exact⟨rfl,rfl⟩
  ·have hd2:decide (y<x)=false:=by simp[h2]
   rw[if_neg h2];go_enter Tryz.func358,Tryz.ntmps358
   go_wp2_with (first|(go_at_call 409;refine(tI _ _).mono ?_;rintro e w' ⟨rfl,rfl⟩))
   go_ret;exact⟨rfl,rfl⟩
theorem Bc (x y:am)(w:an):Calls Tryz.prog 359 #[ae x,ae y] w fun e w'=>e= .returned (aa (FD x y))/\w'=w:=by
 unfold FD
 cases h:Op.bytesLess x.toList y.toList with
 |true=>
  rw[if_pos rfl];go_enter Tryz.func359,Tryz.ntmps359
  go_wp2_with (first|(go_at_call 410;refine(tJ _ _).mono ?_;rintro e w' ⟨rfl,rfl⟩))
  go_ret;exact⟨rfl,rfl⟩
 |false=>
  rw[if_neg (by decide)]
  cases h2:x.toList==y.toList with
  |true=>
   rw[if_pos rfl];go_enter Tryz.func359,Tryz.ntmps359
   go_wp2_with (first|(go_at_call 410;refine(tJ _ _).mono ?_;rintro e w' ⟨rfl,rfl⟩))
   go_ret;exact⟨rfl,rfl⟩
  |false=>
   rw[if_neg (by decide)];go_enter Tryz.func359,Tryz.ntmps359
   go_wp2_with (first|(go_at_call 410;refine(tJ _ _).mono ?_;rintro e w' ⟨rfl,rfl⟩))
   go_ret;exact⟨rfl,rfl⟩
def Ml (x y:Int):Int:=if x=0 then y else x
theorem MB (x y:Int)(b:Nat)(w:an)(h0:w.cell? (ai b 0)=some (aa x))(h1:w.cell? (ai b 1)=some (aa y)):
  Calls Tryz.prog 357 #[.slice (some (ai b 0)) 2 2] w fun e w'=>e= .returned (aa (Ml x y))/\w'=w:=by
 unfold Ml
 by_cases hx:x=0
 ·rw[if_pos hx];subst hx
  by_cases hy:y=0
  ·subst hy;go_enter Tryz.func357,Tryz.ntmps357
   go_wp2;refine wp_loop_rounds 3 ?_;rw[rounds_succ];go_wp2;rw[rounds_succ];go_wp2;rw[rounds_succ];go_wp2;go_ret;exact⟨rfl,rfl⟩
  ·go_enter Tryz.func357,Tryz.ntmps357
   go_wp2;refine wp_loop_rounds 2 ?_;rw[rounds_succ];go_wp2;rw[rounds_succ];go_wp2;go_ret;exact⟨rfl,rfl⟩
 ·rw[if_neg hx];go_enter Tryz.func357,Tryz.ntmps357
  go_wp2;refine wp_loop_rounds 1 ?_;rw[rounds_succ];go_wp2;go_ret;exact⟨rfl,rfl⟩
def tL (x y:LV):Int:=Ml (iS x.1 y.1) (FD x.2 y.2)
theorem tM (x y:LV)(w:an):Calls Tryz.prog 275 #[kV x,kV y] w fun e w'=>e= .returned (aa (tL x y))/\∃q os,w'=grow (w.drewN q) os:=by
 obtain⟨x1,x2⟩:=x;obtain⟨y1,y2⟩:=y;unfold kV;go_enter Tryz.func275,Tryz.ntmps275
 have hc:∀(o1 o2:Obj) (v0 v1:Value),(((w.alloc o1).alloc o2).alloc (.cells #[v0,v1] 3)).drew.cell? (ai (w.heap.size+1+1) 0)=some v0/\(((w.alloc o1).alloc o2).alloc (.cells #[v0,v1] 3)).drew.cell? (ai (w.heap.size+1+1) 1)=some v1:=fun o1 o2 v0 v1=>by
  have h:=jV ((w.alloc o1).alloc o2) v0 v1 3;have h0:=h 0 v0 rfl;have h1:=h 1 v1 rfl;simp only[bV,Addr.add]at h0 h1;exact⟨h0,h1⟩
 go_upto_region 1 with fail
 go_region_held2 (fun W=>W.cell? (ai w.heap.size 0)=some (.int .u64 x1)/\W.cell? (ai w.heap.size 1)=some (ae x2)/\W.cell? (ai (w.heap.size+1) 0)=some (.int .u64 y1)/\W.cell? (ai (w.heap.size+1) 1)=some (ae y2)) (go_keep) (first
  |(go_at_call 358;refine(Bb _ _ _).mono ?_;rintro e w' ⟨rfl,rfl⟩)
  |(go_at_call 359;refine(Bc _ _ _).mono ?_;rintro e w' ⟨rfl,rfl⟩)
  |(go_at_call 357;refine(MB _ _ _ _ (hc _ _ _ _).1 (hc _ _ _ _).2).mono ?_;rintro e w' ⟨rfl,rfl⟩))
 go_wp2;go_ret;exact⟨rfl,1,#[_,_,_],rfl⟩
theorem Id (x y:am):FD x y<0<->Op.bytesLess x.toList y.toList=true:=by
 unfold FD
 split
 ·rename_i h;simp[h]
 ·rename_i h;split<;>simp[h]
theorem Cs (x y:Int):iS x y=0<->x=y:=by
 unfold iS
 split
 ·simp;omega
 ·split
  ·simp;omega
  ·simp;omega
theorem Ie (x y:LV):tL x y<0<->mh x y:=by
 unfold tL Ml mh
 by_cases h:x.1=y.1
 ·rw[if_pos ((Cs _ _).2 h),Id];simp[h]
 ·rw[if_neg (fun q=>h ((Cs _ _).1 q)),kZ];simp[h]
theorem Lk (x y:LV):ltOf tL x y=true<->mh x y:=by
 unfold ltOf;simp[Ie]
theorem MC:SWO (ltOf tL)where
 irrefl x:=by rw[bN];exact fun h=>oh _ ((Lk _ _).1 h)
 trans x y z h1 h2:=(Lk _ _).2 (lP ((Lk _ _).1 h1) ((Lk _ _).1 h2))
 ntrans x y z h1 h2:=by
  rw[bN,Ne,Lk]at*;intro h
  rcases xt y x with q|q|q
  ·exact h2 (lP q h)
  ·exact h2 (tw q h)
  ·exact h1 q
theorem zx {a b:LV}(h:iO a b):a=b:=by
 obtain⟨h1,h2⟩:=h;exact Prod.ext h1 (cF (Array.toList_inj.1 (by rw[<-ByteArray.toList_eq,<-ByteArray.toList_eq];exact h2)))
def rU (k:LV):aq:= [.int .u64 k.1,ae k.2]
theorem zA:∀(ss:List LV) (t:Nat),t<ss.length*2->(iV ss)[t]?=some ((rU ss.toArray[t/2]!)[t%2]!)
 | [],t,h=>by simp at h
 |k::ss,0,_=>by simp[iV,rU]
 |k::ss,1,_=>by simp[iV,rU]
 |k::ss,t+2,h=>by
  have e1:(t+2)/2=t/2+1:=by omega
  have e2:(t+2)%2=t%2:=by omega
  have h':t<ss.length*2:=by simp at h;omega
  have Of:t/2<ss.length:=by omega
  rw[e1,e2];have:=zA ss t h';simp only[iV,ch];rw[this]
  congr 3;simp[Of]
theorem vP (ss:List LV):(flatK rU 2 ss.toArray).toList=iV ss:=by
 apply List.ext_getElem?;intro t
 by_cases h:t<ss.length*2
 ·rw[zA ss t h,bi,bo (by simpa using h),<-get_flatK rU 2 ss.toArray t (by simpa using h),getElem!_pos _ t (by simpa using h)]
 ·rw[aQ (by simp;omega),aQ (by rw[iP];omega)]
def MD (w:an)(lo:Nat)(v:Value)(l:List LV)(e:Ending)(w':an):Prop:=
 e= .returned (.tuple #[])/\∃l':List LV,l'.Perm l/\l'.Pairwise (fun a b=>¬mh b a)/\w'.ownsRow lo 386 2 v l.length (iV l')/\w.grownBy w' v.ownBlock
theorem JG (w:an)(lo:Nat)(v:Value)(l:List LV)(N2:w.ownsRow lo 386 2 v l.length (iV l))(hl:l.length<=1099511627776):
  Calls Tryz.prog 355 #[v,.func (.func 275) #[] #[]] w (MD w lo v l):=by
 by_cases h0:l= []
 ·subst h0;obtain⟨a,c,rfl⟩:=gS N2;refine(AnyF.slices_SortFunc_none (P:=Tryz.prog) (ρ:=Tryz.sortK_ren) Tryz.sortK a c _ w).mono ?_;rintro e w' ⟨rfl,rfl⟩;exact⟨rfl,[],List.Perm.refl _,List.Pairwise.nil,N2,⟨rfl,rfl,rfl,ay _,fun _ _ _=>rfl⟩⟩
 ·rcases N2.2 with⟨rfl,h1⟩|⟨g,cap,Oi,rfl,hg,hb,hn,hm,hs,ht⟩
  ·exact absurd (bt h1) h0
  ·have Og:g<w.heap.size:=de.lt hb;have eg:∀args w,(callFunc 275 args).run Tryz.prog w= .ok (.enter 275 args) w:=enters_of Tryz.func275 (by kernel_rfl) rfl;have Ob:CmpLays Tryz.prog 275 #[] rU 2 tL g 0 l.toArray.size w:=fun m os dk hsz x y=>tM x y _
   have hH:HoldsK rU 2 w g 0 l.toArray:=by
    have:=vj (enc:=id) (w:=w) (g:=g) (ss:=iV l) hb (by rw[iP,List.map_id,Nat.mul_comm];exact ht);rw[<-vP]at this;exact this
   have N7:=AnyQ.slices_SortFunc Tryz.sortK 2 (fun _=>Tryz.isAgg386 _) (fun _=>Tryz.sizeOf386 _) rU (fun _=>rfl) (fun x v hv=>by simp[rU]at hv;rcases hv with rfl|rfl<;>rfl) tL MC 275 #[] g 0 cap l.toArray w eg Ob hH Og (by simp;omega);have e1:l.toArray.size=l.length:=by simp
   rw[e1]at N7;refine N7.mono ?_;rintro e w' ⟨rfl,d',n,os,N3,N8,rfl⟩;have hsz:d'.size=l.length:=by rw[N3.1];exact e1
   obtain⟨l',rfl⟩:∃l':List LV,l'.toArray=d':=⟨d'.toList,by simp⟩;have Od:l'.length=l.length:=by simpa using hsz
   refine⟨rfl,l',?_,?_,?_,qz (enc:=id) (flatK rU 2 l'.toArray)⟩
   ·have h2:=N3.2.2;rw[<-e1]at h2;rw[cU,show l.toArray.size=l'.toArray.size from by simp[Od],cU]at h2;simpa using h2
   ·rw[bC];intro i j hi hj Oj;have h2:=N8 i j (aM _) Oj (by omega);rw[getElem!_pos l'.toArray i (by simpa using hi),getElem!_pos l'.toArray j (by simpa using hj),bN,Ne,Lk]at h2;simpa using h2
   ·refine⟨by rw[iP];omega,.inr ⟨g,cap,_,rfl,hg,yF (enc:=id) (flatK rU 2 l'.toArray) hb,hn,hm,by simp[putCells,hs],?_⟩⟩;have:=yG (enc:=id) Oi (iV l') (by rw[iP];omega);rw[iP,List.map_id]at this;have e3:flatK rU 2 l'.toArray=(iV l').toArray:=by rw[<-vP]
    rw[e3,Nat.mul_comm,<-Od];exact this
def LL (w:an)(S:List LV->Prop)(e:Ending)(w':an):Prop:=
 ∃(v:Value) (ss l:List LV),e= .returned v/\S ss/\l.Perm ss/\l.Pairwise (fun a b=>¬mh b a)/\w'.ownsRow w.heap.size 386 2 v l.length (iV l)/\aj w w'
theorem zC (w:an)(Bm N:Nat)(S:List LV->Prop)(hN:N<=1099511627776)(hS:∀ss,S ss->ss.length<=N)(hk:AX w Bm S N):
  Calls Tryz.prog 273 #[.func (.func 356) #[] #[ag Bm],.func (.func 275) #[] #[]] w (LL w S):=by
 have eg:∀args w,(callFunc 356 args).run Tryz.prog w= .ok (.enter 356 args) w:=enters_of Tryz.func356 (by kernel_rfl) rfl;have hm:maxLen=9223372036854775807:=rfl;have Oc:=(FB {fn:=fun _=>True} 3 (fun _=>trivial) rfl (by omega) _ #[ag Bm] eg S N (by omega) (by omega) w (hk _ _ (fun _=>trivial) rfl (by omega))).calls (fun _ _ h=>by cases h);go_enter Tryz.func273,Tryz.ntmps273
 go_wp2_with fail
 refine Oc.mono ?_;rintro e w1 ⟨v,ss,rfl,Oe,N2,hb⟩;obtain⟨a,c,rfl⟩:=gS N2;go_wp2_with fail
 refine(JG w1 w.heap.size _ ss N2 (aG (hS ss Oe) hN)).mono ?_;rintro e w2 ⟨rfl,l,hp,Ok,Oa,hg⟩;go_wp2;go_ret;have Oh:l.length=ss.length:=hp.length_eq;exact⟨_,ss,l,rfl,Oe,hp,Ok,by rw[Oh];exact Oa,hb.grown hg hb.size (fun k e=>(N2.lt k e).1)⟩
theorem vQ:∀{ks:List LV} {ps:au} {q:LV},ks.length=ps.length->q∈ks->∃p,ik ks ps q=some p
 | [],_,_,_,h=>by cases h
 |_::_,[],_,h,_=>by simp at h
 |k::ks,p::ps,q,hl,h=>by
  rw[ik]
  by_cases e:k.1=q.1/\gy k.2 q.2=true
  ·exact⟨p,if_pos e⟩
  ·rw[if_neg e]
   rcases aL.1 h with rfl|h
   ·exact absurd ⟨rfl,fX.2 rfl⟩ e
   ·exact vQ (by simpa using hl) h
theorem zD:∀{ks:List LV} {ps:au} {i:Nat} {q:LV} {p:Nat},ks.Pairwise mh->ks[i]?=some q->ps[i]?=some p->ik ks ps q=some p
 | [],_,_,_,_,_,h,_=>by simp at h
 |_::_,[],_,_,_,_,_,h=>by simp at h
 |k::ks,p::ps,0,q,p',_,h,h'=>by
  simp at h h';subst h h';rw[ik,if_pos ⟨rfl,fX.2 rfl⟩]
 |k::ks,p::ps,i+1,q,p',hp,h,h'=>by
  simp at h h';rw[bB]at hp;have Od:=hp.1 q (aI h);rw[ik,if_neg (fun e=>ka Od ⟨e.1,fX.1 e.2⟩)];exact zD hp.2 h h'
theorem vR:∀{a b:List LV},a.Pairwise mh->b.Pairwise mh->(∀x,x∈a<->x∈b)->a=b
 | [],[],_,_,_=>rfl
 | [],y::b,_,_,h=>by have:=(h y).2 (by simp);cases this
 |x::a,[],_,_,h=>by have:=(h x).1 (by simp);cases this
 |x::a,y::b,h1,h2,h=>by
  rw[bB]at h1 h2
  have e:x=y:=by
   rcases aL.1 ((h x).1 (by simp))with e|e
   ·exact e
   ·rcases aL.1 ((h y).2 (by simp))with e'|e'
    ·exact e'.symm
    ·exact absurd (lP (h1.1 y e') (h2.1 x e)) (oh _)
  subst e
  congr 1;refine vR h1.2 h2.2 fun z=>⟨fun hz=> ?_,fun hz=> ?_⟩
  ·rcases aL.1 ((h z).1 (by simp[hz]))with e|e
   ·subst e;exact absurd (h1.1 _ hz) (oh _)
   ·exact e
  ·rcases aL.1 ((h z).2 (by simp[hz]))with e|e
   ·subst e;exact absurd (h2.1 _ hz) (oh _)
   ·exact e
theorem If {ks:List LV}{ps:au}{D:DataW Unit}{ss l:List LV}(hD:∀(k:LV) kl,Go.keyOf Tryz.prog 386 (kV k)=some kl->∀z,D.atKey kl z=LG (ik ks ps k) z)
  (hl:ks.length=ps.length) (hk:∀k∈ks,uV k) (hs:ks.Pairwise mh) (hC:nF D (fun _=>false) ss) (hp:l.Perm ss) (Om:l.Pairwise (fun a b=>¬mh b a)):l=ks:=by
 have Ol:∀x,x∈ss<->x∈ks:=fun x=>by
  have Oo:uV x->(x∈ss<->x∈ks):=fun hx=>by
   obtain⟨kl,Oc⟩:=JE hx;rw[hC.2.2 x kl Oc];simp only[and_true]
   constructor
   ·intro h
    by_cases hm:x∈ks
    ·exact hm
    ·have hn:ik ks ps x=none:=tx fun y hy e=>hm (zx e▸hy)
     have:=has_false_of_atKey (D:=D) (k:=kl) fun z=>by rw[hD x kl Oc z,hn];rfl
     rw[this]at h;cases h
   ·intro h;obtain⟨p,hp⟩:=vQ hl h;exact has_true_of_atKey (y:=lI (some p)) fun z=>by rw[hD x kl Oc z,hp];rfl
  exact⟨fun h=>(Oo (hC.2.1 x h)).1 h,fun h=>(Oo (hk x h)).2 h⟩
 have Ou:l.Nodup:=hp.nodup_iff.2 hC.1;refine vR ?_ hs (fun x=>(hp.mem_iff).trans (Ol x));refine(Om.and Ou).imp ?_;rintro a b ⟨h1,h2⟩
 rcases xt a b with h|h|h
 ·exact h
 ·exact absurd (zx h) h2
 ·exact absurd h h1
theorem Ig (w:an):(zeroValue 180).run Tryz.prog w= .ok (.pointer none) w:=by kernel_rfl
theorem FE {w:an}{mb:Nat}{ks:List LV}{ps:au}{i p:Nat}{q:LV}(h:il w mb ks ps)(hs:ks.Pairwise mh)(hk:uV q)(h1:ks[i]?=some q)(h2:ps[i]?=some p):
  (Instr.lookup 247 (.map (some mb)) (.agg #[.int .u64 q.1,ae q.2]) false).run Tryz.prog w= .ok (ag p) w:=by
 obtain⟨D,N2,_,hD⟩:=h;obtain⟨kl,Oc⟩:=JE hk;obtain⟨v,pl,Og,hR⟩:=N2.lookup AO Tryz.underlying247 (Ig w) (jk none) Oc;have e:=hD q kl Oc;rw[zD hs h1 h2]at e;simp only[LG]at e;unfold lI at e;rw[e]at hR;unfold kV at Og;rw[Og,mZ (o:=some p) hR];rfl
theorem FF (w:an)(v:Option Nat):Calls Tryz.prog 274 #[.map v] w fun e w'=>
  e= .returned (.func (.func 356) #[] #[ag w.heap.size])/\w'=w.alloc (ak #[.map v] 247):=by
 go_enter Tryz.func274,Tryz.ntmps274
 go_wp2;go_ret;exact⟨rfl,rfl⟩
def Bd (w:an)(v:Value)(ks:List LV)(ps:au):Prop:=
 (v= .map none/\ks= []/\ps= [])\/∃mb,v= .map (some mb)/\il w mb ks ps/\ks.length=ps.length/\(∀k∈ks,uV k)/\ks.Pairwise mh
theorem zE {w:an}{v:Value}{ks:List LV}{ps:au}(h:Bd w v ks ps)(hn:ks.length<=1099511627776):
  Calls Tryz.prog 273 #[.func (.func 356) #[] #[ag w.heap.size],.func (.func 275) #[] #[]] (w.alloc (ak #[v] 247))
   fun e w'=>∃v',e= .returned v'/\w'.ownsRow w.heap.size 386 2 v' ks.length (iV ks)/\aj w w':=by
 have Ok:aj w (w.alloc (ak #[v] 247)):=(Below.refl _ _).alloc (ay _) _;have hc:(w.alloc (ak #[v] 247)).cell? (ai w.heap.size 0)=some v:=(de.new w #[v] 247).cell 0
 rcases h with⟨rfl,rfl,rfl⟩|⟨mb,rfl,hm,hl,hk,hs⟩
 ·refine(zC _ w.heap.size 0 (fun ss=>ss= []) (by omega) (fun ss h=>by simp[h]) (zv (by simp) hc)).mono ?_;rintro e w' ⟨v',ss,l,rfl,rfl,hp,_,N3,hb⟩;obtain rfl:=hp.eq_nil;exact⟨v',rfl,ownsRow_base_a N3 (by simp),Ok.trans (hb.mono Ok.size)⟩
 ·obtain⟨D,N2,hsz,hD⟩:=hm
  have Oe:(w.alloc (ak #[.map (some mb)] 247)).ownsMap Tryz.prog 386 eU mb ks.length D:=by
   have Od:=N2.lt;obtain⟨es,clock,Ox,Ft,hs,hD⟩:=N2;exact⟨es,clock,(Below.heap_alloc _ _ _ Od).trans Ox,Ft,hs,hD⟩
  refine(zC _ w.heap.size (Go.Maps.size D) (fun ss=>nF D (fun _=>false) ss/\ss.length<=Go.Maps.size D) (by omega) (fun _ h=>h.2) (AY (by simp) hc Oe)).mono ?_;rintro e w' ⟨v',ss,l,rfl,⟨hC,_⟩,hp,Om,N3,hb⟩;obtain rfl:=If hD hl hk hs hC hp Om;exact⟨v',rfl,ownsRow_base_a N3 (by simp),Ok.trans (hb.mono Ok.size)⟩
def FH (w:an)(ps:au)(e:Ending)(w':an):Prop:=
 ∃v,e= .returned v/\w'.ownsRow w.heap.size 180 1 v ps.length (dV ps)/\aj w w'
theorem Ct:∀{ks:List LV} {i:Nat} {q:LV},ks[i]?=some q->(iV ks)[i*2]?=some (.int .u64 q.1)/\(iV ks)[i*2+1]?=some (ae q.2)
 | [],_,_,h=>by simp at h
 |k::ks,0,q,h=>by simp at h;subst h;simp[iV]
 |k::ks,i+1,q,h=>by
  have:=Ct (ks:=ks) (i:=i) (q:=q) (by simpa using h);have e1:(i+1)*2=i*2+1+1:=by omega
  rw[e1];simpa [iV]using this
theorem qM {w:an}{o:Option Nat}{ks:List LV}{ps:au}(h:Bd w (.map o) ks ps)(hn:ks.length<=1099511627776)(hlp:ks.length=ps.length):
  Calls Tryz.prog 198 #[.map o] w (FH w ps):=by
 obtain⟨i0,Oy,Oz,OA,OB⟩:=info_parts (show(Tryz.prog.info? 180).map (fun i=>(i.zero,i.size,i.bytes))=some (some (.pointer none),1,8)by kernel_rfl);go_enter Tryz.func198,Tryz.ntmps198
 go_wp2_with (first|(go_at_call 274;refine(FF w o).mono ?_;rintro e w' ⟨rfl,rfl⟩)|(go_at_call 273;refine(zE h hn).mono ?_;rintro e w1 ⟨v',rfl,N3,hb⟩;obtain⟨ad,n,c,rfl⟩:=df N3;obtain rfl:n=ks.length:=dR N3))
 go_loopw [3,5,10] (fun v _ i wr=>∃(k:Nat),k<=ks.length/\i=aa k/\wr.ownsRow w1.heap.size 180 1 v (ps.take k).length (dV (ps.take k))/\aj w1 wr) (fun _ _ i _=>ks.length-(intOf i).toNat)
 case atStart=>exact⟨0,aM _,rfl,aX _ _ _ _,Below.refl _ _⟩
 case round=>
  obtain⟨k,hk,rfl,N2,N8⟩:=hrel
  by_cases Od:k<ks.length
  ·obtain⟨q,hq⟩:=gx Od;obtain⟨p,hp⟩:=gx (l:=ps) (i:=k) (by omega);obtain⟨c0,c1⟩:=Ct hq;obtain⟨gf,rfl,_,Oh,N7⟩:=dE N3 (by omega);have t0:=N7 wr (N8.block gf Oh) _ _ c0;have t1:=N7 wr (N8.block gf Oh) _ _ c1;have Oa:ps.take (k+1)=ps.take k++ [p]:=by rw[bu,hp];rfl
   have hlook:(Instr.lookup 247 (.map o) (.agg #[.int .u64 q.1,ae q.2]) false).run Tryz.prog (wr.alloc (ak #[.int .u64 q.1,ae q.2] 386))= .ok (ag p) (wr.alloc (ak #[.int .u64 q.1,ae q.2] 386)):=by
    rcases h with⟨_,rfl,_⟩|⟨mb,e,Ot,hl,OC,hs⟩
    ·simp at hq
    ·cases e
     have Ob:=Ot.lt;have Ov:(wr.alloc (ak #[.int .u64 q.1,ae q.2] 386)).heap[mb]?=w.heap[mb]?:=(Below.heap_alloc _ _ _ (aC (aC Ob hb.size) N8.size)).trans ((N8.block mb (aC Ob hb.size)).trans (hb.block mb Ob));exact FE (Ot.keep Ov) hs (OC q (aI hq)) hq hp
   have Ow:(ps.take k).length<=1099511627776:=by rw[be];omega
   have Oq:Hid (ps.take (k+1)=ps.take k++ [p]):=Oa;have Of:=cell_one_new (wr.alloc (ak #[.int .u64 q.1,ae q.2] 386)) (ag p) 180;rw[bV]at Of;clear N7 Oa;generalize ps.take k=L at N2 Ow Oq;go_wp2_with (first|(at_builtin;refine wpList_append_own_at _ rfl _ _ 245 rfl w1.heap.size 180 i0 _ 1 8 Tryz.underlying245 Oy Oz OA OB rfl (by decide) u3 _ _ rfl ((N2.alloc _).alloc _) _ 1 1 [_] rfl rfl Of ?h1 ?h63 ?hby ?hba ?_;rotate_right;intro v' w5 Oi Oj hnil hloc))
   case h1=>intro u hu;simp at hu;subst hu;rfl
   case h63=>unfold maxLen;omega
   case hby=>omega
   case hba=>have:=N8.size;simp;omega
   refine⟨⟨k+1,by omega,by go_num,?_,?_⟩,by simp[intOf];omega⟩
   ·rw[Oq.out];simpa [dV,ft]using Oi
   ·exact((N8.alloc N8.size _).alloc (by have:=N8.size;simp;omega) _).grown Oj (by have:=N8.size;simp;omega) (fun j hj=>(N2.lt j hj).1)
  ·have hli:decide ((k:Int)<(ks.length:Int))=false:=by simp;omega
   obtain rfl:k=ks.length:=by omega
   rw[hlp,aY]at N2;go_wp2;go_ret;exact⟨_,rfl,ownsRow_base_a N2 hb.size,hb.trans (N8.mono hb.size)⟩
end
end Go.Proofs.YtfebdimolnobaaaGreatDoor
