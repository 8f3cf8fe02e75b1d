import Derived.Test.YtfebdimolnobaaaGreatDoorWkF
import Derived.Shelf.SlIter.Collect
import Derived.Deep.RegionHeld2
import Derived.Laws.EntriesVeiled
set_option maxRecDepth 100000
set_option maxHeartbeats 8000000
set_option linter.all false
namespace Go.Proofs.YtfebdimolnobaaaGreatDoor
open Go.RowKit Go.Proofs.Tryz
section
open Go.Maps Go.Sort
def Ly:WideMaps.KeyLaw prog 386:=deep_law (m:=2) Vc Vh Vh Vh
def Lz {a b:LV}(h:kV a=kV b):a=b:=by
 unfold kV at h;simp only[Value.agg.injEq,Array.mk.injEq,List.cons.injEq,Value.int.injEq,true_and,Value.string.injEq,and_true]at h;exact cW h.1 h.2
def D5 {v:Value}{kl:Lit}(h:Go.keyOf prog 386 v=some kl):∃k:LV,v=kV k/\zU k:=by
 obtain⟨xs,L,rfl,h1,_⟩:=keyOf_top Vh h;have hb:Nat.ble 1 prog.types.size=true:=Vh;have hb2:=Nat.le_of_ble_eq_true hb;obtain⟨N,hN⟩:∃N,prog.types.size+1=N+1+1:=⟨prog.types.size-1,Vc⟩;rw[hN]at h1;obtain⟨l⟩:=xs
 have hl:l.length=2:=by
  simp only[Program.keyLits,underlying386,FJ]at h1;split at h1;.rename_i q;exact q.1
  .cases h1
 obtain⟨c0,c1,rfl⟩:∃c0 c1,l= [c0,c1]:=by
  match l,hl with
  | [c0,c1],_=>exact⟨c0,c1,rfl⟩
 .simp[Program.keyLits,underlying386,FJ,Li,DO,underlying53,underlying9]at h1
  cases c0 with
  |int q n=>
   simp only at h1;by_cases hq:q= .u64/\(Lit.int .u64 n).wf=true
   .rw[dP hq]at h1
    cases c1 with
    |string t=>
     simp only[Option.bind_some,Function.comp]at h1;by_cases hs:t.size<=maxLen;.obtain⟨rfl,h2⟩:=hq;have VD:(decide (0<=n)&&decide (n<=18446744073709551615))=true:=h2;simp only[aQ,dQ]at VD;exact⟨(n,t),rfl,⟨VD.1,by show n<_;omega,hs⟩⟩
     .rw[dO hs]at h1
      simp at h1
    |_=>simp at h1
   .rw[dO hq]at h1
    simp at h1
  |_=>simp at h1
def qx (D0:DataW Unit)(left:Lit->Bool)(ss:List LV):Prop:=ss.Nodup/\(∀k∈ss,zU k)/\∀(k:LV) kl,Go.keyOf prog 386 (kV k)=some kl->(k∈ss<->(has D0 kl=true/\left kl=false))
def qx.start (D0:DataW Unit):qx D0 (has D0) []:=⟨List.nodup_nil,Vd,λk kl _=>by cases has D0 kl<;>simp⟩
def qx.step {D0:DataW Unit}{left:Lit->Bool}{ss:List LV}(h:qx D0 left ss){x:LV}{kl:Lit}{y:DataW Unit}(hx:zU x)(hk:Go.keyOf prog 386 (kV x)=some kl)(VA:left kl=true)(VB:∀zd,D0.atKey kl zd=y):qx D0 (λz=>left z&& !z.sameKey kl) (ss++ [x]):=by
 have Vv:has D0 kl=true:=has_true_of_atKey VB;have Vw:x∉ss:=λq=>by have:=((h.2.2 x kl hk).1 q).2;rw[VA]at this;cases this
 refine⟨dK.2 ⟨h.1,Vd,λa ha b hb=>by simp at hb;subst hb;exact λe=>Vw (e▸ha)⟩,λk hk=>by
  rcases aW.1 hk with hk|hk;.exact h.2.1 k hk
  .simp at hk;subst hk;exact hx,λk kl' Vs=> ?_⟩
 obtain⟨s,rfl⟩:=Ly.str hk;obtain⟨s',rfl⟩:=Ly.str Vs;by_cases e:k=x;.subst e;rw[hk]at Vs;cases Vs;simp[Vv,Lit.sameKey]
 .have VF:s'≠s:=λq=>by
   subst q;exact e (Lz (Ly.inj Vs hk))
  simp[h.2.2 k _ Vs,e,Lit.sameKey,VF]
def Cf {v:Value}{y:DataW Unit×List MemPlace}(h:gL v=some y):∃o:Option Nat,v=gZ o:=by
 unfold gL at h;split at h;.exact⟨none,rfl⟩
 .rename_i b;exact⟨some b,rfl⟩
 .cases h
def LA (F:Fence)(n:Nat)(hF:∀f,F.fn f)(Vp:F.round=none)(hn:1<=n)(l Bm b nn:Nat)(D0:DataW Unit)(J:List LV->aw->Prop)
  (hY:∀pre x W,J pre W->pre.length<Go.Maps.size D0->YieldAt F (n-1) prog l #[kV x] W λe W'=>e= .returned (.bool true)/\J (pre++ [x]) W'/\KeepsWalks W W')
  (W:aw) (hJ:AbidesFrom W.heap.size J) (hm:W.cell? (aj Bm 0)=some (.map (some b))) (hown:W.ownsMap prog 386 gL b nn D0) (h0:J [] W):
  CallsIn F n prog 356 #[.func (.yield l) #[] #[],ah Bm] W λe W'=>(∃v,e= .returned v)/\∃ss:List LV,(qx D0 (λ_=>false) ss/\ss.length<=Go.Maps.size D0)/\J ss W':=by
 refine callsIn_of_wp func356 rfl (hF _) ?_ Vp;simp only[ntmps356,dM,bw,df,Nat.reduceAdd,Nat.reduceSub,dw,dx,dN,dD,aX,bo]
 gi_wp2_with (first
  |(gi_at_range;refine wpListIn_range_own _ rfl _ 247 rfl 386 180 FH underlying247 _ b nn _ rfl hown ?_;intro w0 Vy VI hs0)
  |gi_in)
 go_frame
 gi_loopw [3] (λ_ wr=>∃(left:Lit->Bool) (cnt:Nat) (ss:List LV),wr.ranges prog 386 gL b W.heap.size nn D0 left cnt/\ss.length+cnt<=Go.Maps.size D0/\qx D0 left ss/\J ss wr) (λ_ wr=>wr.rangeLeft b W.heap.size)
 case atStart=>exact⟨_,_,[],Vy,Vd,qx.start D0,hJ [] W w0 none h0 VI (λr e=>by cases e)⟩
 case round=>
  obtain⟨left,cnt,ss,Vu,hcs,hC,VE⟩:=hrel
  gi_wp2_with (first
   |(gi_at_next;refine wpListIn_next_ranges _ rfl _ rfl 386 FH gL kV gZ (λkey kl hk=>by obtain⟨k,rfl,_⟩:=D5 hk;exact⟨k,rfl⟩) (λv y hv=>by obtain⟨o,rfl⟩:=Cf hv;exact⟨o,rfl⟩) b W.heap.size nn _ _ _ rfl Vu ?_ ?_)
   |gi_in)
  .intro hc0 VJ
   gi_wp2
   go_end0;have hz:left=λ_=>false:=funext VJ
   subst hz;exact⟨⟨_,rfl⟩,ss,⟨hC,Vc⟩,VE⟩
  .intro x1 x2 c kl yd yp w2 Vz Vt VA hv VB VC VK VL VM VN;have⟨x',ex,VO⟩:=D5 Vt;obtain rfl:=Lz ex;have VG:J ss w2:=hJ ss wr w2 (some W.heap.size) VE VL (λr e=>by cases e;exact⟨aE _,Vu.iter_walk⟩);have Vx:J ss (w2.alloc (am #[.int .u64 x1,ag x2] 386)):=hJ ss w2 _ none VG (World.grownBy_alloc w2 _ none) (λr e=>by cases e);have⟨fn,tmps,assign,body,hy,hR⟩:=hY ss ((x1,x2):LV) _ Vx Vc;unfold kV at VN hy;clear VM
   gi_wp2
   refine hR.mono ?_;rintro e W3 ⟨rfl,Vx,VP⟩
   gi_wp2
   have Vq:=VC.of_walks ((KeepsWalks.alloc _ _).trans VP);go_roundw
   case rel=>exact⟨_,Vz,ss++ [(x1,x2)],Vq,Ve,hC.step VO Vt VA VB,Vx⟩
   case measure=>rw[Vq.left_eq,Vu.left_eq];exact VK
def LB (F:Fence)(n:Nat)(hF:∀f,F.fn f)(Vp:F.round=none)(l Bm:Nat)(J:List LV->aw->Prop)(W:aw)(hJ:AbidesFrom W.heap.size J)
  (hm:W.cell? (aj Bm 0)=some (.map none)) (h0:J [] W):
  CallsIn F n prog 356 #[.func (.yield l) #[] #[],ah Bm] W λe W'=>(∃v,e= .returned v)/\∃ss:List LV,ss= []/\J ss W':=by
 refine callsIn_of_wp func356 rfl (hF _) ?_ Vp;simp only[ntmps356,dM,bw,df,Nat.reduceAdd,Nat.reduceSub,dw,dx,dN,dD,aX,bo];have Vu:=run_range_nilMap (P:=prog) W 247 386 180 underlying247;have hnx:∀ty,(Instr.next (ah W.heap.size) false ty).run prog (W.alloc (.mapIter none 0 #[] 0))=_:=λty=>run_next_nilMap _ ty 0 0 #[]
 gi_wp2
 refine wpIn_loop_rounds 1 ?_;rw[roundsIn_succ]
 gi_wp2
 go_end0;exact⟨⟨_,rfl⟩,[],rfl,hJ [] W _ none h0 (World.grownBy_alloc W _ none) (λr e=>by cases e)⟩
def FV (w:aw)(Bm:Nat)(S:List LV->Prop)(N:Nat):Prop:=∀(F:Fence) (n:Nat),(∀f,F.fn f)->F.round=none->1<=n->SeqGives F n prog 356 #[ah Bm] kV S N w
def FX {w:aw}{Bm b nn:Nat}{D0:DataW Unit}(hBm:Bm<w.heap.size)(hm:w.cell? (aj Bm 0)=some (.map (some b)))(hown:w.ownsMap prog 386 gL b nn D0):
  FV w Bm (λss=>qx D0 (λ_=>false) ss/\ss.length<=Go.Maps.size D0) (Go.Maps.size D0):=λF n hF Vp hn l J W hW hJ hY h0=>by
 have Vr:W.ownsMap prog 386 gL b nn D0:=(by have VH:=hown.lt;obtain⟨es,clock,hb,Ft,hs,hD⟩:=hown;exact⟨es,clock,(hW.block b VH).trans hb,Ft,hs,hD⟩);exact LA F n hF Vp hn l Bm b nn D0 J hY W hJ ((hW.cell (p:=(aj Bm 0)) hBm).trans hm) Vr h0
def D6 {w:aw}{Bm:Nat}(hBm:Bm<w.heap.size)(hm:w.cell? (aj Bm 0)=some (.map none)):FV w Bm (λss=>ss= []) 0:=
 λF n hF Vp _ l J W hW hJ _ h0=>LB F n hF Vp l Bm J W hJ ((hW.cell (p:=(aj Bm 0)) hBm).trans hm) h0
def Sw:(prog.info? 386).map (λi=>(i.zero,i.size,i.bytes))=some (some (.agg #[.int .u64 0,U7]),2,24):=Vh
def ly:List LV->ay
 | []=> []
 |k::ks=> .int .u64 k.1::ag k.2::ly ks
def vD:∀(a b:List LV),ly (a++b)=ly a++ly b
 | [],b=>rfl
 |k::a,b=>by simp[ly,vD a b]
def kT:∀a:List LV,(ly a).length=2*a.length
 | []=>rfl
 |k::a=>by simp[ly,kT a];omega
def yo:Code:=(Code.region 2 #[{dst:=some 5,op:=Op.alloc 386,type:=0,pos:= "iter.go:51",after:= #[],guard:=none},{dst:=none,op:=Op.store 386 (Operand.tmp 5) (Operand.tmp 7),type:=0,pos:= "iter.go:51",after:= #[{on:=0,ground:=Ground.data},{on:=0,ground:=Ground.phase}],guard:=none}] false)
def FY:Code:=(Code.block 1 (Code.region 3 #[{dst:=some 8,op:=Op.load 389 (Operand.tmp 2),type:=389,pos:= "iter.go:52",after:= #[],guard:=none},{dst:=some 9,op:=Op.load 386 (Operand.tmp 5),type:=386,pos:= "iter.go:52",after:= #[],guard:=none},{dst:=some 10,op:=Op.buildSlice 389 1 #[(0,Operand.tmp 9)],type:=389,pos:= "iter.go:52",after:= #[{on:=1,ground:=Ground.data}],guard:=none},{dst:=some 11,op:=Op.call {callee:=Callee.builtin Builtin.append,args:= #[Operand.tmp 8,Operand.tmp 10],argTypes:= #[389,389]},type:=389,pos:= "iter.go:52",after:= #[{on:=0,ground:=Ground.data},{on:=2,ground:=Ground.data}],guard:=none},{dst:=none,op:=Op.store 389 (Operand.tmp 2) (Operand.tmp 11),type:=0,pos:= "iter.go:52",after:= #[{on:=3,ground:=Ground.data},{on:=3,ground:=Ground.chain},{on:=0,ground:=Ground.phase},{on:=1,ground:=Ground.phase},{on:=2,ground:=Ground.phase},{on:=3,ground:=Ground.phase}],guard:=none}] false))
def qy (fn:FuncId)(sv:Value)(Bs D:Nat)(st:LoopState)(pend:Option Code):Loop:=
 {state:=st,pending:=pend,fn,tmps:= #[ai,sv,ah Bs,undef,ai,undef,sv,undef,undef,undef,undef,undef,undef],params:= #[7],assign:=yo,body:=FY,defers:=D}
structure I4 (w0:aw)(fn:FuncId)(sv:Value)(Bs l D:Nat)(ss:List LV)(W:aw):Prop where
 box:∃v,W.heap[Bs]?=some (.cells #[v] 389 (0,0))/\W.ownsRow w0.heap.size 386 2 v ss.length (ly ss)
 L:W.heap[l]?=some (.loop (qy fn sv Bs D .ready none))
 K:W.heap[D]?=some (.deferred (some []))
 below:ak w0 W
def AE (w0:aw)(fn:FuncId)(sv:Value)(Bs l D B:Nat)(hB:w0.heap.size<=B):AbidesFrom B (I4 w0 fn sv Bs l D):=λs W W' row h hg Vp=>by
 have Vr:∀r,row=some r->∃o:Obj,W.heap[r]?=some o/\o.isWalk=true:=λr e=>(Vp r e).2
 have⟨v,hv,hr⟩:=h.box
 exact⟨⟨v,(grownBy_keeps hg Vr hv rfl).trans hv,ownsRow_abides_a hr hg Vr⟩,(grownBy_keeps hg Vr h.L rfl).trans h.L,(grownBy_keeps hg Vr h.K rfl).trans h.K,
  h.below.grown hg h.below.size (λk e=>aM hB (Vp k e).1)⟩
def OA (F:Fence)(m:Nat)(w0:aw)(fn:FuncId)(VU:F.fn fn)(sv:Value)(Bs l D:Nat)(hBl:Bs≠l)(hDl:D≠l)(hDB:D≠Bs)(h0B:w0.heap.size<=Bs)(h0l:w0.heap.size<=l)
  (N:Nat) (hN:N<=maxLen) (hNb:N*24<=2^47) (ss:List LV) (x:LV) (W:aw) (h:I4 w0 fn sv Bs l D ss W) (hlen:ss.length<N):
  YieldAt F m prog l #[kV x] W λe W'=>e= .returned (.bool true)/\I4 w0 fn sv Bs l D (ss++ [x]) W'/\KeepsWalks W W':=by
 have⟨i0,hi,Wl,Wm,Wn⟩:=info_parts Sw;obtain⟨x1,x2⟩:=x;refine⟨fn,#[ai,sv,ah Bs,undef,ai,undef,sv,kV (x1,x2),undef,undef,undef,undef,undef],yo,FY,by simpa [qy]using run_yield (P:=prog) (args:= #[kV (x1,x2)]) h.L rfl,roundIn_of_wpIn VU ?_⟩;have hlW:l<W.heap.size:=(bI.1 h.L).1;have hA:I4 w0 fn sv Bs l D ss (W.alloc (.cells #[.int .u64 x1,ag x2] 386)):=AE w0 fn sv Bs l D w0.heap.size (aE _) ss W _ none h (World.grownBy_alloc W _ none) (λr e=>by cases e);have VV:KeepsWalks W (W.alloc (.cells #[.int .u64 x1,ag x2] 386)):=KeepsWalks.alloc _ _;have VW:(W.alloc (.cells #[.int .u64 x1,ag x2] 386)).heap[W.heap.size]?=some (.cells #[.int .u64 x1,ag x2] 386 (0,0)):=World.alloc_heap_new _ _;unfold yo kV
 gi_wp2_with (rw[Oper.semAt_eq _ _ _ (λc h=>by cases h)];go_simp;try go_bits)
 generalize W.alloc (.cells #[.int .u64 x1,ag x2] 386)=Wa at hA VV VW⊢;have⟨v,hv,Vp⟩:=hA.box;have hl:l<Wa.heap.size:=(bI.1 hA.L).1;obtain⟨W2,VA⟩:∃W2,Wa.putObj l (.loop {qy fn sv Bs D .ready none with state:= .busy})=W2:=⟨_,rfl⟩;have VX:=run_beginRound (P:=prog) hA.L rfl;rw[VA]at VX;have VY:Wa.grownBy W2 (some l):=by rw[<-VA];exact grownBy_putObj_a _ _ _
 have V8:KeepsWalks W W2:=by rw[<-VA];exact VV.trans (KeepsWalks.putObj _ hA.L rfl)
 have VJ:W2.heap[Bs]?=some (.cells #[v] 389 (0,0)):=by rw[<-VA];exact(World.putObj_heap_other hBl).trans hv
 have VO:W2.heap[D]?=some (.deferred (some [])):=by rw[<-VA];exact(World.putObj_heap_other hDl).trans hA.K
 have VP:W2.heap[l]?=some (.loop {qy fn sv Bs D .ready none with state:= .busy}):=by rw[<-VA];exact World.putObj_heap_same hl
 have VZ:W2.heap[W.heap.size]?=some (.cells #[.int .u64 x1,ag x2] 386 (0,0)):=by rw[<-VA];exact(World.putObj_heap_other Vc).trans VW
 have Vs:W2.ownsRow w0.heap.size 386 2 v ss.length (ly ss):=Vp.kept VY (ownsRow_ne_a Vp hA.L (λVw e=>by cases e));have VK:ak w0 W2:=hA.below.grown VY hA.below.size (λk e=>by grind);clear VA;have hnc0:W2.cell? (aj W.heap.size 0)=some (.int .u64 x1):=by simp[World.cell?,VZ]
 have hnc1:W2.cell? (aj W.heap.size 1)=some (ag x2):=by simp[World.cell?,VZ]
 have⟨hc2,hf2⟩:=cell_of_box_a VJ;have VQ:Bs<W2.heap.size:=(bI.1 VJ).1;have V9:l<W2.heap.size:=(bI.1 VP).1;have VR:D<W2.heap.size:=(bI.1 VO).1
 have Vt:∀{j:Nat} {o:Obj},W2.heap[j]?=some o->(∀Vw,o≠ .cells Vw 386 (0,0))->some j≠v.ownBlock:=λhj Wo=>by
  rcases ownsRow_ne_a Vs hj Wo with e|e;.grind
  grind
 refine⟨W2,VX,?_⟩;unfold FY
 gi_wp2_with (first
  |(
    gi_at_builtin;refine wpListIn_append_own _ rfl _ _ 389 rfl w0.heap.size 386 i0 (.agg #[.int .u64 0,U7]) 2 24 underlying389 hi Wl Wm Wn rfl Vf _ _ _ rfl (Vs.alloc _) (aj W2.heap.size 0) 1 1 [.int .u64 x1,ag x2] rfl rfl (mP _ _ _ _) Vk Vc Vc (by have:=VK.size;simp;omega) ?_;intro v' w3 Vu VG hnil3
    have VC:w3.heap[Bs]?=some (.cells #[v] 389 (0,0)):=(VG.block Bs Ve (Vt VJ (λVw e=>by cases e))).trans ((Below.l _ _ Bs VQ).trans VJ);have⟨Wp,Wq⟩:=cell_of_box_a VC;obtain⟨g',Vq,Vx,rfl,hbase',hgb',hr1,hr2,hr3,hr4⟩:∃g' Vq Vx,v'= U9 g' (ss.length+1) Vq/\w0.heap.size<=g'/\w3.heap[g']?=some (.cells Vx 386 (0,0))/\ss.length+1<=Vq/\Vq<=maxLen/\Vx.size=Vq*2/\Vx.toList.take ((ss.length+1)*2)=ly ss++ [.int .u64 x1,ag x2]:=Vu.2.elim (λq=>absurd q.2 Vc) id
    go_frame)
  |(rw[Oper.semAt_eq _ _ _ (λc h=>by cases h)];go_simp;try go_bits))
 have Vv:(W2.alloc (.cells #[.int .u64 x1,ag x2] 386)).grownBy w3 v.ownBlock:=VG;have V0:w3.heap[l]?=some (.loop {qy fn sv Bs D .ready none with state:= .busy}):=(Vv.block l Ve (Vt VP (λVw e=>by cases e))).trans ((Below.l _ _ l V9).trans VP);have VD:w3.heap[D]?=some (.deferred (some [])):=(Vv.block D Ve (Vt VO (λVw e=>by cases e))).trans ((Below.l _ _ D VR).trans VO);obtain⟨w4,VH⟩:=Y9 (w3.setCell (aj Bs 0) (U9 g' (ss.length+1) Vq));rw[VH];have VL:w3.grownBy w4 (some Bs):=by rw[<-VH];exact grownBy_setCell0_a _ _ _
 have Wb:w4.heap[Bs]?=some (.cells #[U9 g' (ss.length+1) Vq] 389 (0,0)):=by rw[<-VH];exact heap_setCell_box_a _ VC
 have VM:w4.heap[l]?=some (.loop {qy fn sv Bs D .ready none with state:= .busy}):=(VL.block l (bI.1 V0).1 (λe=>hBl (by grind))).trans V0;have Wd:w4.heap[D]?=some (.deferred (some [])):=(VL.block D (bI.1 VD).1 (λe=>hDB (by grind))).trans VD;have Vy:=Vu.kept VL (ownsRow_ne_a Vu VC (λVw e=>by cases e));have We:l<w4.heap.size:=(bI.1 VM).1;have VE:ak w0 w3:=(VK.alloc VK.size _).grown Vv (by have:=VK.size;simp;omega) (λk e=>(Vs.lt k e).1);have V7:ak w0 w4:=VE.grown VL VE.size (λk e=>by grind);have Wf:KeepsWalks W w4:=((V8.trans (KeepsWalks.alloc _ _)).trans (KeepsWalks.of_grownBy Vv (ownsRow_not_walk_a (Vs.alloc _)))).trans (by rw[<-VH];exact KeepsWalks.setCell _ _ _);clear VH;refine⟨_,_,run_endRound none VM,rfl,⟨⟨_,(World.putObj_heap_other hBl).trans Wb,?_⟩,World.putObj_heap_same We,(World.putObj_heap_other hDl).trans Wd,V7.grown (grownBy_putObj_a _ _ _) V7.size (λk e=>by grind)⟩,Wf.trans (KeepsWalks.putObj _ VM rfl)⟩;have:=Vy.kept (grownBy_putObj_a w4 l (.loop {{qy fn sv Bs D .ready none with state:= .busy}with state:=if(none:Option Code).isNone then .ready else .done,pending:=none})) (ownsRow_ne_a Vy VM (λVw e=>by cases e));simpa [vD,ly]using this
def FZ (F:Fence)(n:Nat)(hF:∀f,F.fn f)(hro:F.round=none)(hn:2<=n)(g:Nat)(lb:aq)(eg:∀args w,(callFunc g args).run prog w= .ok (.enter g args) w)
  (S:List LV->Prop) (N:Nat) (hN:N<=maxLen) (hNb:N*24<=2^47) (w:aw) (hseq:SeqGives F (n-1) prog g lb kV S N w):
  CallsIn F n prog 407 #[ai,.func (.func g) #[] lb] w λe w'=>∃(v:Value) (ss:List LV),e= .returned v/\S ss/\w'.ownsRow w.heap.size 386 2 v ss.length (ly ss)/\ak w w':=by
 have h1:1<=n:=Vc;refine callsIn_of_wp_marks func407 rfl (hF _) ?_ hro;simp only[ntmps407,dM,bw,df,Nat.reduceAdd,Nat.reduceSub,dw,dx,dN,dD,aX,bo]
 gi_wp2
 refine wpIn_rangeFunc ?_;intro fn VU;rw[hro];obtain⟨W0,VN⟩:=Y9 (w.alloc (.cells #[ai] 389));have Wh:W0.heap.size=w.heap.size+1:=by rw[<-VN];simp
 have Wk:W0.heap[w.heap.size]?=some (.cells #[ai] 389 (0,0)):=by rw[<-VN];exact World.alloc_heap_new w _
 have VS:ak w W0:=by rw[<-VN];exact(Below.refl _ w).alloc (aE _) _
 rw[VN];obtain⟨W1,VB⟩:=Y9 ((W0.alloc (.deferred (some []))).alloc (.loop (qy fn (.func (.func g) #[] lb) w.heap.size W0.heap.size .ready none)))
 have hold:∀k,k<W0.heap.size->W1.heap[k]?=W0.heap[k]?:=λk hk=>by
  rw[<-VB];exact(Below.l _ _ k Ve).trans (Below.l _ _ k hk)
 have VT:ak w W1:=by rw[<-VB];exact(VS.alloc VS.size _).alloc (by have:=VS.size;simp;omega) _
 have hs1:W1.heap.size=W0.heap.size+2:=by rw[<-VB];simp
 have hM:I4 w fn (.func (.func g) #[] lb) w.heap.size (W0.heap.size+1) W0.heap.size [] W1:=
  ⟨⟨_,(hold w.heap.size Vc).trans Wk,⟨rfl,.inl ⟨rfl,rfl⟩⟩⟩, by rw[<-VB];have:=World.alloc_heap_new (W0.alloc (.deferred (some []))) (.loop (qy fn (.func (.func g) #[] lb) w.heap.size W0.heap.size .ready none));rwa [ci]at this, by rw[<-VB];exact(Below.l _ _ _ Vd).trans (World.alloc_heap_new W0 _),VT⟩
 refine⟨W0.heap.size+1,[{target:= .collected W0.heap.size,args:= #[]}],W1,{target:= .fn (.func g) lb,args:= #[.func (.yield (W0.heap.size+1)) #[] #[]]},W1,g,
  #[.func (.yield (W0.heap.size+1)) #[] #[]]++lb,W1,?_,?_,?_,?_,λ_=>h1,?_⟩
 .rw[<-VB];exact run_enterLoop_outer _ _ _ _ _
 .simp[resolve,go_sem]
 .grind
 .simp[invoke,go_sem,eg]
 .refine(hseq (W0.heap.size+1) (I4 w fn (.func (.func g) #[] lb) w.heap.size (W0.heap.size+1) W0.heap.size) W1 VT (AE _ _ _ _ _ _ _ VT.size)
   (λpre x W hJ hl=>OA F (n-1-1) w fn VU _ w.heap.size (W0.heap.size+1) W0.heap.size Vc Vc Vc (aE _) Vc N hN hNb pre x W hJ hl) hM).mono ?_
  rintro e W2 ⟨⟨v0,rfl⟩,ss,hS,h2⟩;have⟨v,hv,Vp⟩:=h2.box;have VF:=run_endLoop (P:=prog) h2.L (by simp[qy]);obtain⟨W3,VI⟩:∃W3,W2.putObj (W0.heap.size+1) (.loop {qy fn (.func (.func g) #[] lb) w.heap.size W0.heap.size .ready none with state:= .exhausted})=W3:=⟨_,rfl⟩;rw[VI]at VF;have VG:W2.grownBy W3 (some (W0.heap.size+1)):=by rw[<-VI];exact grownBy_putObj_a _ _ _
  have VC:W3.heap[w.heap.size]?=some (.cells #[v] 389 (0,0)):=by rw[<-VI];exact(World.putObj_heap_other Vc).trans hv
  have VD:W3.heap[W0.heap.size]?=some (.deferred (some [])):=by rw[<-VI];exact(World.putObj_heap_other Vc).trans h2.K
  have Vz:=Vp.kept VG (ownsRow_ne_a Vp h2.L (λVw e=>by cases e));have VE:ak w W3:=h2.below.grown VG h2.below.size (λk e=>by grind);have⟨Wp,Wq⟩:=cell_of_box_a VC;clear VI;refine⟨none,W3,VF,?_⟩
  gi_wp2
  rw[<-Wh];refine⟨Vd,.inl ⟨_,_,rfl,run_takeDeferred VD,?_⟩⟩;exact⟨_,results_tmp rfl _ _ _,v,ss,rfl,hS,Vz.kept (grownBy_putObj_a _ _ _) (ownsRow_ne_a Vz VD (λVw e=>by cases e)),VE.grown (grownBy_putObj_a _ _ _) VE.size (λk e=>by grind)⟩
def LC (F:Fence)(n:Nat)(hF:∀f,F.fn f)(hro:F.round=none)(hn:3<=n)(g:Nat)(lb:aq)(eg:∀args w,(callFunc g args).run prog w= .ok (.enter g args) w)
  (S:List LV->Prop) (N:Nat) (hN:N<=maxLen) (hNb:N*24<=2^47) (w:aw) (hseq:SeqGives F (n-1-1) prog g lb kV S N w):
  CallsIn F n prog 354 #[.func (.func g) #[] lb] w λe w'=>∃(v:Value) (ss:List LV),e= .returned v/\S ss/\w'.ownsRow w.heap.size 386 2 v ss.length (ly ss)/\ak w w':=by
 have h1:1<=n:=Vc;refine callsIn_of_wp func354 rfl (hF _) ?_ hro;simp only[ntmps354,dM,bw,df,Nat.reduceAdd,Nat.reduceSub,dw,dx,dN,dD,aX,bo]
 gi_wp2
 refine(FZ F (n-1) hF hro Vc g lb eg S N hN hNb _ hseq).mono ?_;rintro e w' ⟨v,ss,rfl,hS,Vp,hb⟩
 gi_wp2
 go_ret;exact⟨v,ss,rfl,hS,Vp,hb⟩
end
section
open Go.Maps Go.Sort
open Vo
def yq (x:Int)(w:aw):Calls prog 409 #[.int .u64 x] w λe w'=>e= .returned (.bool false)/\w'=w:=by
 go_in
 go_wp2;go_ret;exact⟨rfl,rfl⟩
def yr (x:au)(w:aw):Calls prog 410 #[ag x] w λe w'=>e= .returned (.bool false)/\w'=w:=by
 go_in
 go_wp2;go_ret;exact⟨rfl,rfl⟩
def LD (x y:au):Int:=if Op.bytesLess x.toList y.toList then-1 else if x.toList==y.toList then 0 else 1
def F0 (x y:Int)(w:aw):Calls prog 358 #[.int .u64 x,.int .u64 y] w λe w'=>e= .returned (aa (lu x y))/\w'=w:=by
 unfold lu;by_cases h:x<y
 .rw[dP h];go_in
  go_wp2_with (first|(go_at_call 409;refine(yq _ _).V ?_;rintro e w' ⟨rfl,rfl⟩))
  go_ret;exact⟨rfl,rfl⟩
 .have hd:decide (x<y)=false:=by simp[h]
  rw[dO h];by_cases h2:y<x
  .rw[dP h2];go_in
   go_wp2_with (first|(go_at_call 409;refine(yq _ _).V ?_;rintro e w' ⟨rfl,rfl⟩))
   go_ret;exact⟨rfl,rfl⟩
  .have hd2:decide (y<x)=false:=by simp[h2]
   rw[dO h2];go_in
   go_wp2_with (first|(go_at_call 409;refine(yq _ _).V ?_;rintro e w' ⟨rfl,rfl⟩))
   go_ret;exact⟨rfl,rfl⟩
def F4 (x y:au)(w:aw):Calls prog 359 #[ag x,ag y] w λe w'=>e= .returned (aa (LD x y))/\w'=w:=by
 unfold LD
 cases h:Op.bytesLess x.toList y.toList with
 |true=>
  rw[dP rfl];go_in
  go_wp2_with (first|(go_at_call 410;refine(yr _ _).V ?_;rintro e w' ⟨rfl,rfl⟩))
  go_ret
  exact⟨rfl,rfl⟩
 |false=>
  rw[dO Vf]
  cases h2:x.toList==y.toList with
  |true=>
   rw[dP rfl];go_in
   go_wp2_with (first|(go_at_call 410;refine(yr _ _).V ?_;rintro e w' ⟨rfl,rfl⟩))
   go_ret
   exact⟨rfl,rfl⟩
  |false=>
   rw[dO Vf];go_in
   go_wp2_with (first|(go_at_call 410;refine(yr _ _).V ?_;rintro e w' ⟨rfl,rfl⟩))
   go_ret;exact⟨rfl,rfl⟩
def Tg (x y:Int):Int:=if x=0 then y else x
def Ty (x y:Int)(b:Nat)(w:aw)(h0:w.cell? (aj b 0)=some (aa x))(h1:w.cell? (aj b 1)=some (aa y)):
  Calls prog 357 #[U9 b 2 2] w λe w'=>e= .returned (aa (Tg x y))/\w'=w:=by
 unfold Tg;by_cases hx:x=0
 .rw[dP hx];subst hx;by_cases hy:y=0
  .subst hy;go_in
   go_wp2;refine wp_loop_rounds 3 ?_;rw[rounds_succ];go_wp2;rw[rounds_succ];go_wp2;rw[rounds_succ];go_wp2;go_ret;exact⟨rfl,rfl⟩
  .go_in
   go_wp2;refine wp_loop_rounds 2 ?_;rw[rounds_succ];go_wp2;rw[rounds_succ];go_wp2;go_ret;exact⟨rfl,rfl⟩
 .rw[dO hx];go_in
  go_wp2;refine wp_loop_rounds 1 ?_;rw[rounds_succ];go_wp2;go_ret;exact⟨rfl,rfl⟩
def yt (x y:LV):Int:=Tg (lu x.1 y.1) (LD x.2 y.2)
def yv (x y:LV)(w:aw):Calls prog 275 #[kV x,kV y] w λe w'=>e= .returned (aa (yt x y))/\∃q os,w'=grow (w.drewN q) os:=by
 obtain⟨x1,x2⟩:=x;obtain⟨y1,y2⟩:=y;unfold kV;go_in
 have hc:∀(o1 o2:Obj) (v0 v1:Value),(((w.alloc o1).alloc o2).alloc (.cells #[v0,v1] 3)).drew.cell? (aj (w.heap.size+1+1) 0)=some v0/\(((w.alloc o1).alloc o2).alloc (.cells #[v0,v1] 3)).drew.cell? (aj (w.heap.size+1+1) 1)=some v1:=λo1 o2 v0 v1=>by
  have h:=mP ((w.alloc o1).alloc o2) v0 v1 3;have h0:=h 0 v0 rfl;have h1:=h 1 v1 rfl;simp only[ci,Addr.add]at h0 h1;exact⟨h0,h1⟩
 go_upto_region 1 with fail
 go_region_held2 (λW=>W.cell? (aj w.heap.size 0)=some (.int .u64 x1)/\W.cell? (aj w.heap.size 1)=some (ag x2)/\W.cell? (aj (w.heap.size+1) 0)=some (.int .u64 y1)/\W.cell? (aj (w.heap.size+1) 1)=some (ag y2)) (go_keep) (first
  |(go_at_call 358;refine(F0 _ _ _).V ?_;rintro e w' ⟨rfl,rfl⟩)
  |(go_at_call 359;refine(F4 _ _ _).V ?_;rintro e w' ⟨rfl,rfl⟩)
  |(go_at_call 357;refine(Ty _ _ _ _ (hc _ _ _ _).1 (hc _ _ _ _).2).V ?_;rintro e w' ⟨rfl,rfl⟩))
 go_wp2;go_ret;exact⟨rfl,1,#[_,_,_],rfl⟩
def OB (x y:au):LD x y<0<->Op.bytesLess x.toList y.toList=true:=by
 unfold LD;split;.rename_i h;simp[h]
 .rename_i h;split<;>simp[h]
def Hv (x y:Int):lu x y=0<->x=y:=by
 unfold lu;split;.simp;omega
 .split;.simp;omega
  .simp;omega
def Cg (x y:LV):yt x y<0<->lG x y:=by
 unfold yt Tg lG;by_cases h:x.1=y.1;.rw[dP ((Hv _ _).2 h),OB];simp[h]
 .rw[dO (λq=>h ((Hv _ _).1 q)),nU];simp[h]
def Sa (x y:LV):ltOf yt x y=true<->lG x y:=by
 unfold ltOf;simp[Cg]
def Tz:SWO (ltOf yt)where
 irrefl x:=by rw[cm];exact λh=>pw _ ((Sa _ _).1 h)
 trans x y z h1 h2:=(Sa _ _).2 (kc ((Sa _ _).1 h1) ((Sa _ _).1 h2))
 ntrans x y z h1 h2:=by
  rw[cm,Ne,Sa]at*;intro h;rcases tq y x with q|q|q;.exact h2 (kc q h)
  .exact h2 (tr q h)
  .exact h1 q
def D7 {a b:LV}(h:jF a b):a=b:=by
 obtain⟨h1,h2⟩:=h;exact cW h1 (cN (cV.1 (by rw[<-ByteArray.toList_eq,<-ByteArray.toList_eq];exact h2)))
end
section
open Vo
structure sC where
 n:Int
 c1:Value
 c2:Value
 c3:Value
 c4:Value
 c5:Value
 c6:Value
 c7:Value
def jf (x:sC):ay:= [aa x.n,x.c1,x.c2,x.c3,x.c4,x.c5,x.c6,x.c7]
def qz (x:sC):(jf x).length=8:=rfl
def Ga (x:sC)(n:Int)(w:aw):
  Calls prog 215 #[.agg #[aa x.n,x.c1,x.c2,x.c3,x.c4,x.c5,x.c6,x.c7],aa n] w λe w'=>e= .returned (aa (lu x.n n))/\ak w w':=by
 have hC:=qR x.n n;have B0:∀o,ak w (w.alloc o):=λo=>(Va w).alloc (aE _) o
 generalize lu x.n n=c at hC⊢;go_in
 go_wp2_with fail;refine(hC _).V ?_;rintro e w' ⟨rfl,rfl⟩;go_wp2;go_ret;exact⟨rfl,B0 _⟩
def LP (w:aw)(v:Value)(l:List sC)(t:Int)(lo:Nat)(hrow:w.ownsRow lo 268 8 v l.length (l.flatMap jf))(h1:∀x∈l,x.c1.oneCell'=true/\x.c2.oneCell'=true/\x.c3.oneCell'=true/\x.c4.oneCell'=true/\x.c5.oneCell'=true/\x.c6.oneCell'=true/\x.c7.oneCell'=true)(hs:l.Pairwise (λa b=>a.n<=b.n))(hl:l.length<=1073741824):
  Calls prog 214 #[v,aa t,.func (.func 215) #[] #[]] w λe w'=>wH (l.map (·.n)) t e/\ak w w':=by
 obtain⟨a,c,rfl⟩:=iz hrow;have HS:Hid (∀(i j:Nat) (x y:sC),l[i]?=some x->l[j]?=some y->i<=j->x.n<=y.n):=Y4 hs
 have HG:Hid (∀(i:Nat) (x:sC),l[i]?=some x->∃g,a=some (aj g 0)/\g<w.heap.size/\∀w':aw,w'.heap[g]?=w.heap[g]?->w'.cell? (aj g (i*8))=some (aa x.n)/\w'.cell? (aj g (i*8+1))=some x.c1/\w'.cell? (aj g (i*8+2))=some x.c2/\w'.cell? (aj g (i*8+3))=some x.c3/\w'.cell? (aj g (i*8+4))=some x.c4/\w'.cell? (aj g (i*8+5))=some x.c5/\w'.cell? (aj g (i*8+6))=some x.c6/\w'.cell? (aj g (i*8+7))=some x.c7):=λi x hx=>by
  have hi:=gl hx;obtain⟨g,rfl,_,Vq,Vp⟩:=eH hrow Vc;have hf:=λj hj=>fY jf 8 qz l i x hx j hj
  refine⟨g,rfl,Vq,λw' hw=>⟨?_,?_,?_,?_,?_,?_,?_,?_⟩⟩;.exact Vp w' hw _ _ ((hf 0 Vc).J rfl)
  .exact Vp w' hw _ _ ((hf 1 Vc).J rfl)
  .exact Vp w' hw _ _ ((hf 2 Vc).J rfl)
  .exact Vp w' hw _ _ ((hf 3 Vc).J rfl)
  .exact Vp w' hw _ _ ((hf 4 Vc).J rfl)
  .exact Vp w' hw _ _ ((hf 5 Vc).J rfl)
  .exact Vp w' hw _ _ ((hf 6 Vc).J rfl)
  .exact Vp w' hw _ _ ((hf 7 Vc).J rfl)
 clear hs hrow;go_in
 go_wp2;go_loopw [9,10] (λiv jv wr=>∃(i j:Nat),i<=j/\j<=l.length/\iv=aa i/\jv=aa j/\Hid (∀(k:Nat) (x:sC),l[k]?=some x->k<i->x.n<t)/\Hid (∀(k:Nat) (x:sC),l[k]?=some x->j<=k->t<=x.n)/\ak w wr) (λiv jv _=>((intOf jv)-(intOf iv)).toNat)
 case atStart=>exact⟨0,l.length,aP _,aE _,rfl,rfl,(λk x _ h=>Vc),(λk x hx h=>by rw[bf Vc]at hx;cases hx),Below.refl _ _⟩
 case round=>
  obtain⟨i,j,Vt,Vs,rfl,rfl,H1,H2,CW⟩:=hrel;by_cases hlt:i<j
  .obtain⟨h,hh⟩:=Y9 ((i+j)/2);have Vu:h<l.length:=Vc;have Vv:i<=h:=Vc;have hhj:h<j:=Vc;have⟨x,hx⟩:=gx Vu;obtain⟨g,rfl,Vq,Vr⟩:=HG.o h x hx;have⟨c0,c1,c2,c3,c4,c5,c6,c7⟩:=Vr wr (CW.block g Vq);have⟨o1,o2,o3,o4,o5,o6,o7⟩:=h1 x (aL hx);clear Vr;have⟨hw1,hdiv,hw2⟩:=Y5 hh Vc;by_cases hxt:x.n<t
   .have hd:decide (lu x.n t<0)=true:=by simp[nU,hxt]
    have HX:Hid (l[h]?=some x):=hx;clear hh hx HG;go_wp2_with fail;refine(Ga x t _).V ?_;rintro e w2 ⟨rfl,b2⟩;go_wp2;go_roundw
    case rel=>exact⟨h+1,j,Vc,Vs,rfl,rfl,(λk y hy hk=>Int.lt_of_le_of_lt (HS.o k h y x hy HX.o Vc) hxt),H2,eQ CW b2⟩
    case measure=>simp[intOf];omega
   .have hd:decide (lu x.n t<0)=false:=decide_eq_false (λq=>hxt ((nU _ _).1 q));have HX:Hid (l[h]?=some x):=hx;clear hh hx HG;go_wp2_with fail;refine(Ga x t _).V ?_;rintro e w2 ⟨rfl,b2⟩;go_wp2;go_roundw
    case rel=>exact⟨i,h,Vv,Vc,rfl,rfl,H1,(λk y hy hk=>Int.le_trans Vc (HS.o h k x y HX.o hy hk)),eQ CW b2⟩
    case measure=>simp[intOf];omega
  .obtain rfl:i=j:=Vc;have hli:decide ((i:Int)<(i:Int))=false:=Vd;by_cases hil:i<l.length
   .have⟨x,hx⟩:=gx hil;obtain⟨g,rfl,Vq,Vr⟩:=HG.o i x hx;have⟨c0,c1,c2,c3,c4,c5,c6,c7⟩:=Vr wr (CW.block g Vq);have⟨o1,o2,o3,o4,o5,o6,o7⟩:=h1 x (aL hx);clear Vr;have HX:Hid (l[i]?=some x):=hx;have hti:=H2.o i x hx (aE _);have hd:(lu x.n t==0)=decide (x.n=t):=Y6 _ _;have hN:decide ((l.map (·.n))[i]?=some t)=decide (x.n=t):=by rw[aT,hx];simp
    have HE:Hid (decide ((l.map (·.n))[i]?=some t)=decide (x.n=t)):=hN;clear hx HG hN hlt Vt;go_wp2_with fail;refine(Ga x t _).V ?_;rintro e w2 ⟨rfl,b2⟩;go_wp2;go_ret2;refine⟨⟨i,by rw[HE.o];rfl,by simpa using Vs,?_,?_⟩,eQ CW b2⟩;.intro k y hy hk;rw[aT]at hy;obtain⟨z,hz,rfl⟩:=bi.1 hy;exact H1.o k z hz hk
    .intro k y hy hk;rw[aT]at hy;obtain⟨z,hz,rfl⟩:=bi.1 hy;exact H2.o k z hz hk
   .have hli2:decide ((i:Int)<(l.length:Int))=false:=Ve
    have HE:Hid (decide ((l.map (·.n))[i]?=some t)=false):=by
     show decide ((l.map (·.n))[i]?=some t)=false;rw[bf (by rw[bN];omega)];simp
    clear HG hlt Vt;go_wp2;go_ret2;refine⟨⟨i,by rw[HE.o];rfl,by simpa using Vs,?_,?_⟩,CW⟩;.intro k y hy hk;rw[aT]at hy;obtain⟨z,hz,rfl⟩:=bi.1 hy;exact H1.o k z hz hk
    .intro k y hy hk;rw[aT]at hy;obtain⟨z,hz,rfl⟩:=bi.1 hy;exact H2.o k z hz hk
def vF (x:Nat):(x|||1)/2=x/2:=by
 have h1:=Nat.shiftRight_or_distrib (a:=x) (b:=1) (i:=1);simpa [Nat.shiftRight_succ]using h1
def Ck (x:Nat):(x|||1)=x\/(x|||1)=x+1:=by
 have h:=vF x;have h2:(x|||1)%2=1:=(by have:=Nat.and_one_is_mod (x|||1);rw[<-this,Nat.and_or_distrib_right];simp;rcases Nat.mod_two_eq_zero_or_one x with q|q<;>rw[q]<;>rfl);omega
def AN {x:Nat}(h:x≠0)(h1:x<18446744073709551616):Lib.bitLen (x|||1)=Lib.bitLen x:=by
 have:=Ck x;have hh:=vF x;have Vs:x|||1<2^64:=Nat.or_lt_two_pow h1 Vf
 rw[Lib.bitLen_half x h h1,Lib.bitLen_half (x|||1) Vc Vs,hh]
def El:∀(f x:Nat),x<128^(f+1)->x<18446744073709551616->(uK f x).length=(Lib.bitLen (x|||1)+6)/7
 |f,x,h,h1=>by
  by_cases hx:x<128;.have e:(uK f (x:Int)).length=1:=(by have:(x:Int)<128:=Vc;cases f<;>simp[uK,this]);have:∀k:Fin 128,1=(Lib.bitLen (k.val|||1)+6)/7:=Vg;rw[e];exact this ⟨x,hx⟩
  .cases f with
   |zero=>simp at h;omega
   |succ f=>
    have hb:Lib.bitLen (x|||1)=7+Lib.bitLen (x/128):=(by rw[AN Vc h1];exact Lib.bitLen_shift 7 x Vc h1);have ih:=El f (x/128) (by rw[Nat.pow_succ]at h;omega) Vc;rw[AN Vc Vc]at ih;rw[uK,dO Vc,bw,show((x:Int)/128)=((x/128:Nat):Int)by omega,ih,hb];omega
def Em (x:Int)(w:aw)(h0:0<=x)(h1:x<=18446744073709551615):U8 255 #[.int .u64 x] w λe w'=>e= .returned (aa (Lib.bitLen x.toNat))/\w'=w:=Any.bits_Len64 Tryz.laysLn x w h0 h1
def SC {w:aw}{fb:Nat}{a b c d e:Value}{T:TypeId}(h:dX w fb #[a,b,c,d,e] T):w.cell? (aj fb 0)=some a/\w.cell? (aj fb 2)=some c/\w.cell? (aj fb 3)=some d:=⟨h.cell 0,h.cell 2,h.cell 3⟩
section
variable (w:aw)
def oT (x:Int)(h0:0<=x)(h1:x<18446744073709551616):Calls prog 328 #[.int .u64 x] w λe w'=>e= .returned (aa (vi x).length)/\w'=w:=by
 obtain⟨n,rfl⟩:=bF h0;have hor:bits .or .u64 (n:Int) 1=((n|||1:Nat):Int):=bits_or_u64_nat n 1 Vc Vc;have Vs:n|||1<2^64:=Nat.or_lt_two_pow Vc Vf
 have hl:=Em ((n|||1:Nat):Int) w Vc Vc;have hs:(vi (n:Int)).length=(Lib.bitLen (n|||1)+6)/7:=El 9 n Vc Vc;have Vt:=(nW 9 (n:Int)).1;rw[Int.toNat_natCast]at hl;rw[hs];have hle2:(Lib.bitLen (n|||1)+6)/7<=10:=by rw[<-hs];exact Vt
 clear hs Vt;generalize Lib.bitLen (n|||1)=y at*;generalize n|||1=o at*
 go_in
 go_wp2_with fail;refine hl.V ?_;rintro e w2 ⟨rfl,rfl⟩;go_wp2;go_ret;exact⟨by rw[show(((y+6)/7:Nat):Int)=((y:Int)+6)/7 by omega];rfl,rfl⟩
def QU {n k:Int}(h0:0<=n)(h1:n<=536870911)(k0:0<=k)(k1:k<8):bits .or .u64 (n*8) k=n*8+k:=by
 obtain⟨a,rfl⟩:=bF h0;obtain⟨c,rfl⟩:=bF k0;rw[show(a:Int)*8=((a*8:Nat):Int)by omega,bits_or_u64_nat (a*8) c Vc Vc,show a*8=a<<<3 by rw[dv],<-dg (by omega:c<2^3),dv];omega
def LX (n k:Int)(h0:0<=n)(h1:n<=536870911)(k0:0<=k)(k1:k<8):Calls prog 316 #[.agg #[aa n,aa k]] w λe w'=>e= .returned (.int .u64 (n*8+k))/\ak w w':=by
 have ho:=QU h0 h1 k0 k1;have m1:n%18446744073709551616=n:=Vc;have m2:k%18446744073709551616=k:=Vc;have m3:n*8%18446744073709551616=n*8:=Vc;have⟨k1,k2⟩:=(dX.new w #[aa n,aa k] 237).I;go_in
 go_wp2;go_ret;exact⟨rfl,(Below.refl _ _).alloc (aE _) _⟩
def fD (n k:Int):ap:=vi (n*8+k)
def P4 (n k:Int)(h0:0<=n)(h1:n<=536870911)(k0:0<=k)(k1:k<8):Calls prog 242 #[.agg #[aa n,aa k]] w λe w'=>e= .returned (aa (fD n k).length)/\ak w w':=by
 have⟨r1,r2⟩:=(dX.new w #[aa n,aa k] 237).I;have B1:ak w (w.U5 #[aa n,aa k] 237):=(Below.refl _ _).alloc (aE _) _;go_in
 go_wp2_with fail;refine(LX _ n k h0 h1 k0 k1).V ?_;rintro e w2 ⟨rfl,b2⟩;go_wp2_with fail;refine(oT _ (n*8+k) Vc Vc).V ?_;rintro e w3 ⟨rfl,rfl⟩;go_wp2;go_ret;exact⟨rfl,eQ B1 b2⟩
def uM (x:ap)(h:x.length<=140737488355328):Calls prog 243 #[aa x.length] w λe w'=>e= .returned (aa (fF x).length)/\w'=w:=by
 have m1:(x.length:Int)%18446744073709551616=x.length:=Vc;have hl:=(nW 9 (x.length:Int)).1;have hL:(fF x).length=(vi x.length).length+x.length:=by rw[fF,aN]
 have hz:=oT w x.length Vc Vc;rw[hL];rw[show(uK 9 (x.length:Int))=vi x.length from rfl]at hl;generalize(vi (x.length:Int)).length=y at*;generalize x.length=n at*;go_in
 go_wp2_with fail;refine hz.V ?_;rintro e w2 ⟨rfl,rfl⟩;go_wp2;go_ret;exact⟨by rw[dE];rfl,rfl⟩
def Cl (v:Int):Int:=if v<9223372036854775808 then 2*v else 36893488147419103231-2*v
def tC (v:Int)(h0:0<=v)(h1:v<18446744073709551616):Calls prog 321 #[.int .u64 v] w λe w'=>e= .returned (.int .u64 (Cl v))/\w'=w:=by
 unfold Cl;by_cases h:v<9223372036854775808
 .rw[dP h];have hd:v/9223372036854775808=0:=Vc;have hx:=rO (n:=v*2) Vc Vc;have hm:v*2%18446744073709551616=v*2:=Vc;go_in
  go_wp2;go_ret;exact⟨by rw[Int.mul_comm 2 v];rfl,rfl⟩
 .rw[dO h];have hd:v/9223372036854775808=1:=Vc;have hm:IntKind.u64.wrap (v*2)=v*2-18446744073709551616:=by simp[IntKind.wrap,IntKind.bits,IntKind.signed];omega
  have hw:IntKind.u64.wrap (-1)=18446744073709551615:=Vf;have hx:=rN (n:=v*2-18446744073709551616) Vc Vc;go_in
  go_wp2;go_ret;exact⟨by rw[show(36893488147419103231:Int)-2*v=18446744073709551615-(v*2-18446744073709551616)by omega];rfl,rfl⟩
end
def AO (mp:an)(g:GF):Int:=if io mp g then 2 else eJ (eI mp g)
def LY (k:Nat):eJ k<8:=by
 unfold eJ
 repeat' split
 all_goals omega
def tD (mp:an)(g:GF):0<=AO mp g/\AO mp g<8:=by
 have:=LY (eI mp g);unfold AO;split<;>omega
def fH.on {B b:Nat}{l:ap}{w w':aw}(h:fH w B b (eE b) l)(hb:ak w w'):fH w' B b (eE b) l:=by
 obtain⟨h1,v,h2,h3,h4⟩:=h;exact⟨h1,v,dX.G h2 hb (dX.lt h2),eX hb h3,h4⟩
def ed {n m:Nat}{a b:aw}(h:Below n a b)(hm:m<=n):Below m a b:=⟨h.os,h.tape,h.output,h.size,λi hi=>h.block i Vc⟩
section
variable {B b:Nat} {l:ap} {w:aw}
def LZ (n k:Int)(h0:0<=n)(h1:n<=536870911)(k0:0<=k)(k1:k<8)(h:fH w B b (eE b) l)(hlen:l.length+(fD n k).length<=140737488355328)(hBw:B<=w.heap.size):
  Calls prog 230 #[eE b,.agg #[aa n,aa k]] w (i9 B b l (fD n k) w):=by
 have⟨r1,r2⟩:=(dX.new w #[aa n,aa k] 237).I;have B1:ak w (w.U5 #[aa n,aa k] 237):=(Below.refl _ _).alloc (aE _) _;go_in
 go_wp2_with fail;refine(LX _ n k h0 h1 k0 k1).V ?_;rintro e w2 ⟨rfl,b2⟩;have b3:=eQ B1 b2;have hs:=b3.size;go_wp2_with fail;refine(oS (n*8+k) (h.on b3) Vc Vc hlen Vc).V ?_;rintro e w3 ⟨rfl,q1,q2⟩;go_wp2;go_end0;exact⟨rfl,q1,(Wr.of b3 hBw).J q2⟩
end
section
variable (w:aw) (P:ax) (mp:an) (g:GF) (fb:Nat)
def yB (h:eZ w P mp g fb):Calls prog 231 #[ah fb] w λe w'=>e= .returned (.agg #[aa g.f.num,aa (AO mp g)])/\ak w w':=by
 have⟨pv,rv,h1,_,Vq,Vv⟩:=h.blk;obtain⟨pq,rfl⟩:=gK Vv;obtain⟨ra,rn,rc,rfl⟩:=d5 Vq.1;have⟨B1,KR⟩:=d8 w #[aa 0,aa 0] 237;have Vr:=mQ _ P mp g fb (h.O (λb _ hl=>B1.block b hl));have Vw:=me mp g;have hW:=λW=>qi W (eI mp g) (.pointer pq) Vw
 clear Vv Vq h;unfold AO
 cases hpk:io mp g with
 |true=>
  rw[hpk]at Vr;go_in
  go_wp2_with fail;refine Vr.V ?_;rintro e w2 ⟨rfl,b2⟩;have b3:=eQ B1 b2;have⟨k3,k4⟩:=(dX.G h1 b3 h1.lt).I;have Vp:=KR.G b2 KR.lt;have⟨k5,k6⟩:=Vp.I;go_wp2;refine dR (el results231 _ _ rfl ((Vp.set 0 _).set 1 _) underlying237 Vh) rfl ?_
  exact⟨rfl,(b3.setCell (p:=(aj w.heap.size 0)) (aE _) _).setCell (p:=(aj w.heap.size 1)) (aE _) _⟩
 |false=>
  rw[hpk]at Vr;generalize eJ (eI mp g)=wb at*;go_in
  go_wp2_with fail;refine Vr.V ?_;rintro e w2 ⟨rfl,b2⟩;have b3:=eQ B1 b2;have K2:=dX.G h1 b3 h1.lt;have Vp:=KR.G b2 KR.lt;have hf2:=K2.lt;have hr2:=Vp.lt;have hfw:=h1.lt;go_upto_region 3 with fail
  go_region_held2 (λW=>W.cell? (aj fb 0)=some (aa g.f.num)/\W.cell? (aj fb 2)=some (aa (eI mp g))/\W.cell? (aj fb 3)=some (.pointer pq))
   ((refine SC (b:=aa g.form) (e:= .slice ra rn rc) (T:=220) ?_;repeat (first|exact K3|exact K2|refine dX.drew ?_|refine dX.other ?_ _ _ (by first|exact of_eq_false Vm|omega))))
   (first|(go_at_call 208;refine(hW _).V ?_;rintro e w3 ⟨rfl,b4⟩;have b5:ak w2 w3:=eQ (Below.refl _ _).drew b4;have K3:=K2.G b5 K2.lt;have Vu:=Vp.G b5 Vp.lt;have⟨k5,k6⟩:=Vu.I))
  all_goals
   go_wp2;refine dR (el results231 _ _ rfl ((Vu.set 0 _).set 1 _) underlying237 Vh) rfl ?_;exact⟨rfl,((eQ b3 b5).setCell (p:=(aj w.heap.size 0)) (aE _) _).setCell (p:=(aj w.heap.size 1)) (aE _) _⟩
end
def gh (x:PV)(mv:Value):Value:= .agg #[.int .u64 x.1,ag x.2.1,mv,ag x.2.2.unk]
abbrev Nz:={x:Int//x≠0}
def Nz.ne (x:Nz):x.1≠0:=x.2
def eF (ok:Bool)(w:aw)(e:Ending)(w':aw):Prop:=ak w w'/\if ok=true then e= .returned (.tuple #[])else∃(x:Nz) (y:Int),e=dY x.1 y
def eF.ok {w w':aw}(b:ak w w'):eF true w (.returned (.tuple #[])) w':=⟨b,rfl⟩
def eF.no {w w':aw}{x y:Int}(b:ak w w')(hx:x≠0:=by first|decide|exact Nz.ne _):eF false w (dY x y) w':=⟨b,⟨x,hx⟩,_,rfl⟩
def eF.part {ok:Bool}{w:aw}{e:Ending}{w':aw}(h:eF ok w e w'):(ok=true/\e= .returned (.tuple #[])/\ak w w')\/(ok=false/\∃(x:Nz) (y:Int),e=dY x.1 y/\ak w w'):=by
 obtain⟨h1,h2⟩:=h;cases ok;.simp_all
 simp_all
section
variable (w:aw)
def iw:Calls prog 157 #[.bool true] w λe w'=>e= .returned (.tuple #[])/\w'=w:=by
 go_in
 go_wp2;go_end0;simp
def ii:Calls prog 157 #[.bool false] w λe w'=>e=dY 12 0/\w'=w:=by
 go_in
 go_wp2_with fail;refine(JM 12 0 _).V ?_;rintro e w' ⟨rfl,rfl⟩;go_wp2;exact⟨rfl,rfl,rfl⟩
def ou (s:au):Bool:=s.toList.isEmpty
def zD (m:PM):Bool:=m.fs.isEmpty&&ou m.unk
def H9 {α:Type}(l:List α):(((l.length:Nat):Int)==0)=l.isEmpty:=by cases l<;>simp;omega
def AP (x:PV)(mv:Value):Calls prog 241 #[gh x mv] w (eF (!(decide (x.1=0)&&ou x.2.1)) w):=by
 obtain⟨n,s,m⟩:=x;unfold gh ou;simp only;by_cases h0:n=0
 .subst h0;simp only[decide_true];have⟨B,K⟩:=d8 w #[.int .u64 0,ag s,mv,ag m.unk] 55;have⟨k1,k2⟩:=K.I;cases h1:s.toList.isEmpty
  all_goals
   go_in
   go_wp2_with fail;first|refine(iw _).V ?_|refine(ii _).V ?_
   rintro e w' ⟨rfl,rfl⟩
   try unfold dY
   go_wp2;first|(go_end0;exact⟨B,rfl⟩)|exact⟨rfl,eF.no B⟩
 .rw[decide_eq_false h0];have⟨B,K⟩:=d8 w #[.int .u64 n,ag s,mv,ag m.unk] 55;have⟨k1,k2⟩:=K.I;go_in
  go_wp2_with fail;first|refine(iw _).V ?_|refine(ii _).V ?_
  rintro e w' ⟨rfl,rfl⟩
  try unfold dY
  go_wp2;first|(go_end0;exact⟨B,rfl⟩)|exact⟨rfl,eF.no B⟩
def En (x:PV)(ma:aC)(mc:Nat):Calls prog 326 #[gh x (.slice ma x.2.2.fs.length mc)] w (eF (ou x.2.1&&zD x.2.2) w):=by
 obtain⟨n,s,m⟩:=x;have h3:=H9 m.fs;unfold gh zD ou;simp only;generalize m.fs.isEmpty=p3 at*;generalize m.fs.length=q3 at*;have⟨B,K⟩:=d8 w #[.int .u64 n,ag s,.slice ma q3 mc,ag m.unk] 55;have⟨k1,k2⟩:=K.I;cases h1:s.toList.isEmpty<;>cases p3<;>cases h4:m.unk.toList.isEmpty
 all_goals
  go_in
  go_wp2_with fail;first|refine(iw _).V ?_|refine(ii _).V ?_
  rintro e w' ⟨rfl,rfl⟩
  try unfold dY
  go_wp2;first|(go_end0;exact⟨B,rfl⟩)|exact⟨rfl,eF.no B⟩
def Gb (x:PV)(ma:aC)(mc:Nat):Calls prog 324 #[gh x (.slice ma x.2.2.fs.length mc)] w (eF (decide (x.1=0)&&zD x.2.2) w):=by
 obtain⟨n,s,m⟩:=x;have h3:=H9 m.fs;unfold gh zD ou;simp only;generalize m.fs.isEmpty=p3 at*;generalize m.fs.length=q3 at*;by_cases h0:n=0
 .subst h0;simp only[decide_true];have⟨B,K⟩:=d8 w #[.int .u64 0,ag s,.slice ma q3 mc,ag m.unk] 55;have⟨k1,k2⟩:=K.I;cases p3<;>cases h4:m.unk.toList.isEmpty
  all_goals
   go_in
   go_wp2_with fail;first|refine(iw _).V ?_|refine(ii _).V ?_
   rintro e w' ⟨rfl,rfl⟩
   try unfold dY
   go_wp2;first|(go_end0;exact⟨B,rfl⟩)|exact⟨rfl,eF.no B⟩
 .rw[decide_eq_false h0];clear h3;have⟨B,K⟩:=d8 w #[.int .u64 n,ag s,.slice ma q3 mc,ag m.unk] 55;have⟨k1,k2⟩:=K.I;go_in
  go_wp2_with fail;first|refine(iw _).V ?_|refine(ii _).V ?_
  rintro e w' ⟨rfl,rfl⟩
  try unfold dY
  go_wp2;first|(go_end0;exact⟨B,rfl⟩)|exact⟨rfl,eF.no B⟩
def P5 (x:PV)(mv:Value):Calls prog 323 #[gh x mv] w (eF (decide (x.1=0)&&ou x.2.1) w):=by
 obtain⟨n,s,m⟩:=x;unfold gh ou;simp only;by_cases h0:n=0
 .subst h0;simp only[decide_true];have⟨B,K⟩:=d8 w #[.int .u64 0,ag s,mv,ag m.unk] 55;have⟨k1,k2⟩:=K.I;cases h1:s.toList.isEmpty
  all_goals
   go_in
   go_wp2_with fail;first|refine(iw _).V ?_|refine(ii _).V ?_
   rintro e w' ⟨rfl,rfl⟩
   try unfold dY
   go_wp2;first|(go_end0;exact⟨B,rfl⟩)|exact⟨rfl,eF.no B⟩
 .rw[decide_eq_false h0];have⟨B,K⟩:=d8 w #[.int .u64 n,ag s,mv,ag m.unk] 55;have⟨k1,k2⟩:=K.I;go_in
  go_wp2_with fail;first|refine(iw _).V ?_|refine(ii _).V ?_
  rintro e w' ⟨rfl,rfl⟩
  try unfold dY
  go_wp2;first|(go_end0;exact⟨B,rfl⟩)|exact⟨rfl,eF.no B⟩
end
def zF (k:Nat)(n:Int):Bool:=
 if k=0\/k=4\/k=9\/k=15 then n==mN n else if k=2\/k=7\/k=11 then n==n%4294967296 else if k=6 then n==(if 0<n then 1 else 0)else true
def AQ {k:Nat}(hk:k<=16):k=0\/k=1\/k=2\/k=3\/k=4\/k=5\/k=6\/k=7\/k=8\/k=9\/k=10\/k=11\/k=12\/k=13\/k=14\/k=15\/k=16:=Vc
def Gc (w:aw)(k:Nat)(n:Int)(hk:k<=16)(h0:0<=n):Calls prog 327 #[aa k,.int .u64 n] w λe w'=>e= .returned (.bool (zF k n))/\w'=w:=by
 have H1:=pp w n;have H2:=sV w n;have H3:=wD w n h0;unfold zF;generalize mN n=a at*;generalize n%4294967296=b at*;generalize(if 0<n then(1:Int)else 0)=c at*;rcases AQ hk with rfl|rfl|rfl|rfl|rfl|rfl|rfl|rfl|rfl|rfl|rfl|rfl|rfl|rfl|rfl|rfl|rfl
 all_goals
  go_in
  go_wp2_with (first|(go_at_call 347;refine H1.V ?_;rintro e w2 ⟨rfl,rfl⟩)|(go_at_call 348;refine H2.V ?_;rintro e w2 ⟨rfl,rfl⟩)|(go_at_call 351;refine H3.V ?_;rintro e w2 ⟨rfl,rfl⟩))
  go_ret;simp
def fB (S:eD)(f:fo):Nat:=if f.isMap then 16 else S.base f.ty
def iL (S:eD)(f:fo):Bool:=f.isRep&&fj (fB S f)
def oU (S:eD)(f:fo):Int:=if iL S f then 2 else eJ (fB S f)
def oW (S:eD)(d:MT)(num kind:Int):Bool:=
 match d9 d.fs num with
 |none=>false
 |some f=>(kind==(eJ (fB S f):Int))||((kind==2)&&iL S f)
def gm (S:eD)(R:MT->PM->ap)(f:fo)(v:PV):ap:=
 if fB S f=16 then fF (match fy S f with|some t=>R t v.2.2|none=> [])
 else if fB S f=13\/fB S f=14 then fF v.2.1.data.toList
 else if fB S f=7\/fB S f=9\/fB S f=11 then o0 4 v.1
 else if fB S f=8\/fB S f=10\/fB S f=12 then o0 8 v.1
 else if fB S f=4\/fB S f=5 then vi (Cl v.1)else vi v.1
def nF (S:eD)(R:MT->PM->ap)(f:fo)(l:List PV):ap:=l.flatMap (gm S R f)
def kL (S:eD)(R:MT->PM->ap)(f:fo)(l:List PV):ap:=
 if iL S f then fD f.num (oU S f)++fF (nF S R f l)else l.flatMap λv=>fD f.num (oU S f)++gm S R f v
def ki (S:eD)(R:MT->PM->ap)(d:MT)(x:PF):ap:=
 match d9 d.fs x.1 with
 |none=> []
 |some f=>kL S R f x.2
def eG (S:eD):Nat->MT->PM->ap
 |0,_,_=> []
 |n+1,d,m=>m.fs.flatMap (ki S (eG S n) d)++m.unk.data.toList
def eC (S:eD)(R:MT->PM->Bool)(f:fo)(v:PV):Bool:=
 if fB S f=16 then(decide (v.1=0)&&ou v.2.1)&&(match fy S f with|some t=>R t v.2.2|none=>false)
 else if fB S f=13 then(decide (v.1=0)&&zD v.2.2)&&Lib.validD v.2.1.data.toList
 else if fB S f=14 then decide (v.1=0)&&zD v.2.2
 else(ou v.2.1&&zD v.2.2)&&zF (fB S f) v.1
def QV (e:PV):PV:=
 match e.2.2.fs with
 |(_,k::_)::_=>k
 |_=>PV.none
def tF (sg:Bool)(e:PV):LV:=FL sg ((QV e).1,(QV e).2.1)
def jG (sg:Bool):Option LV->List PV->Bool
 |_,[]=>true
 |last,e::l=>((e.2.2.fs.length==2)&&ou e.2.2.unk)&&(match last with|none=>true|some k=>decide (yt k (tF sg e)<0))&&jG sg (some (tF sg e)) l
def nP (f:fo)(l:List PV):Bool:=(l.length==1)||((f.isRep||f.isMap)&&decide (1<l.length))
def ku (S:eD)(f:fo)(l:List PV):Bool:=
 if f.isMap then jG (iJ (S.base f.key)) none l else if gN f.how eS=true/\fB S f≠16 then(match l with|x::_=> !(decide (x.1=0)&&ou x.2.1)| []=>true)else true
def fE (S:eD)(R:MT->PM->Bool)(f:fo)(l:List PV):Bool:=nP f l&&l.all (eC S R f)&&ku S f l
def kC (riv:ar)(n:Int)(ahead:List PF):Bool:=ahead.all λy=>decide (y.1<n)&& !decide (y.1∈riv)
def gU (S:eD)(R:MT->PM->Bool)(d:MT):List PF->List PF->Bool
 |_,[]=>true
 |ahead,x::l=>(match d9 d.fs x.1 with|none=>false|some f=>kC (lF d f) x.1 ahead&&fE S R f x.2)&&gU S R d (ahead++ [x]) l
def L0 (G:Nat->Bool):Fx (Unit×Nat)->Bool
 | .error _=>false
 | .ok y=>G y.2
def OM (fit:Int->Int->Bool)(s:au)(G:Nat->Bool):Fx ((Int×Int)×Nat)->Bool
 | .error _=>false
 | .ok x=> !(fit x.1.1 x.1.2)&&L0 G (lZ s x.2 x.1.2)
def nQ (fit:Int->Int->Bool)(s:au):Nat->Nat->Bool
 |0,_=>false
 |F+1,a=>if a<s.size then OM fit s (nQ fit s F) (jW s a)else true
def pT (fit:Int->Int->Bool)(s:au):Bool:=nQ fit s (s.size+1) 0
def dZ (S:eD):Nat->MT->PM->Bool
 |0,_,_=>false
 |n+1,d,m=>gU S (dZ S n) d [] m.fs&&pT (oW S d) m.unk
def pP:Nat->PM->Prop
 |0,_=>False
 |k+1,m=>m.fs.length<=1099511627776/\m.unk.size<=1099511627776/\∀x∈m.fs,x.2.length<=1099511627776/\∀v∈x.2,0<=v.1/\v.1<2^64/\v.2.1.size<=1099511627776/\pP k v.2.2
end
end Go.Proofs.YtfebdimolnobaaaGreatDoor
