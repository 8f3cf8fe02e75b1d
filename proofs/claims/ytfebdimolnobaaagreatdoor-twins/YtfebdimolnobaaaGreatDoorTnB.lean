import Derived.Test.YtfebdimolnobaaaGreatDoorCnA
import Derived.LaidMore
import Derived.OpenShut
import Derived.SizedLaws
import Derived.Carry
import Derived.Stop.Joined
import Derived.Stop.LaidErr
import Derived.Lib.LaidU8T
import Derived.Deep.DeepHandedRow
import Derived.Deep.DeepWitnessRowRef
set_option maxRecDepth 100000
set_option maxHeartbeats 8000000
set_option linter.all false
namespace Go.Proofs.YtfebdimolnobaaaGreatDoor
open Go.RowKit
section
open Go.ChangeShapes Go.WideShapes Go.RowKit Go.Deep Go.Proofs.YtfebdimolnobaaaGreatDoor.Rows
theorem CP:Tryz.prog.cellsOf 58=2:=by kernel_rfl
theorem CQ:Tryz.prog.cellsOf 55=4:=by kernel_rfl
theorem GK:Tryz.prog.cellsOf 56=1:=by kernel_rfl
theorem wD {α:Type}{k:Nat}{f:Nat->List α}(hk:∀i,(f i).length=k):∀{n p:Nat} {u:α},((List.range n).flatMap f)[p]?=some u->∃i j,i<n/\j<k/\p=i*k+j/\(f i)[j]?=some u
 |0,p,u,h=>by simp at h
 |n+1,p,u,h=>by
  have hl:∀n,((List.range n).flatMap f).length=n*k:=fun n=>by
   induction n with
   |zero=>simp
   |succ n ih=>rw[List.range_succ,bZ,aH,ih,List.flatMap_singleton,hk,Nat.succ_mul]
  rw[List.range_succ,bZ,List.flatMap_singleton]at h
  by_cases hp:p<n*k
  ·rw[cn (by rw[hl];exact hp)]at h;obtain⟨i,j,h1,h2,h3,h4⟩:=wD hk h;exact⟨i,j,by omega,h2,h3,h4⟩
  ·rw[ck (by rw[hl];omega),hl]at h
   have hj:p-n*k<k:=by
    have:=(List.getElem?_eq_some_iff.1 h).1
    rwa [hk]at this
   exact⟨n,p-n*k,by omega,hj,by omega,h⟩
theorem IS {w w':World}{a:Addr}{u:Value}(h:w.cell? a=some u)(e:w'.heap[a.block]?=w.heap[a.block]?):w'.cell? a=some u:=by
 unfold World.cell? at*;rw[e];exact h
theorem Ao (a:Addr)(i:Nat):(a.add i).block=a.block:=by unfold Addr.add;split<;>rfl
theorem GL {w:World}{a:Addr}{n c k:Nat}{f:Nat->List Value}(hk:∀i,(f i).length=k)(hc:n<=c)(hf:∀i,i<n->∀(j:Nat) u,(f i)[j]?=some u->w.cell? (a.add (i*k+j))=some u)(hk0:0<k):
  je w (fun b=>b<w.heap.size) (.slice (some a) n c) n ((List.range n).flatMap f):=by
 refine⟨some a,c,rfl,hc,fun hn=> ?_⟩
 have h0:a.block<w.heap.size:=by
  have:=aN _ _ (hf 0 hn 0 _ (aJ (by rw[hk];exact hk0)))
  rwa [Ao]at this
 refine⟨a,rfl,h0,h0,fun w' e p u hp=> ?_⟩;obtain⟨i,j,hi,_,rfl,h4⟩:=wD hk hp;exact IS (hf i hi j u h4) (by rw[Ao];exact e)
theorem Jf {P:Value->PM->Prop}{O:Nat->PV×Value}:∀{l:List Nat},(∀i∈l,P (O i).2 (O i).1.2.2)->lu P (l.flatMap fun i=>xp (O i).1 (O i).2) (l.map fun i=>(O i).1)
 | [],_=>rfl
 |i::_,h=>⟨_,_,rfl,h i bg,Jf fun j hj=>h j (bF _ hj)⟩
theorem Jg {P:Value->PM->Prop}{w:World}{Z:Nat->Prop}{O:Nat->PF×Value}:∀{l:List Nat},(∀i∈l,mB P w Z (O i).2 (O i).1.2)->uH P w Z (l.flatMap fun i=> [.int .i64 (O i).1.1,(O i).2]) (l.map fun i=>(O i).1)
 | [],_=>rfl
 |i::_,h=>⟨_,_,rfl,h i bg,Jg fun j hj=>h j (bF _ hj)⟩
section
variable {H:Type} {enc:TypeId×Value->H} {w:World} {base:Nat} {sp:Nat->Bool} {held:Bool}
theorem uA {D:Nat->DataW H}{g:Nat->Nat}:∀{l:List Nat},(∀i∈l,g i<=30*uptoBulk (D i))->(l.map g).sum<=30*uptoBulkAll (l.map D)
 | [],_=>aM _
 |i::l,h=>by
  have h1:=h i bg;have h2:=uA (l:=l) fun j hj=>h j (bF _ hj)
  rw[br,List.sum_cons,br,uptoBulkAll];omega
abbrev uB (enc:TypeId×Value->H)(w:World)(base:Nat)(sp:Nat->Bool)(held:Bool)(N:Nat):Prop:=
 ∀(fuel:Nat) (cs:List Value) (x:DataW H×List MemPlace),uptoBulk x.1<=N->uptoBulk x.1<=1048576->DataW.trod enc Tryz.prog w base sp held fuel 49 cs=some x->
  ∃v m,cs= [v,.string m.unk]/\fR N w (fun b=>b<w.heap.size) v m/\kT N m/\uq N m<=30*uptoBulk x.1
theorem GM {n:Int}(h:(Lit.int .u64 n).wf=true):0<=n/\n<18446744073709551616:=by
 have h2:(decide (IntKind.u64.min<=n)&&decide (n<=IntKind.u64.max))=true:=h;simp only[aT,decide_eq_true_eq]at h2;have e1:IntKind.u64.min=0:=rfl;have e2:IntKind.u64.max=18446744073709551615:=rfl;omega
theorem KU {N:Nat}(ih:uB enc w base sp held N){fuel:Nat}{cs:List Value}{x:DataW H×List MemPlace}(h:DataW.trod enc Tryz.prog w base sp held fuel 55 cs=some x)(hb:uptoBulk x.1<=N+1)(hB:uptoBulk x.1<=1048576):
  ∃o:PV×Value,cs=xp o.1 o.2/\fR N w (fun b=>b<w.heap.size) o.2 o.1.2.2/\(0<=o.1.1/\o.1.1<18446744073709551616/\o.1.2.1.size<=1099511627776/\kT N o.1.2.2)/\30+o.1.2.1.size+uq N o.1.2.2<=30*uptoBulk x.1:=by
 obtain⟨xs,n,_,rfl,hl,N3,hf⟩:=DataW.trod_struct Tryz.underlying55 h;rw[CQ]at hl
 obtain⟨c0,c1,c2,c3,rfl⟩:∃c0 c1 c2 c3,cs= [c0,c1,c2,c3]:=by
  match cs,hl with
  | [a0,a1,a2,a3],_=>exact⟨a0,a1,a2,a3,rfl⟩
 obtain⟨x0,x1,x2,rfl⟩:∃x0 x1 x2,xs= [x0,x1,x2]:=by
  match xs,N3 with
  | [a0,a1,a2],_=>exact⟨a0,a1,a2,rfl⟩
 have f0:DataW.trod enc Tryz.prog w base sp held n 53 (([c0,c1,c2,c3].drop 0).take (Tryz.prog.cellsOf 53))=some x0:=hf 0 _ rfl;have f1:DataW.trod enc Tryz.prog w base sp held n 9 (([c0,c1,c2,c3].drop 1).take (Tryz.prog.cellsOf 9))=some x1:=hf 1 _ rfl;have f2:DataW.trod enc Tryz.prog w base sp held n 49 (([c0,c1,c2,c3].drop 2).take (Tryz.prog.cellsOf 49))=some x2:=hf 2 _ rfl;rw[AQ]at f0;rw[ou]at f1;rw[Am]at f2;obtain⟨k0,e0,y0,w0⟩:=DataW.trod_int Tryz.underlying53 f0;obtain⟨s1,e1,y1,_⟩:=DataW.trod_string Tryz.underlying9 f1;have r0:=List.cons.inj e0|>.1
 have r1:=List.cons.inj e1|>.1
 subst r0 r1 y0 y1
 have hk:uptoBulk (.agg ([(DataW.lit (.int .u64 k0),[]),(DataW.lit (.string s1.data.toList),[]),x2].map (·.1)):DataW H)=1+((s1.size+1)+(uptoBulk x2.1+0))+1:=by
  rw[uptoBulk,br,br,br,cT,uptoBulkAll,uptoBulkAll,uptoBulkAll,uptoBulkAll,uz];rfl
 have N8:=aG (Nat.le_of_eq hk.symm) hb;have Oa:=aG (Nat.le_of_eq hk.symm) hB;obtain⟨v,m,q1,q2,q3,q4⟩:=ih n _ x2 (by omega) (by omega) f2
 have q5:c2=v/\c3= .string m.unk:=by
  have:=List.cons.inj q1;exact⟨this.1,(List.cons.inj this.2).1⟩
 obtain⟨rfl,rfl⟩:=q5;exact⟨((k0,s1,m),c2),rfl,q2,⟨(GM w0).1,(GM w0).2,by show s1.size<=_;omega,q3⟩,aG (show 30+s1.size+uq N m<=30*(1+((s1.size+1)+(uptoBulk x2.1+0))+1)by omega) (Nat.le_of_eq (by rw[<-hk]))⟩
theorem IT {N:Nat}(ih:uB enc w base sp held N){fuel:Nat}{c:Value}{x:DataW H×List MemPlace}(h:DataW.trod enc Tryz.prog w base sp held fuel 56 [c]=some x)(hb:uptoBulk x.1<=N+1)(hB:uptoBulk x.1<=1048576):
  ∃l:List PV,mB (fR N w fun b=>b<w.heap.size) w (fun b=>b<w.heap.size) c l/\l.length<=1099511627776/\(∀v∈l,0<=v.1/\v.1<18446744073709551616/\v.2.1.size<=1099511627776/\kT N v.2.2)/\(l.map fun v=>30+v.2.1.size+uq N v.2.2).sum<=30*uptoBulk x.1:=by
 rcases open_slice Tryz.underlying56 h with⟨hc,hx⟩|⟨a,len,cap,m,k,D,Pl,hc,_,hl,_,N7,hx,N2⟩
 ·obtain rfl:c=_:=List.cons.inj hc|>.1
  exact⟨[],⟨[],⟨_,_,rfl,ay _,fun h=>absurd h (by simp)⟩,rfl⟩,aM _,fun v h=>by simp at h,aM _⟩
 ·obtain rfl:c=_:=List.cons.inj hc|>.1
  have Ob:len<=m:=by rw[N7];split<;>omega
  have Oc:uptoBulk x.1=uptoBulkAll ((List.range len).map D)+uptoBulkAll ((List.range (m-len)).map fun j=>D (len+j))+1:=by rw[hx,uptoBulk]
  have hlen:=ux ((List.range len).map D);rw[aV,List.length_range]at hlen
  have hD:∀i,i<len->uptoBulk (D i)+1<=uptoBulk x.1:=fun i hi=>by
   have:=uy (d:=D i) (l:=(List.range len).map D) (List.mem_map.2 ⟨i,List.mem_range.2 hi,rfl⟩);omega
  haveI:Inhabited (PV×Value):=⟨(PV.none,.nilFunc)⟩
  obtain⟨O,hO⟩:=choose_lt (n:=len) (p:=fun i (o:PV×Value)=>(∀(j:Nat) u,(xp o.1 o.2)[j]?=some u->w.cell? (a.add (i*4+j))=some u)/\fR N w (fun b=>b<w.heap.size) o.2 o.1.2.2/\(0<=o.1.1/\o.1.1<18446744073709551616/\o.1.2.1.size<=1099511627776/\kT N o.1.2.2)/\30+o.1.2.1.size+uq N o.1.2.2<=30*uptoBulk (D i)) (fun i hi=>by
   obtain⟨cs,q1,q2⟩:=N2 i (by omega);rw[CQ]at q1;have:=hD i hi;obtain⟨o,rfl,q3⟩:=KU ih q2 (by show uptoBulk (D i)<=_;omega) (by show uptoBulk (D i)<=_;omega);obtain⟨_,q5,q6⟩:=World.cells?_some q1;refine⟨o,fun j u hu=> ?_,q3⟩
   have hj:j<4:=by
    have:=(List.getElem?_eq_some_iff.1 hu).1;rw[q5]at this;exact this
   rw[<-add_add,q6 j hj]
   exact hu)
  refine⟨(List.range len).map fun i=>(O i).1,⟨_,?_,Jf (O:=O) fun i hi=>(hO i (List.mem_range.1 hi)).2.1⟩,by simp;omega,fun v hv=> ?_,?_⟩
  ·rw[aV,List.length_range];exact GL (f:=fun i=>xp (O i).1 (O i).2) (k:=4) (fun _=>rfl) hl (fun i hi=>(hO i hi).1) (by omega)
  ·obtain⟨i,hi,rfl⟩:=List.mem_map.1 hv;exact(hO i (List.mem_range.1 hi)).2.2.1
  ·rw[bz];have:=uA (D:=D) (l:=List.range len) (g:=(fun v:PV=>30+v.2.1.size+uq N v.2.2)∘fun i=>(O i).1) fun i hi=>(hO i (List.mem_range.1 hi)).2.2.2
   omega
theorem KX {N:Nat}(ih:uB enc w base sp held N){fuel:Nat}{cs:List Value}{x:DataW H×List MemPlace}(h:DataW.trod enc Tryz.prog w base sp held fuel 58 cs=some x)(hb:uptoBulk x.1<=N+1)(hB:uptoBulk x.1<=1048576):
  ∃o:PF×Value,cs= [.int .i64 o.1.1,o.2]/\mB (fR N w fun b=>b<w.heap.size) w (fun b=>b<w.heap.size) o.2 o.1.2/\(o.1.2.length<=1099511627776/\∀v∈o.1.2,0<=v.1/\v.1<18446744073709551616/\v.2.1.size<=1099511627776/\kT N v.2.2)/\30+(o.1.2.map fun v=>30+v.2.1.size+uq N v.2.2).sum<=30*uptoBulk x.1:=by
 obtain⟨xs,n,_,rfl,hl,N3,hf⟩:=DataW.trod_struct Tryz.underlying58 h;rw[CP]at hl
 obtain⟨c0,c1,rfl⟩:∃c0 c1,cs= [c0,c1]:=by
  match cs,hl with
  | [a0,a1],_=>exact⟨a0,a1,rfl⟩
 obtain⟨x0,x1,rfl⟩:∃x0 x1,xs= [x0,x1]:=by
  match xs,N3 with
  | [a0,a1],_=>exact⟨a0,a1,rfl⟩
 have f0:DataW.trod enc Tryz.prog w base sp held n 3 (([c0,c1].drop 0).take (Tryz.prog.cellsOf 3))=some x0:=hf 0 _ rfl;have f1:DataW.trod enc Tryz.prog w base sp held n 56 (([c0,c1].drop 1).take (Tryz.prog.cellsOf 56))=some x1:=hf 1 _ rfl;rw[GI]at f0;rw[GK]at f1;obtain⟨k0,e0,y0,_⟩:=DataW.trod_int Tryz.underlying3 f0;have r0:=List.cons.inj e0|>.1
 subst r0 y0
 have hk:uptoBulk (.agg ([(DataW.lit (.int .i64 k0),[]),x1].map (·.1)):DataW H)=1+(uptoBulk x1.1+0)+1:=by
  rw[uptoBulk,br,br,cT,uptoBulkAll,uptoBulkAll,uptoBulkAll];rfl
 have N8:=aG (Nat.le_of_eq hk.symm) hb;have Oa:=aG (Nat.le_of_eq hk.symm) hB;obtain⟨l,q1,q2,q3,q4⟩:=IT ih f1 (by omega) (by omega);exact⟨((k0,l),c1),rfl,q1,⟨q2,q3⟩,aG (show 30+(l.map fun v:PV=>30+v.2.1.size+uq N v.2.2).sum<=30*(1+(uptoBulk x1.1+0)+1)by omega) (Nat.le_of_eq (by rw[<-hk]))⟩
theorem IU {N:Nat}(ih:uB enc w base sp held N){fuel:Nat}{c:Value}{x:DataW H×List MemPlace}(h:DataW.trod enc Tryz.prog w base sp held fuel 47 [c]=some x)(hb:uptoBulk x.1<=N+1)(hB:uptoBulk x.1<=1048576):
  ∃l:List PF,(∃cs,je w (fun b=>b<w.heap.size) c l.length cs/\uH (fR N w fun b=>b<w.heap.size) w (fun b=>b<w.heap.size) cs l)/\l.length<=1099511627776/\(∀f∈l,f.2.length<=1099511627776/\∀v∈f.2,0<=v.1/\v.1<18446744073709551616/\v.2.1.size<=1099511627776/\kT N v.2.2)/\(l.map fun f=>30+(f.2.map fun v=>30+v.2.1.size+uq N v.2.2).sum).sum<=30*uptoBulk x.1:=by
 rcases open_slice Tryz.underlying47 h with⟨hc,hx⟩|⟨a,len,cap,m,k,D,Pl,hc,_,hl,_,N7,hx,N2⟩
 ·obtain rfl:c=_:=List.cons.inj hc|>.1
  exact⟨[],⟨[],⟨_,_,rfl,ay _,fun h=>absurd h (by simp)⟩,rfl⟩,aM _,fun v h=>by simp at h,aM _⟩
 ·obtain rfl:c=_:=List.cons.inj hc|>.1
  have Ob:len<=m:=by rw[N7];split<;>omega
  have Oc:uptoBulk x.1=uptoBulkAll ((List.range len).map D)+uptoBulkAll ((List.range (m-len)).map fun j=>D (len+j))+1:=by rw[hx,uptoBulk]
  have hlen:=ux ((List.range len).map D);rw[aV,List.length_range]at hlen
  have hD:∀i,i<len->uptoBulk (D i)+1<=uptoBulk x.1:=fun i hi=>by
   have:=uy (d:=D i) (l:=(List.range len).map D) (List.mem_map.2 ⟨i,List.mem_range.2 hi,rfl⟩);omega
  haveI:Inhabited (PF×Value):=⟨((0,[]),.nilFunc)⟩
  obtain⟨O,hO⟩:=choose_lt (n:=len) (p:=fun i (o:PF×Value)=>(∀(j:Nat) u,[Value.int .i64 o.1.1,o.2][j]?=some u->w.cell? (a.add (i*2+j))=some u)/\mB (fR N w fun b=>b<w.heap.size) w (fun b=>b<w.heap.size) o.2 o.1.2/\(o.1.2.length<=1099511627776/\∀v∈o.1.2,0<=v.1/\v.1<18446744073709551616/\v.2.1.size<=1099511627776/\kT N v.2.2)/\30+(o.1.2.map fun v=>30+v.2.1.size+uq N v.2.2).sum<=30*uptoBulk (D i)) (fun i hi=>by
   obtain⟨cs,q1,q2⟩:=N2 i (by omega);rw[CP]at q1;have:=hD i hi;obtain⟨o,rfl,q3⟩:=KX ih q2 (by show uptoBulk (D i)<=_;omega) (by show uptoBulk (D i)<=_;omega);obtain⟨_,q5,q6⟩:=World.cells?_some q1;refine⟨o,fun j u hu=> ?_,q3⟩
   have hj:j<2:=by
    have:=(List.getElem?_eq_some_iff.1 hu).1;rw[q5]at this;exact this
   rw[<-add_add,q6 j hj]
   exact hu)
  refine⟨(List.range len).map fun i=>(O i).1,⟨_,?_,Jg (O:=O) fun i hi=>(hO i (List.mem_range.1 hi)).2.1⟩,by simp;omega,fun v hv=> ?_,?_⟩
  ·rw[aV,List.length_range];exact GL (f:=fun i=> [.int .i64 (O i).1.1,(O i).2]) (k:=2) (fun _=>rfl) hl (fun i hi=>(hO i hi).1) (by omega)
  ·obtain⟨i,hi,rfl⟩:=List.mem_map.1 hv;exact(hO i (List.mem_range.1 hi)).2.2.1
  ·rw[bz];have:=uA (D:=D) (l:=List.range len) (g:=(fun f:PF=>30+(f.2.map fun v=>30+v.2.1.size+uq N v.2.2).sum)∘fun i=>(O i).1) fun i hi=>(hO i (List.mem_range.1 hi)).2.2.2
   omega
theorem GN:∀N:Nat,uB enc w base sp held N
 |0,_,_,x,hb,_,_=>by have:=An x.1;omega
 |N+1,_,cs,x,hb,hB,h=>by
  obtain⟨xs,n,_,rfl,hl,N3,hf⟩:=DataW.trod_struct Tryz.underlying49 h;rw[Am]at hl
  obtain⟨c0,c1,rfl⟩:∃c0 c1,cs= [c0,c1]:=by
   match cs,hl with
   | [a0,a1],_=>exact⟨a0,a1,rfl⟩
  obtain⟨x0,x1,rfl⟩:∃x0 x1,xs= [x0,x1]:=by
   match xs,N3 with
   | [a0,a1],_=>exact⟨a0,a1,rfl⟩
  have f0:DataW.trod enc Tryz.prog w base sp held n 47 (([c0,c1].drop 0).take (Tryz.prog.cellsOf 47))=some x0:=hf 0 _ rfl;have f1:DataW.trod enc Tryz.prog w base sp held n 9 (([c0,c1].drop 1).take (Tryz.prog.cellsOf 9))=some x1:=hf 1 _ rfl;rw[GJ]at f0;rw[ou]at f1;obtain⟨s1,e1,y1,_⟩:=DataW.trod_string Tryz.underlying9 f1;have r1:=List.cons.inj e1|>.1
  subst r1 y1
  have hk:uptoBulk (.agg ([x0,(DataW.lit (.string s1.data.toList),[])].map (·.1)):DataW H)=uptoBulk x0.1+((s1.size+1)+0)+1:=by
   rw[uptoBulk,br,br,cT,uptoBulkAll,uptoBulkAll,uptoBulkAll,uz]
  have N8:=aG (Nat.le_of_eq hk.symm) hb;have Oa:=aG (Nat.le_of_eq hk.symm) hB;obtain⟨l,q1,q2,q3,q4⟩:=IU (GN N) f0 (by omega) (by omega);refine⟨c0,.mk l s1,rfl,q1,⟨q2,by show s1.size<=_;omega,q3⟩,?_⟩;exact aG (show s1.size+(l.map fun f:PF=>30+(f.2.map fun v=>30+v.2.1.size+uq N v.2.2).sum).sum<=30*(uptoBulk x0.1+((s1.size+1)+0)+1)by omega) (Nat.le_of_eq (by rw[<-hk]))
theorem IV {v:Value}{d:DataW H}{ps:List MemPlace}(hB:uptoBulk d<=1048576)(hv:∃cs,v= .agg cs/\cs.size=Tryz.prog.cellsOf 49)(h:DataW.Trod enc Tryz.prog w 0 (fun _=>true) true 49 v d ps):
  ∃k mv m,v= .agg #[mv,.string m.unk]/\fR k w (fun b=>b<w.heap.size) mv m/\kT k m/\uq k m<=31457280:=by
 obtain⟨fuel,hf⟩:=h;obtain⟨cs,rfl,_⟩:=hv;obtain⟨mv,m,h1,h2,h3,h4⟩:=GN (uptoBulk d) fuel _ (d,ps) (ay _) hB hf;refine⟨_,mv,m,?_,h2,h3,by have:uq (uptoBulk d) m<=30*uptoBulk d:=h4;omega⟩;have h1:cs.toList= [mv,.string m.unk]:=h1;rw[show cs= #[mv,.string m.unk]from Array.toList_inj.1 h1]
end
end
section
open Go.ChangeShapes Go.WideShapes Go.ChangeAt Go.RowKit
theorem own:ownKnob Tryz.prog.godebug=none:=by kernel_rfl
theorem uC:Tryz.prog.globalNamed "strconv.ErrRange" =some 5:=by kernel_rfl
theorem xZ:(Tryz.prog.globals[5]?).map (·.type)=some 354:=by kernel_rfl
theorem uD:Tryz.prog.globalNamed "twinwire/model.baseWords" =some 0:=by kernel_rfl
theorem ya:(Tryz.prog.globals[0]?).map (·.type)=some 427:=by kernel_rfl
theorem BF:Tryz.prog.cellsOf 493=1:=by kernel_rfl
theorem BG:Tryz.prog.cellsOf 427=15:=by kernel_rfl
theorem GO: "*" ++ "errors.errorString" = "*errors.errorString" :=by decide
theorem KZ (u:TypeId)(h:Tryz.prog.typeName? 3 u=some "*errors.errorString"):u=491:=
 typeName_ptr_named (nm:= "errors.errorString") (by rw[GO];kernel_rfl) (by kernel_rfl) (by decide) u (by rw[GO];exact h)
theorem pB:Rows.laid_unicode_utf8_first=Lib.firstData:=by kernel_rfl
theorem nO:(Rows.laid_unicode_utf8_acceptRanges:DataW Unit)=Lib.acceptData:=by kernel_rfl
theorem dI {H:Type}{enc:TypeId×Value->H}{P:Program}{w:World}{base:Nat}{sp:Nat->Bool}{held:Bool}{fuel:Nat}{t:TypeId}{c:Value}{y:DataW H×List MemPlace}
  (ht:P.underlying t=some .string) (h:DataW.trod enc P w base sp held fuel t [c]=some y):∃s,c= .string s/\y=(.lit (.string s.data.toList),[]):=by
 obtain⟨s,h1,h2,_⟩:=DataW.trod_string ht h;exact⟨s,List.cons.inj h1|>.1,h2⟩
theorem uE {W:World}(h:Lib.VarReads Tryz.prog W "twinwire/model.baseWords" Rows.laid_twinwire_model_baseWords):BOK W:=by
 obtain⟨g,t,cs,fuel,p,hg,ht,N2,hd⟩:=h;obtain rfl:=Option.some.inj (uD.symm.trans hg);obtain rfl:=Option.some.inj (ya.symm.trans ht)
 have hb:cs=(yx.map Value.string).toArray:=by
  obtain⟨l⟩:=cs
  cases fuel with
  |zero=>simp[DataW.trod]at hd
  |succ fuel=>
   simp only[DataW.trod,Tryz.underlying427,BG,ou]at hd
   split at hd
   ·rename_i hl
    obtain⟨c0,c1,c2,c3,c4,c5,c6,c7,c8,c9,c10,N3,N7,Io,Im,rfl⟩:∃c0 c1 c2 c3 c4 c5 c6 c7 c8 c9 c10 N3 N7 Io Im,l= [c0,c1,c2,c3,c4,c5,c6,c7,c8,c9,c10,N3,N7,Io,Im]:=by
     match l,hl with
     | [a0,a1,a2,a3,a4,a5,a6,a7,a8,a9,a10,a11,a12,a13,a14],_=>exact⟨a0,a1,a2,a3,a4,a5,a6,a7,a8,a9,a10,a11,a12,a13,a14,rfl⟩
    have e:List.range 15= [0,1,2,3,4,5,6,7,8,9,10,11,12,13,14]:=rfl;rw[e]at hd;simp only[Option.map_eq_some_iff,List.mapM_cons,List.mapM_nil,Option.bind_eq_bind,Option.bind_eq_some_iff,Option.pure_def,Option.some.injEq]at hd;obtain⟨xs,⟨y0,h0,_,⟨y1,h1,_,⟨y2,h2,_,⟨y3,h3,_,⟨y4,h4,_,⟨y5,h5,_,⟨y6,h6,_,⟨y7,h7,_,⟨y8,h8,_,⟨y9,h9,_,⟨y10,N8,_,⟨y11,Oa,_,⟨y12,Ob,_,⟨y13,Oc,_,⟨y14,Od,_,rfl,rfl⟩,rfl⟩,rfl⟩,rfl⟩,rfl⟩,rfl⟩,rfl⟩,rfl⟩,rfl⟩,rfl⟩,rfl⟩,rfl⟩,rfl⟩,rfl⟩,rfl⟩,hx⟩:=hd;obtain⟨n0,rfl,rfl⟩:=dI Tryz.underlying9 h0;obtain⟨n1,rfl,rfl⟩:=dI Tryz.underlying9 h1;obtain⟨n2,rfl,rfl⟩:=dI Tryz.underlying9 h2;obtain⟨n3,rfl,rfl⟩:=dI Tryz.underlying9 h3;obtain⟨n4,rfl,rfl⟩:=dI Tryz.underlying9 h4;obtain⟨n5,rfl,rfl⟩:=dI Tryz.underlying9 h5;obtain⟨n6,rfl,rfl⟩:=dI Tryz.underlying9 h6;obtain⟨n7,rfl,rfl⟩:=dI Tryz.underlying9 h7;obtain⟨n8,rfl,rfl⟩:=dI Tryz.underlying9 h8;obtain⟨n9,rfl,rfl⟩:=dI Tryz.underlying9 h9;obtain⟨n10,rfl,rfl⟩:=dI Tryz.underlying9 N8;obtain⟨n11,rfl,rfl⟩:=dI Tryz.underlying9 Oa;obtain⟨n12,rfl,rfl⟩:=dI Tryz.underlying9 Ob;obtain⟨n13,rfl,rfl⟩:=dI Tryz.underlying9 Oc;obtain⟨n14,rfl,rfl⟩:=dI Tryz.underlying9 Od;simp[Rows.laid_twinwire_model_baseWords]at hx;obtain⟨⟨x0,x1,x2,x3,x4,x5,x6,x7,x8,x9,x10,x11,x12,Oe,x14⟩,_⟩:=hx;rw[eo x0,eo x1,eo x2,eo x3,eo x4,eo x5,eo x6,eo x7,eo x8,eo x9,eo x10,eo x11,eo x12,eo Oe,eo x14];rfl
   ·cases hd
 intro i v hi;rw[World.var?_cell uD (hb▸N2) i];simpa using hi
theorem nP {W:World}(h:laidMetH Tryz.prog Rows.twinsUptoRow.laid W):GOK W/\BOK W/\UOK W:=by
 rw[MakeChecks.laidMetH_plain _ _ _ (by kernel_rfl)]at h;have hr:∀n d,(n,d)∈Rows.twinsUptoRow.laid->Lib.VarReads Tryz.prog W n d:=fun n d hm=>Lib.laidMet.reads h hm
 have h4:laidMet Tryz.prog [("strconv.ErrRange",Rows.laid_strconv_ErrRange), ("strconv.ErrSyntax",Rows.laid_strconv_ErrSyntax), ("twinwire/model.baseWords",Rows.laid_twinwire_model_baseWords), ("unicode/utf8.first",Rows.laid_unicode_utf8_first)] W:=h.tail.tail.tail.tail;obtain⟨a,s,hv,_⟩:=laid_sentinel h4 uC xZ Tryz.underlying354 KZ Tryz.underlying491 Tryz.underlying493 rfl rfl Tryz.underlying9 BF ou;refine⟨⟨_,by simpa using World.var?_cell uC hv 0,.inr ⟨_,_,rfl⟩⟩,uE (hr _ _ (by simp[Rows.twinsUptoRow])),?_⟩;have r1:=hr "unicode/utf8.first" _ (.tail _ (.tail _ (.tail _ (.tail _ (.tail _ (.tail _ (.tail _ (.head _))))))));have r2:=hr "unicode/utf8.acceptRanges" _ (.tail _ (.tail _ (.tail _ (.head _))));rw[pB]at r1;rw[nO]at r2;exact utf8Tabs_of_readsT (U8Types.of196 Tryz.laysVs) ⟨by kernel_rfl,by kernel_rfl,by kernel_rfl,by kernel_rfl,by kernel_rfl,by kernel_rfl,by kernel_rfl⟩ r1 r2
end
end Go.Proofs.YtfebdimolnobaaaGreatDoor
