import Derived.Test.YtfebdimolnobaaaGreatDoorPmA
import Derived.Laws.AppendOwnNone
set_option maxRecDepth 100000
set_option maxHeartbeats 8000000
set_option linter.all false
namespace Go.Proofs.YtfebdimolnobaaaGreatDoor
open Go.RowKit Go.Proofs.Tryz
section
open Go.Maps
open Vo
def sN (w:aw)(f:eU)(h:lg f.num.1)(hb:jc f.num.1<=536870911)(hg:GOK w):
  Calls prog 109 #[.agg (FC f)] w λe w'=>e= .returned (aa (jC f))/\ak w w':=by
 have B0:=(Va w).alloc (aE _) (FO f);have wr:IntKind.i64.wrap (jc f.num.1:Int)=(jc f.num.1:Int):=by simp[IntKind.wrap,IntKind.bits,IntKind.signed];omega
 unfold jC;go_in
 go_wp2_with fail;refine(Td _ _ _ _ h (hg.O (Below.l _ _ _ hg.lt))).V ?_;rintro e w1 ⟨rfl,Vp⟩;go_wp2;go_ret;exact⟨rfl,B0.J (Vp.V Vd)⟩
def BOK (w:aw):Prop:=∀i v,(Fe.map Value.string)[i]?=some v->w.cell? (aj 0 i)=some v
def BOK.lt {w:aw}(h:BOK w):0<w.heap.size:=aV _ _ (h 0 _ rfl)
def BOK.O {w w':aw}(h:BOK w)(hb:w'.heap[0]?=w.heap[0]?):BOK w':=by
 intro i v hv;rw[<-h i v hv];unfold World.cell?;rw[hb]
def qe (s:au):Nat->Nat
 |0=>0
 |k+1=>if((Fe.getD k eS).toList==s.toList)then k else qe s k
def JY (k:Nat)(x:au)(h:Fe[k]?=some x)(w:aw):(Instr.index 427 (.agg #[ag ⟨#[105,110,116,51,50]⟩,ag ⟨#[105,110,116,54,52]⟩,ag ⟨#[117,105,110,116,51,50]⟩,ag ⟨#[117,105,110,116,54,52]⟩,ag ⟨#[115,105,110,116,51,50]⟩,ag ⟨#[115,105,110,116,54,52]⟩,ag ⟨#[98,111,111,108]⟩,ag ⟨#[102,105,120,101,100,51,50]⟩,ag ⟨#[102,105,120,101,100,54,52]⟩,ag ⟨#[115,102,105,120,101,100,51,50]⟩,ag ⟨#[115,102,105,120,101,100,54,52]⟩,ag ⟨#[102,108,111,97,116]⟩,ag ⟨#[100,111,117,98,108,101]⟩,ag ⟨#[115,116,114,105,110,103]⟩,ag ⟨#[98,121,116,101,115]⟩]) (aa (k:Int))).run prog w= .ok (ag x) w:=by
 have hk:k<15:=by
  by_cases h':k<15;.exact h'
  .rw[bf (by show 15<=k;omega)]at h;cases h
 rcases(show k=0\/k=1\/k=2\/k=3\/k=4\/k=5\/k=6\/k=7\/k=8\/k=9\/k=10\/k=11\/k=12\/k=13\/k=14 from by omega)with rfl|rfl|rfl|rfl|rfl|rfl|rfl|rfl|rfl|rfl|rfl|rfl|rfl|rfl|rfl
 all_goals
  obtain rfl:=Option.some.inj h;change _=_;kernel_rfl
def JZ (w:aw)(s:au)(hb:BOK w):
  Calls prog 245 #[ag s] w λe w'=>e= .returned (aa (qe s 15))/\w'=w:=by
 have c0:=hb 0 _ rfl;have c1:=hb 1 _ rfl;have c2:=hb 2 _ rfl;have c3:=hb 3 _ rfl;have c4:=hb 4 _ rfl;have c5:=hb 5 _ rfl;have c6:=hb 6 _ rfl;have c7:=hb 7 _ rfl;have c8:=hb 8 _ rfl;have c9:=hb 9 _ rfl;have c10:=hb 10 _ rfl;have Vp:=hb 11 _ rfl;have Vq:=hb 12 _ rfl;have Sc:=hb 13 _ rfl;have Sb:=hb 14 _ rfl;go_in
 go_wp2;clear c0 c1 c2 c3 c4 c5 c6 c7 c8 c9 c10 Vp Vq Sc Sb;go_loopw [3,7] (λv i wr=>∃(k:Nat),k<=15/\i=aa k/\v=aa (qe s k)/\w=wr) (λ_ i _=>15-(intOf i).toNat)
 case atStart=>exact⟨0,aP _,rfl,rfl,rfl⟩
 case round=>
  obtain⟨k,hk,rfl,rfl,rfl⟩:=hrel;by_cases hlt:k<15
  .have⟨x,hx⟩:=gx (l:=Fe) (show k<Fe.length from hlt);have e:qe s (k+1)=if x.toList==s.toList then k else qe s k:=by rw[qe,cr,hx];rfl
   have hi:=JY k x hx;have Vr:(k:Int)<15:=Vc;clear hx;cases hc:(x.toList==s.toList)
   .rw[hc,dO Vd]at e;go_wp2;go_roundw
    case rel=>exact⟨k+1,Vc,rfl,by rw[e],trivial⟩
    case measure=>simp[intOf];omega
   .rw[hc,dP rfl]at e;go_wp2;go_roundw
    case rel=>exact⟨k+1,Vc,rfl,by rw[e],trivial⟩
    case measure=>simp[intOf];omega
  .have Vr:decide ((k:Int)<15)=false:=Ve;obtain rfl:k=15:=Vc;go_wp2;go_ret;exact⟨rfl,rfl⟩
def GT (l:ap):Nat->Nat
 |0=>0
 |k+1=>if(mZ.getD k []==l)then k else GT l k
def Ob (k:Nat):(Fe.getD k eS).toList=mZ.getD k []:=by
 unfold Fe;rw[cr,cr,aT]
 cases mZ[k]? with
 |none=>simp[eS,ByteArray.toList_eq]
 |some l=>simp[ByteArray.toList_eq]
def Dv (s:au):∀k,qe s k=GT s.toList k
 |0=>rfl
 |k+1=>by rw[qe,GT,Dv s k,Ob]
def J8:∀l∈mZ,GT l 15=(Df mZ l 0).getD 0:=Vf
def J9 {s:au}(h:jI s.toList=true):qe s 15=oh s:=by
 have hm:s.toList∈mZ:=by simpa [jI]using h
 rw[Dv];exact J8 _ hm
def nh {s:au}(h:dV s=3):jI s.toList=true:=by
 unfold dV jq at h;split at h;.cases h
 .split at h;.cases h
  .split at h;.cases h
   .split at h;.assumption
    .cases h
def Ka (w:aw):(zeroValue 105).run prog w= .ok (.pointer none) w:=Vh
def gq.look {w:aw}{b n:Nat}{mp:an}(h:gq w b n mp)(s:au)(hs:s.size<=maxLen):
  (Instr.lookup 145 (.map (some b)) (ag s) false).run prog w= .ok (gZ (mp s)) w:=by
 obtain⟨D,h1,h2⟩:=h;have⟨v,ps,Vq,hR⟩:=h1.lookup IL underlying145 (Ka w) (lM none) (IM s hs);have e:=h2 s;unfold oH at e;rw[e]at hR;rw[Vq,qd hR]
def sO (mp:an)(s:au):Value:= .agg #[aa (jB mp s),gZ (zH mp s)]
def Dw (w:aw)(b:Nat)(mp:an)(s:au)(p:Nat)(hk:dV s=3)(hb:BOK w):
  Calls prog 167 #[.map (some b),.agg #[aa 3,ag s,aa p]] w λe w'=>e= .returned (sO mp s)/\ak w w':=by
 have B0:=((Va w).alloc (aE _) (am #[aa 3,ag s,aa p] 148)).alloc Vd (am #[aa 0,.pointer none] 216);have Vr:BOK ((w.U5 #[aa 3,ag s,aa p] 148).U5 #[aa 0,.pointer none] 216):=hb.O (B0.block _ hb.lt)
 have K1:∀x y,dX ((w.U5 #[aa 3,ag s,aa p] 148).U5 #[x,y] 216) (w.heap.size+1) #[x,y] 216:=λx y=>by
  have:=dX.new (w.U5 #[aa 3,ag s,aa p] 148) #[x,y] 216;simpa using this
 have B1:∀o,ak w ((w.alloc (am #[aa 3,ag s,aa p] 148)).alloc o):=λo=>(Vb w _).alloc Vd o
 have e3:qe s 15=oh s:=J9 (nh hk);have hT:sO mp s= .agg #[aa (qe s 15),.pointer none]:=(by unfold sO jB zH;rw[dP hk,dP hk,e3];rfl);rw[hT];clear hk e3 hT;go_in
 go_wp2_with fail;refine(JZ _ s Vr).V ?_;rintro e w1 ⟨rfl,rfl⟩;go_wp2;exact dR (el results167 _ _ rfl (K1 _ _) underlying216 Vh) rfl ⟨rfl,B1 _⟩
def Dx (w:aw)(b n:Nat)(mp:an)(k:Int)(s:au)(p:Nat)(H:gq w b n mp)(hs:s.size<=2000)(hk:k=dV s)(hk3:¬dV s=3):
  Calls prog 167 #[.map (some b),.agg #[aa k,ag s,aa p]] w λe w'=>e= .returned (sO mp s)/\ak w w':=by
 have B0:=((Va w).alloc (aE _) (am #[aa k,ag s,aa p] 148)).alloc Vd (am #[aa 0,.pointer none] 216);have H0:gq ((w.U5 #[aa k,ag s,aa p] 148).U5 #[aa 0,.pointer none] 216) b n mp:=H.O (B0.block _ H.lt)
 have K1:∀x y,dX ((w.U5 #[aa k,ag s,aa p] 148).U5 #[x,y] 216) (w.heap.size+1) #[x,y] 216:=λx y=>by
  have:=dX.new (w.U5 #[aa k,ag s,aa p] 148) #[x,y] 216;simpa using this
 have B1:∀o,ak w ((w.alloc (am #[aa k,ag s,aa p] 148)).alloc o):=λo=>(Vb w _).alloc Vd o
 have Vp:=H0.look s Vj;have hd:(k==3)=false:=by rw[hk];simp[hk3]
 have hd2:¬k=3:=by rw[hk];exact hk3
 unfold sO jB zH;rw[dO hk3,dO hk3];clear hk hk3 H0
 cases hm:mp s with
 |none=>
  rw[hm]at Vp;unfold gZ at Vp⊢;go_in
  go_wp2
  exact dR (el results167 _ _ rfl (K1 _ _) underlying216 Vh) rfl ⟨rfl,B1 _⟩
 |some x=>
  rw[hm]at Vp;unfold gZ at Vp⊢;go_in
  go_wp2;exact dR (el results167 _ _ rfl (K1 _ _) underlying216 Vh) rfl ⟨rfl,B1 _⟩
def xC (w:aw)(b n:Nat)(mp:an)(s:au)(p:Nat)(H:gq w b n mp)(hs:s.size<=2000)(hb:BOK w):
  U8 167 #[.map (some b),.agg #[aa (dV s),ag s,aa p]] w λe w'=>e= .returned (sO mp s)/\ak w w':=by
 by_cases hk:dV s=3;.have:=Dw w b mp s p hk hb;rw[hk];exact this
 .exact Dx w b n mp _ s p H hs rfl hk
end
abbrev LV:=Int×au
def vP (v:LV):Value:= .agg #[.int .u64 v.1,ag v.2,ai,U7]
section
variable {w:aw} {P:Value->PM->Prop}
theorem eO.nil (w:aw)(Z:ax)(T:TypeId)(k:Nat):eO w Z T k (ai) 0 []:=⟨br _ _ _ _,λb hb=>by cases hb⟩
def kB (P:Value->PM->Prop):ay->List PV->Prop
 |cs,[]=>cs= []
 |cs,v::vs=>∃mv rest,cs= .int .u64 v.1::ag v.2.1::mv::ag v.2.2.unk::rest/\P mv v.2.2/\kB P rest vs
def jx (P:Value->PM->Prop)(w:aw)(Z:ax)(vv:Value)(l:List PV):Prop:=
 ∃Vp,eO w Z 55 4 vv l.length Vp/\kB P Vp l
def mz (P:Value->PM->Prop)(w:aw)(Z:ax):ay->List PF->Prop
 |cs,[]=>cs= []
 |cs,f::fs=>∃vv rest,cs=aa f.1::vv::rest/\jx P w Z vv f.2/\mz P w Z rest fs
def qY:Nat->aw->(ax)->Value->PM->Prop
 |0,_,_,_,_=>False
 |k+1,w,Z,v,m=>∃cs,eO w Z 58 2 v m.fs.length cs/\mz (qY k w Z) w Z cs m.fs
theorem kB.imp {Q:Value->PM->Prop}(h:∀v m,P v m->Q v m):∀{l:List PV} {cs:ay},kB P cs l->kB Q cs l
 | [],_,h1=>h1
 |_::_,_,⟨mv,rest,h1,h2,h3⟩=>⟨mv,rest,h1,h _ _ h2,kB.imp h h3⟩
theorem jx.V {Q:Value->PM->Prop}{Z Y:ax}(hP:∀v m,P v m->Q v m)(hz:∀b,Z b->b<w.heap.size->Y b){vv:Value}{l:List PV}(h:jx P w Z vv l):jx Q w Y vv l:=by
 obtain⟨Vp,h1,h2⟩:=h;exact⟨Vp,h1.V hz,h2.imp hP⟩
theorem mz.V {Q:Value->PM->Prop}{Z Y:ax}(hP:∀v m,P v m->Q v m)(hz:∀b,Z b->b<w.heap.size->Y b):∀{fs:List PF} {cs:ay},mz P w Z cs fs->mz Q w Y cs fs
 | [],_,h1=>h1
 |_::_,_,⟨vv,rest,h1,h2,h3⟩=>⟨vv,rest,h1,h2.V hP hz,mz.V hP hz h3⟩
theorem qY.V {Z Y:ax}(hz:∀b,Z b->b<w.heap.size->Y b):∀{k:Nat} {v:Value} {m:PM},qY k w Z v m->qY k w Y v m
 |0,_,_,h=>h
 |_+1,_,_,⟨cs,h1,h2⟩=>⟨cs,h1.V hz,h2.V (λ_ _ h=>qY.V hz h) hz⟩
theorem kB.len:∀{l:List PV} {cs:ay},kB P cs l->cs.length=l.length*4
 | [],_,h=>by rw[show _= []from h];rfl
 |_::l,_,⟨mv,rest,h1,_,h3⟩=>by rw[h1];simp[h3.len];omega
theorem kB.append:∀{l r:List PV} {cs ds:ay},kB P cs l->kB P ds r->kB P (cs++ds) (l++r)
 | [],_,_,_,h1,h2=>by rw[show _= []from h1];exact h2
 |_::l,r,_,ds,⟨mv,rest,h1,h3,h4⟩,h2=>by rw[h1];exact⟨mv,rest++ds,rfl,h3,h4.append h2⟩
theorem kB.get:∀{l:List PV} {cs:ay},kB P cs l->∀{i:Nat} {v:PV},l[i]?=some v->
  ∃mv,P mv v.2.2/\cs[i*4]?=some (.int .u64 v.1)/\cs[i*4+1]?=some (ag v.2.1)/\cs[i*4+2]?=some mv/\cs[i*4+3]?=some (ag v.2.2.unk)
 | [],_,_,i,v,h=>by simp at h
 |x::l,_,⟨mv,rest,h1,h2,h3⟩,0,v,h=>by
  simp at h;subst h;subst h1
  exact⟨mv,h2,rfl,rfl,rfl,rfl⟩
 |x::l,_,⟨mv,rest,h1,h2,h3⟩,i+1,v,h=>by
  have⟨Vq,q1,q2,q3,q4,q5⟩:=h3.get (i:=i) (v:=v) (by simpa using h);subst h1;have e:∀j,(i+1)*4+j=(i*4+j)+4:=λj=>Vc
  refine⟨Vq,q1,?_,?_,?_,?_⟩;.rw[show(i+1)*4=i*4+4 from by omega];exact q2
  .rw[e];exact q3
  .rw[e];exact q4
  .rw[e];exact q5
end

def Tryz.infoV:(prog.info? 55).map (λi=>(i.zero,i.size,i.bytes))=some (some (.agg #[.int .u64 0,U7,ai,U7]),4,64):=Vh
def Tryz.infoF:(prog.info? 58).map (λi=>(i.zero,i.size,i.bytes))=some (some (.agg #[aa 0,ai]),2,32):=Vh
def kB.one {P:Value->PM->Prop}(hf:∀v m,P v m->v.oneCell'=true):∀{l:List PV} {cs:ay},kB P cs l->∀u∈cs,u.oneCell'=true
 | [],_,h,u,hu=>by rw[show _= []from h]at hu;simp at hu
 |_::l,_,⟨mv,rest,h1,h2,h3⟩,u,hu=>by
  rw[h1]at hu;simp only[aS]at hu;rcases hu with rfl|rfl|rfl|rfl|hu;.rfl
  .rfl
  .exact hf _ _ h2
  .rfl
  .exact h3.one hf u hu
def qs (w:aw)(t:TypeId)(a b c d:Value):∀j u,[a,b,c,d][j]?=some u->(w.alloc (.cells #[a,b,c,d] t)).cell? (((aj w.heap.size 0):Addr).add j)=some u:=by
 intro j u hj
 match j,hj with
 |0,hj=>simp at hj;subst hj;exact(dX.new w #[a,b,c,d] t).cell 0
 |1,hj=>simp at hj;subst hj;exact(dX.new w #[a,b,c,d] t).cell 1
 |2,hj=>simp at hj;subst hj;exact(dX.new w #[a,b,c,d] t).cell 2
 |3,hj=>simp at hj;subst hj;exact(dX.new w #[a,b,c,d] t).cell 3
 |j+4,hj=>simp at hj
def QE (w:aw)(t:TypeId)(a b:Value):∀j u,[a,b][j]?=some u->(w.alloc (.cells #[a,b] t)).cell? (((aj w.heap.size 0):Addr).add j)=some u:=by
 intro j u hj
 match j,hj with
 |0,hj=>simp at hj;subst hj;exact(dX.new w #[a,b] t).cell 0
 |1,hj=>simp at hj;subst hj;exact(dX.new w #[a,b] t).cell 1
 |j+2,hj=>simp at hj
def QS (B b n:Nat)(w:aw)(hB:B<=b)(Vp:dX w b #[.pointer none,ai] 285)(hBw:B<=w.heap.size)(hn:n<=2^47):
  Calls prog 151 #[eE b,aa n] w λe w'=>e= .returned (.tuple #[])/\fH w' B b (eE b) []/\Below B w w':=by
 have mixed:prog.follows Departure.mixedOrders=true:=Vh;have Vq:dX (w.setCell (aj b 0) (eE b)) b #[eE b,ai] 285:=Vp.set 0 _;have c1:(w.setCell (aj b 0) (eE b)).cell? (aj b 1)=some (ai):=Vq.cell 1;have Vv:Below B w (w.setCell (aj b 0) (eE b)):=(Below.refl B w).setCell (p:=(aj b 0)) hB _;have hU:fH (w.setCell (aj b 0) (eE b)) B b (eE b) []:=⟨hB,ai,Vq,br _ _ _ _,by simp[Value.ownBlock]⟩;have c1':(w.setCell (aj b 0) (eE b)).drew.cell? (aj b 1)=some (ai):=c1;go_in
 go_wp2_with fail;refine(Ei b w (Vp.cell 0) (by simp[World.shape?,show w.heap[b]?=_ from Vp]) (Vp.I.2 0)).V ?_;rintro e w' ⟨rfl,rfl⟩;go_wp2;go_region_o
 all_goals go_wp2_with (go_at_call 229;refine(QR B b n (w.setCell (aj b 0) (eE b)).drew hB Vq (by simpa [World.setCell,World.drew,-World.drew_eq]using hBw) hn).V ?_;rintro e w' ⟨rfl,h1,h2⟩)
 all_goals first
  |(go_end0;exact⟨rfl,h1,Vv.drew.J h2⟩)
  |(go_end0;exact⟨rfl,hU.drew,Vv.drew⟩)
def LT (B b:Nat)(l:ap)(w:aw)(h:fH w B b (eE b) l)(hBw:B<=w.heap.size):
  Calls prog 155 #[eE b] w λe w'=>e= .returned (ag ⟨l.toArray⟩)/\Below B w w':=by
 have mixed:prog.follows Departure.mixedOrders=true:=Vh;obtain⟨hB,v,Vp,Vr,hne⟩:=h;have Vy:∀(W:aw) (q:aC),(Builtin.unsafeString_ #[357,3] 9 #[.pointer q,aa 0]).run prog W= .ok (.string .empty) W:=λW q=>Lib.run_unsafeString_none W _ _ _ q
 rw[Lib.byteCells_length]at Vr;have hlt:=dX.lt Vp;rcases Vr.2 with⟨rfl,hz⟩|⟨g,cap,Vs,rfl,VA,hg,Vw,VB,Vx,htake⟩
 .obtain rfl:=List.length_eq_zero_iff.1 hz;have c1:w.drew.cell? (aj b 1)=some (ai):=dX.cell Vp 1;have Vt:(Builtin.unsafeSliceData_ #[140] 357 #[ai]).run prog w.drew= .ok (.pointer none) w.drew:=rfl;go_in
  go_wp2;go_region_o
  all_goals (go_wp2;go_ret;exact⟨rfl,Below.drew (Below.refl B w)⟩)
 .cases l with
  |nil=>
   by_cases hc0:cap=0
   .subst hc0;have c1:w.drew.cell? (aj b 1)=some (U9 g 0 0):=dX.cell Vp 1
    have Vt:(Builtin.unsafeSliceData_ #[140] 357 #[U9 g 0 0]).run prog w.drew= .ok (ah w.drew.heap.size) (w.drew.alloc (.view (aj g 0) 5)):=
     Lib.run_unsafeSliceData_zero w.drew _ _ 5 underlying357 (aj g 0) 0 (5,Vs.size) (by have Vu:w.drew.heap[g]?=some (.cells Vs 5 (0,0)):=hg;simp[World.shape?,Vu])
    have c2:(w.drew.alloc (.view (aj g 0) 5)).cell? (aj b 1)=some (U9 g 0 0):=(dX.alloc (w:=w.drew) Vp _).cell 1;have c3:(w.alloc (.view (aj g 0) 5)).drew.cell? (aj b 1)=some (U9 g 0 0):=c2;have c0:w.cell? (aj b 1)=some (U9 g 0 0):=c1;go_in
    go_wp2;go_region_o
    all_goals (go_wp2;go_ret;exact⟨rfl,(Below.drew (Below.refl B w)).alloc hBw _⟩)
   .have c1:w.drew.cell? (aj b 1)=some (U9 g 0 cap):=dX.cell Vp 1
    have Vt:(Builtin.unsafeSliceData_ #[140] 357 #[U9 g 0 cap]).run prog w.drew= .ok (ah g) w.drew:=
     Lib.run_unsafeSliceData_row _ _ _ _ _ _ hc0
    clear hc0 Vw Vx;go_in
    go_wp2;go_region_o
    all_goals (go_wp2;go_ret;exact⟨rfl,Below.drew (Below.refl B w)⟩)
  |cons x r=>
   have h0:x::r≠ []:=Vd;generalize x::r=l at*;have Vz:l.length≠0:=by simpa using h0
   have c1:w.drew.cell? (aj b 1)=some (U9 g l.length cap):=dX.cell Vp 1
   have Vt:(Builtin.unsafeSliceData_ #[140] 357 #[U9 g l.length cap]).run prog w.drew= .ok (ah g) w.drew:=
    Lib.run_unsafeSliceData_row _ _ _ _ _ _ Vc
   have Vy:(Builtin.unsafeString_ #[357,3] 9 #[ah g,aa l.length]).run prog w.drew= .ok (ag ⟨l.toArray⟩) (w.drew.freeze (aj g 0) l.length):=(by refine Lib.run_unsafeString_row w.drew 357 3 9 5 underlying357 Vh g Vs.size (by have Vu:w.drew.heap[g]?=some (.cells Vs 5 (0,0)):=hg;simp[World.shape?,Vu]) l h0 Vc (by unfold maxLen at VB;omega) ?_;intro j x hx;exact Vr.cells (g:=g) rfl j (.int .u8 x.toNat) (by simp[Lib.byteCells,hx]));clear Vz Vw Vx;go_in
   go_wp2;go_region_o
   all_goals (go_wp2;go_ret;exact⟨rfl,Lib.below_freeze (Below.drew (Below.refl B w)) (p:=(aj g 0)) VA _⟩)
section
variable {P:Program} {ops:Array Oper} {Q:Exit->Act->aw->Prop}
def uU (l:List Bool)(i:Nat)(h:l[i]?=some false):(l.set i true).count false+1=l.count false:=by
 induction l generalizing i with
 |nil=>cases h
 |cons x xs ih=>
  cases i with
  |zero=>simp only[cp,Option.some.injEq]at h;subst h;simp
  |succ i=>
   simp only[co]at h;have q:=ih i h;simp only[aG,List.count_cons];omega
def rj {L:Array Bool}{i:Nat}(h:L.getD i true=false):L.toList[i]?=some false:=by
 rw[bO];rw[Array.getD_eq_getD_getElem?]at h
 cases hq:L[i]? with
 |none=>rw[hq]at h;cases h
 |some x=>rw[hq]at h;exact dS some h
def If (P:Program)(ops:Array Oper)(Q:Exit->Act->aw->Prop)(J:Array Bool->Act->aw->Prop)(i:Nat)(o:Oper):Prop:=
 ∀L a w,J L a w->L.getD i true=false->(o.after.all λe=> !Region.binds .any e||L.getD e.on false)=true->
  ∀K:Act->aw->Prop,Shut (∀a' w',J (L.setIfInBounds i true) a' w'->K a' w')->
   if Region.wanted o (yielded ops a.tmps)=true then Oper.wp P o a w K Q else K (a.put o.dst undef) w
def eV {af:Array Edge}{L:Array Bool}{k:Nat}(hd:(af.all λe=> !Region.binds .any e||L.getD e.on false)=true)(hk:(af.any λe=>Region.binds .any e&&e.on==k)=true):L.getD k false=true:=by
 have⟨i,hi,h⟩:=Array.any_eq_true.1 hk;rw[aQ]at h;have q:=Array.all_eq_true.1 hd i hi;rw[h.1,dA,dy,beq_iff_eq.1 h.2]at q;exact q
def nH (P:Program)(ops:Array Oper)(Q:Exit->Act->aw->Prop)(J:Array Bool->Act->aw->Prop)(k:Nat)(l:List Oper):Prop:=∀j o,l[j]?=some o->If P ops Q J (k+j) o
def nH.nil {J:Array Bool->Act->aw->Prop}{k:Nat}:nH P ops Q J k []:=λj o h=>by cases h
def nH.cons {J:Array Bool->Act->aw->Prop}{k:Nat}{o:Oper}{l:List Oper}(h:If P ops Q J k o)(hs:nH P ops Q J (k+1) l):nH P ops Q J k (o::l):=λj x hx=>by
 cases j with
 |zero=>simp only[cp,Option.some.injEq]at hx;subst hx;exact h
 |succ j=>simp only[co]at hx;have q:=hs j x hx;rwa [Nat.add_right_comm,de]at q
def Mg (ops:Array Oper):Bool:=(List.range ops.size).all λi=>((ops[i]?).map λo=>o.after.all λe=> !Region.binds .any e||decide (e.on<i)).getD true
def Jl (hb:Mg ops=true){L:Array Bool}(h:Region.ready .any ops L= [])(n:Nat):∀i,i<n->i<ops.size->L.getD i true=true:=by
 induction n with
 |zero=>intro i hi;omega
 |succ n ih=>
  intro i hi hl;by_cases hn:i<n;.exact ih i hn hl
  have e:i=n:=Vc;subst e
  cases hg:L.getD i true with
  |true=>rfl
  |false=>
   have hm:i∈Region.ready .any ops L:=(by refine mem_ready.2 ⟨hg,_,bU hl,λe he Vr=> ?_⟩;have q:=cg.1 hb i (List.mem_range.2 hl);rw[bU hl]at q;have q1:=Array.all_eq_true_iff_forall_mem.1 q e he;rw[Vr,dA,dy]at q1;have q2:=of_decide_eq_true q1;have q3:=ih e.on q2 Vc;have q4:e.on<L.size:=(by have q5:=rj hg;rw[bO]at q5;have⟨q6,_⟩:=bI.1 q5;omega);rw[Array.getD_eq_getD_getElem?,bU q4]at q3⊢;exact q3);rw[h]at hm;cases hm
def Jm {L:Array Bool}(h:L.toList.count false=0)(i:Nat):L.getD i true=true:=by
 cases hg:L.getD i true with
 |true=>rfl
 |false=>
  have q:=uU _ _ (rj hg);omega
def Jn {J:Array Bool->Act->aw->Prop}(hb:Mg ops=true)(hs:nH P ops Q J 0 ops.toList)(hd:∀L a w,J L a w->(∀i,i<ops.size->L.getD i true=true)->Q .normal a w):
  ∀(fuel:Nat) (L:Array Bool) (a:Act) (w:aw),L.toList.count false<=fuel->J L a w->wpAny P .any ops Q fuel L a w:=by
 intro fuel
 induction fuel with
 |zero=>
  intro L a w hc hj;refine⟨List.eq_nil_iff_forall_not_mem.2 λi hi=> ?_,hd _ _ _ hj λi _=>Jm Vc i⟩;have q:=uU _ _ (rj (mem_ready.1 hi).1)
  omega
 |succ n ih=>
  intro L a w hc hj;refine⟨λh0=>hd _ _ _ hj λi hi=>Jl hb h0 (i+1) i (Nat.lt_succ_self i) hi,λi hi=> ?_⟩;have⟨h0,o,ho,Vp⟩:=mem_ready.1 hi;have q:=uU _ _ (rj h0);have Vq:=hs i o (by rw[bO];exact ho);rw[Nat.zero_add]at Vq;refine wpOp_step ho λK' hK=>Vq L a w hj h0 ?_ K' λa' w' Vs=>hK a' w' (ih _ a' w' ?_ Vs)
  .rw[Array.all_eq_true_iff_forall_mem];intro e he
   cases hb:Region.binds .any e with
   |false=>rfl
   |true=>simpa using Vp e he hb
  .rw[Array.toList_setIfInBounds];omega
def kD {id:Nat}{a:Act}{w:aw}(J:Array Bool->Act->aw->Prop)(hm:P.follows .mixedOrders=true)(h0:J (Array.replicate ops.size false) a w.drew)
  (hb:Mg ops=true) (hd:∀L a w,J L a w->(∀i,i<ops.size->L.getD i true=true)->Q .normal a w) (hs:nH P ops Q J 0 ops.toList):(Code.region id ops true).wp P Q a w:=
 wp_region_any hm (Jn hb hs hd _ _ _ _ Vd h0)
end
end Go.Proofs.YtfebdimolnobaaaGreatDoor
