import Derived.Test.YtfebdimolnobaaaGreatDoorPyA
import Derived.Sort.Walk0
import Derived.DeepKeys4
set_option maxRecDepth 100000
set_option maxHeartbeats 8000000
set_option linter.all false
namespace Go.Proofs.YtfebdimolnobaaaGreatDoor
open Go.RowKit Go.Proofs.Tryz
section
attribute [local go_sem↓] Go.wp_at_zero Go.wp_at_succ
def G7 (l:List fZ)(ns:List Int)(e:Ending):Prop:=
 (e= .returned (.int .i64 (-1))/\∀x∈l,x.1∉ns)\/∃i:Nat,e= .returned (.int .i64 i)/\i<l.length/\(∀k x,l[k]?=some x->k<i->x.1∉ns)/\∀x,l[i]?=some x->x.1∈ns
theorem G8 (w:World)(v:Value)(l:List fZ)(nb:Nat)(nv:Value)(ns:List Int)(hrow:w.ownsRow 0 249 4 v l.length (l.flatMap dY))(h1:∀x∈l,x.2.1.oneCell'=true/\x.2.2.1.oneCell'=true/\x.2.2.2.oneCell'=true)(hl:l.length<=1073741824)
  (hb:dK w nb #[nv] 35) (hnr:w.ownsRow 0 3 1 nv ns.length (fV ns)) (hnl:ns.length<=1073741824):
  Calls Tryz.prog 344 #[v,vA nb] w fun e w'=>G7 l ns e/\Below w.heap.size w w':=by
 obtain⟨a,c,rfl⟩:=iW hrow;have HG:Hid (∀(i:Nat) (x:fZ),l[i]?=some x->∃g,a=some ⟨g,0,none⟩/\g<w.heap.size/\∀w':World,w'.heap[g]?=w.heap[g]?->w'.cell? ⟨g,i*4,none⟩=some (.int .i64 x.1)/\w'.cell? ⟨g,i*4+1,none⟩=some x.2.1/\w'.cell? ⟨g,i*4+2,none⟩=some x.2.2.1/\w'.cell? ⟨g,i*4+3,none⟩=some x.2.2.2):=fun i x hx=>qF hrow hx
 have HN:Hid (∀(wr:World) (x:fZ),Below w.heap.size w wr->Calls Tryz.prog 264 #[.agg #[.int .i64 x.1,x.2.1,x.2.2.1,x.2.2.2],.pointer (some ⟨nb,0,none⟩)] wr fun e w'=>e= .returned (.bool (decide (x.1∈ns)))/\Below wr.heap.size wr w'):=fun wr x hB=>G6 wr nb nv ns x ((hB.block nb hb.lt).trans hb) (d7 hnr fun b e=>hB.block b (hnr.lt b e).2) hnl
 clear hrow;unfold vA;go_enter Tryz.func344,Tryz.ntmps344;go_wp2;go_loopw [8] (fun iv wr=>∃(i:Nat),i<=l.length/\iv= .int .i64 i/\Hid (∀(k:Nat) (x:fZ),l[k]?=some x->k<i->x.1∉ns)/\Below w.heap.size w wr) (fun iv _=>((l.length:Int)-(intOf iv)).toNat)
 case atStart=>exact⟨0,aM _,rfl,(fun k x _ h=>by omega),Below.refl _ _⟩
 case round=>
  obtain⟨i,Q2,rfl,H1,CW⟩:=hrel
  by_cases hlt:i<l.length
  ·obtain⟨x,hx⟩:=gx hlt;obtain⟨g,rfl,QW,Q3⟩:=HG.out i x hx;obtain⟨c0,c1,c2,c3⟩:=Q3 wr (CW.block g QW);obtain⟨o1,o2,o3⟩:=h1 x (aI hx);clear Q3;have HX:Hid (l[i]?=some x):=hx;have hD:=HN.out wr x CW;have Q5:IntKind.i64.wrap ((i:Int)+1)=(i:Int)+1:=by rw[IntKind.wrap_i64];omega
   by_cases hxt:x.1∈ns
   ·have hd:decide (x.1∈ns)=true:=decide_eq_true hxt;rw[hd]at hD;have QS:Hid (x.1∈ns):=hxt;clear hx HG hxt hd;go_wp2_with fail;refine hD.mono ?_;rintro e w2 ⟨rfl,b2⟩;go_wp2;go_ret;exact⟨.inr ⟨i,rfl,hlt,H1.out,fun y hy=>by rw[HX.out]at hy;rw[<-Option.some.inj hy];exact QS.out⟩,er CW b2⟩
   ·have hd:decide (x.1∈ns)=false:=decide_eq_false hxt;rw[hd]at hD;have QS:Hid (x.1∉ns):=hxt;clear hx HG hxt hd;go_wp2_with fail;refine hD.mono ?_;rintro e w2 ⟨rfl,b2⟩;go_wp2;go_roundw
    case rel=>exact⟨i+1,by omega,rfl,(fun k y hy hk=>by
     by_cases e:k=i
     ·subst e;rw[HX.out]at hy;rw[<-Option.some.inj hy];exact QS.out
     ·exact H1.out k y hy (by omega)),er CW b2⟩
    case measure=>simp[intOf];omega
  ·obtain rfl:i=l.length:=by omega
   clear HG HN;go_wp2;go_ret;refine⟨.inl ⟨rfl,fun x hx=> ?_⟩,CW⟩;obtain⟨k,hk⟩:=bT.1 hx;have Q6:=gl hk;exact H1.out k x hk Q6
theorem O5 (A R:List Value)(m0 m1 m2 m3 a b c d:Value)(k:Nat)(hk:A.length=k):((((A++m0::m1::m2::m3::R).set k a).set (k+1) b).set (k+2) c).set (k+3) d=A++a::b::c::d::R:=by
 subst hk;simp
def me (n:Nat):List Value:=(Builtin.zeroCells #[.int .i64 0,.slice none 0 0,.slice none 0 0,.map none] n).toList
theorem tP (w:World)(ty:TypeId)(g o n c:Nat)(QP:Array Value)(hn:0<n)(hg:w.heap[g]?=some (.cells QP 249 (0,0)))(hfit:o+n*4<=QP.size):
  (Builtin.clear_ #[181] ty #[.slice (some ⟨g,o,none⟩) n c]).run Tryz.prog w= .ok (.tuple #[]) (w.setRow g (QP.toList.take o++me n++QP.toList.drop (o+n*4)).toArray):=by
 have QV:(me n).length=n*4:=by simp[me,Builtin.zeroCells]
 have h1:∀v∈me n,v.oneCell'=true:=by
  intro v hv;simp[me,Builtin.zeroCells]at hv;obtain⟨i,_,rfl⟩:=hv;have:i%4<4:=Nat.mod_lt _ (by omega);generalize i%4=q at this
  match q,this with
  |0,_=>rfl
  |1,_=>rfl
  |2,_=>rfl
  |3,_=>rfl
 have QY:=run_storeCells_at Tryz.prog g o 249 (me n) 0 QP w hg (by rw[QV];simpa using hfit) h1;rw[QV]at QY;have hu:Tryz.prog.underlying 181=some (.slice 249):=Tryz.underlying181;obtain⟨m,rfl⟩:∃m,n=m+1:=⟨n-1,by omega⟩;unfold me at QY;simp[Builtin.clear_,run_underlying hu,Tryz.zeroValue249,Value.cells,QY,me]
def vB (ns:List Int)(x:fZ):Bool:=decide (x.1∉ns)
def jB (ns:List Int)(l:List fZ):List fZ:=l.filter (vB ns)
theorem xT {α:Type}{l:List α}{j:Nat}{x:α}(h:l[j]?=some x):l.take (j+1)=l.take j++ [x]:=by
 rw[bB,h];rfl
theorem ux {α:Type}{l:List α}{j:Nat}{x:α}(h:l[j]?=some x):l.drop j=x::l.drop (j+1):=by
 obtain⟨hh,rfl⟩:=ca.1 h;exact(aZ hh)
theorem lq {ns:List Int}{l:List fZ}{j:Nat}{x:fZ}(h:l[j]?=some x)(hx:x.1∈ns):jB ns (l.take (j+1))=jB ns (l.take j):=by
 unfold jB;rw[xT h,cI];simp[vB,hx]
theorem nA {ns:List Int}{l:List fZ}{j:Nat}{x:fZ}(h:l[j]?=some x)(hx:x.1∉ns):jB ns (l.take (j+1))=jB ns (l.take j)++ [x]:=by
 unfold jB;rw[xT h,cI];simp[vB,hx]
theorem xU {ns:List Int}{l:List fZ}(h:∀x∈l,x.1∉ns):jB ns l=l:=dm.2 (fun x hx=>by simp[vB,h x hx])
theorem G9 {ns:List Int}{l:List fZ}:(jB ns l).length<=l.length:=bW _ _
theorem nB (l:List fZ):(l.flatMap dY).length=l.length*4:=by
 induction l with
 |nil=>rfl
 |cons x l ih=>rw[bw,aG,ih,fS,bE];omega
def Mx (w:World)(v:Value)(l:List fZ)(ns:List Int)(e:Ending)(w':World):Prop:=
 ∃v',e= .returned v'/\v'.ownBlock=v.ownBlock/\w'.ownsRow 0 249 4 v' (jB ns l).length ((jB ns l).flatMap dY)/\w.grownBy w' v.ownBlock
def mf (w:World)(g c:Nat)(l:List fZ)(ns:List Int)(i j:Nat)(wr:World):Prop:=
 i=(jB ns (l.take j)).length/\i<j/\∃M,M.length=(j-i)*4/\wr.ownsRow 0 249 4 (.slice (some ⟨g,0,none⟩) l.length c) l.length ((jB ns (l.take j)).flatMap dY++M++(l.drop j).flatMap dY)/\w.grownBy wr (some g)
theorem mf.cells {w wr:World}{g c i j:Nat}{l:List fZ}{ns:List Int}(h:mf w g c l ns i j wr){x:fZ}(hx:l[j]?=some x):
  wr.cell? ⟨g,j*4,none⟩=some (.int .i64 x.1)/\wr.cell? ⟨g,j*4+1,none⟩=some x.2.1/\wr.cell? ⟨g,j*4+2,none⟩=some x.2.2.1/\wr.cell? ⟨g,j*4+3,none⟩=some x.2.2.2/\g<wr.heap.size:=by
 obtain⟨h1,h2,M,h3,h4,h5⟩:=h;have QZ:=gl hx;obtain⟨g',hg,_,QW,QQ⟩:=eh h4 (by omega)
 cases hg
 have hA:((jB ns (l.take j)).flatMap dY++M).length=j*4:=by rw[aG,nB,<-h1,h3];omega
 rw[ux hx]at QQ
 have hf:∀q u,(dY x)[q]?=some u->wr.cell? ⟨g,j*4+q,none⟩=some u:=fun q u hq=>by
  refine QQ wr rfl _ u ?_
  have Q7:q<(dY x).length:=by
   by_cases t:q<(dY x).length
   ·exact t
   ·rw[aU (by omega)]at hq;cases hq
  rw[cB (by omega),hA,Nat.add_sub_cancel_left,bw,cM Q7];exact hq
 exact⟨hf 0 _ rfl,hf 1 _ rfl,hf 2 _ rfl,hf 3 _ rfl,QW⟩
theorem kK {w w':World}{row:Option Nat}(h:w.grownBy w' row)(o:Obj):w.grownBy (w'.alloc o) row:=
 ⟨h.os,h.tape,h.output,aH h.size (by simp),fun k hk QT=>(Below.heap_alloc w' o k (aC hk h.size)).trans (h.block k hk QT)⟩
theorem qt {w w' w2:World}{row:Option Nat}(h:w.grownBy w' row)(hb:Below w'.heap.size w' w2):w.grownBy w2 row:=
 ⟨hb.os.trans h.os,hb.tape.trans h.tape,hb.output.trans h.output,aH h.size hb.size,fun k hk QT=>(hb.block k (aC hk h.size)).trans (h.block k hk QT)⟩
theorem jK {w w':World}{g:Nat}(h:w.grownBy w' (some g))(o:Nat)(v:Value):w.grownBy (w'.setCell ⟨g,o,none⟩ v) (some g):=
 ⟨h.os,h.tape,h.output,by simpa using h.size,fun k hk QT=>by
  rw[dJ,if_neg (fun e=>QT (by rw[e]))]
  exact h.block k hk QT⟩
theorem mf.room {w wr w2:World}{g c i j:Nat}{l:List fZ}{ns:List Int}(h:mf w g c l ns i j wr)(hj:j<=l.length)(hb:Below wr.heap.size wr w2):
  ∃u0 u1 u2 u3,w2.cell? ⟨g,i*4,none⟩=some u0/\w2.cell? ⟨g,i*4+1,none⟩=some u1/\w2.cell? ⟨g,i*4+2,none⟩=some u2/\w2.cell? ⟨g,i*4+3,none⟩=some u3/\∀o,w2.frozen? ⟨g,o,none⟩=false:=by
 obtain⟨h1,h2,M,h3,h4,h5⟩:=h
 rcases h4.2 with⟨q,_⟩|⟨g',cap,QP,q,q1,q2,q3,q4,q5,q6⟩
 ·cases q
 ·cases q
  have Q8:dK w2 g QP 249:=(hb.block g (dK.lt q2)).trans q2;obtain⟨y1,y2⟩:=Q8.rules;have e:∀o,o<c*4->∃u,w2.cell? ⟨g,o,none⟩=some u:=fun o ho=>⟨QP[o]'(by omega),by rw[y1,bz (by omega)]⟩
  obtain⟨u0,e0⟩:=e (i*4) (by omega);obtain⟨u1,e1⟩:=e (i*4+1) (by omega);obtain⟨u2,e2⟩:=e (i*4+2) (by omega);obtain⟨u3,e3⟩:=e (i*4+3) (by omega);exact⟨u0,u1,u2,u3,e0,e1,e2,e3,y2⟩
theorem mf.gone {w wr w2:World}{g c i j:Nat}{l:List fZ}{ns:List Int}(h:mf w g c l ns i j wr){x:fZ}(hx:l[j]?=some x)(hn:x.1∈ns)(hb:Below wr.heap.size wr w2):mf w g c l ns i (j+1) w2:=by
 obtain⟨h1,h2,M,h3,h4,h5⟩:=h;refine⟨by rw[lq hx hn];exact h1,by omega,M++dY x,by rw[aG,h3,fS];omega,?_,qt h5 hb⟩;rw[lq hx hn];rw[ux hx,bw]at h4;refine d7 ?_ (fun b Q0=>hb.block b (h4.lt b Q0).2);simpa using h4
theorem mf.stays {w wr w2:World}{g c i j:Nat}{l:List fZ}{ns:List Int}(h:mf w g c l ns i j wr){x:fZ}(hx:l[j]?=some x)(hn:x.1∉ns)(hb:Below wr.heap.size wr w2):
  mf w g c l ns (i+1) (j+1) ((((w2.setCell ⟨g,i*4,none⟩ (.int .i64 x.1)).setCell ⟨g,i*4+1,none⟩ x.2.1).setCell ⟨g,i*4+2,none⟩ x.2.2.1).setCell ⟨g,i*4+3,none⟩ x.2.2.2):=by
 obtain⟨h1,h2,M,h3,h4,h5⟩:=h;have QZ:=gl hx;have h6:=d7 h4 (fun b Q0=>hb.block b (h4.lt b Q0).2);rw[ux hx,bw]at h6
 obtain⟨m0,m1,m2,m3,R,hR⟩:∃m0 m1 m2 m3 R,M++dY x=m0::m1::m2::m3::R:=by
  have:4<=M.length:=by omega
  match M,this with
  |m0::m1::m2::m3::R,_=>exact⟨m0,m1,m2,m3,R++dY x,rfl⟩
 have Q9:R.length=(j-i)*4:=by
  have:=congrArg List.length hR;simp[h3,fS]at this;omega
 rw[show((jB ns (l.take j)).flatMap dY++M++(dY x++(l.drop (j+1)).flatMap dY))=(jB ns (l.take j)).flatMap dY++m0::m1::m2::m3::(R++(l.drop (j+1)).flatMap dY)from by
  rw[aW,<-aW M,hR];simp]at h6
 have Ra:((jB ns (l.take j)).flatMap dY).length=i*4:=by rw[nB,<-h1]
 have h7:=kX (kX (kX (kX h6 (o:=i*4) (.int .i64 x.1) (by omega)) (o:=i*4+1) x.2.1 (by omega)) (o:=i*4+2) x.2.2.1 (by omega)) (o:=i*4+3) x.2.2.2 (by omega);rw[O5 _ _ _ _ _ _ _ _ _ _ _ Ra]at h7;refine⟨by rw[nA hx hn,aG];simp[h1],by omega,R,by rw[Q9];omega,?_,jK (jK (jK (jK (qt h5 hb) _ _) _ _) _ _) _ _⟩;rw[nA hx hn,cS];simpa [dY]using h7
theorem mf.stays4 {w wr w2:World}{g c i j:Nat}{l:List fZ}{ns:List Int}(h:mf w g c l ns i j wr){n:Int}{v1 v2 v3:Value}(hx:l[j]?=some (n,v1,v2,v3))(hn:n∉ns)(hb:Below wr.heap.size wr w2):
  Hid (mf w g c l ns (i+1) (j+1) ((((w2.setCell ⟨g,i*4,none⟩ (.int .i64 n)).setCell ⟨g,i*4+1,none⟩ v1).setCell ⟨g,i*4+2,none⟩ v2).setCell ⟨g,i*4+3,none⟩ v3)):=
 h.stays (x:=(n,v1,v2,v3)) hx hn hb
theorem Fj (w:World)(v:Value)(l:List fZ)(nb:Nat)(nv:Value)(ns:List Int)(hrow:w.ownsRow 0 249 4 v l.length (l.flatMap dY))(h1:∀x∈l,oT x)(hl:l.length<=1073741824)
  (hb:dK w nb #[nv] 35) (hnr:w.ownsRow 0 3 1 nv ns.length (fV ns)) (hnl:ns.length<=1073741824) (hne1:v.ownBlock≠some nb) (hne2:∀b,nv.ownBlock=some b->v.ownBlock≠some b):
  Calls Tryz.prog 263 #[v,vA nb] w (Mx w v l ns):=by
 have hF:=G8 w v l nb nv ns hrow (fun x hx=>(h1 x hx).one) hl hb hnr hnl;have HN:Hid (∀(wr:World) (x:fZ),w.grownBy wr v.ownBlock->Calls Tryz.prog 264 #[.agg #[.int .i64 x.1,x.2.1,x.2.2.1,x.2.2.2],.pointer (some ⟨nb,0,none⟩)] wr fun e w'=>e= .returned (.bool (decide (x.1∈ns)))/\Below wr.heap.size wr w'):=fun wr x hB=>G6 wr nb nv ns x ((hB.block nb hb.lt (fun e=>hne1 e.symm)).trans hb) (d7 hnr fun b e=>hB.block b (hnr.lt b e).2 (fun e'=>hne2 b e e'.symm)) hnl
 obtain⟨a,c,rfl⟩:=iW hrow;unfold vA at hF⊢;go_enter Tryz.func263,Tryz.ntmps263;go_wp2_with fail;refine hF.mono ?_;rintro e w1 ⟨hR,hB⟩
 rcases hR with⟨rfl,QU⟩|⟨i0,rfl,Rc,Q4,QR⟩
 ·have HA:Hid (jB ns l=l):=xU QU;clear QU HN hF;go_wp2;go_ret;refine⟨_,rfl,rfl,?_,⟨hB.os,hB.tape,hB.output,hB.size,fun k hk _=>hB.block k hk⟩⟩;rw[HA.out];exact d7 hrow fun b e=>hB.block b (hrow.lt b e).2
 ·obtain⟨g,rfl,_,QW,_⟩:=eh hrow (by omega);obtain⟨x0,QX⟩:∃x,l[i0]?=some x:=⟨_,aK Rc⟩;have hw0:IntKind.i64.wrap ((i0:Int)+1)=(i0:Int)+1:=by rw[IntKind.wrap_i64];omega
  have QT:((i0:Int)== -1)=false:=by simp
  have hcc:∃QP,w.heap[g]?=some (.cells QP 249 (0,0))/\QP.size=c*4/\l.length<=c/\c<=maxLen:=by
   rcases hrow.2 with⟨q,_⟩|⟨g',cap,QP,q,q1,q2,q3,q4,q5,q6⟩
   ·cases q
   ·cases q
    exact⟨QP,q2,q5,q3,q4⟩
  have D0:mf w g c l ns i0 (i0+1) w1:=by
   have e1:jB ns (l.take i0)=l.take i0:=xU fun x hx=>by
    obtain⟨k,hk⟩:=bT.1 hx
    have Q1:k<i0:=by
     by_cases q:k<i0
     ·exact q
     ·rw[aU (by rw[bn];omega)]at hk;cases hk
    rw[ci Q1]at hk;exact Q4 k x hk Q1
   have e2:=lq QX (QR x0 QX);refine⟨by rw[e2,e1,bn];omega,by omega,dY x0,by rw[fS];omega,?_,⟨hB.os,hB.tape,hB.output,hB.size,fun k hk _=>hB.block k hk⟩⟩;rw[e2,e1]
   have e3:(l.take i0).flatMap dY++dY x0++(l.drop (i0+1)).flatMap dY=l.flatMap dY:=by
    have:l=l.take i0++x0::l.drop (i0+1):=by rw[<-ux QX,bX]
    conv=>rhs;rw[this]
    simp
   rw[e3];exact d7 hrow fun b e=>hB.block b (hrow.lt b e).2
  have Rb:Hid (∀(wr:World) (x:fZ),w.grownBy wr (some g)->Calls Tryz.prog 264 #[.agg #[.int .i64 x.1,x.2.1,x.2.2.1,x.2.2.2],.pointer (some ⟨nb,0,none⟩)] wr fun e w'=>e= .returned (.bool (decide (x.1∈ns)))/\Below wr.heap.size wr w'):=HN.out;clear HN hF Q4 QR QX hrow hnr hB;go_wp2;go_loopw [5,6] (fun iv jv wr=>∃(i j:Nat),j<=l.length/\iv= .int .i64 i/\jv= .int .i64 j/\mf w g c l ns i j wr) (fun _ jv _=>((l.length:Int)-(intOf jv)).toNat)
  case atStart=>exact⟨i0,i0+1,by omega,rfl,by simp,D0⟩
  case round=>
   obtain⟨i,j,QZ,rfl,rfl,DA⟩:=hrel
   by_cases hlt:j<l.length
   ·obtain⟨x,hx⟩:=gx hlt;obtain⟨c0,c1,c2,c3,hgw⟩:=DA.cells hx;obtain⟨⟨a1,n1,k1,o1⟩,⟨a2,n2,k2,o2⟩,a3,o3⟩:=h1 x (aI hx);obtain⟨xn,x1,x2,x3⟩:=x;simp only at o1 o2 o3 c0 c1 c2 c3;subst o1 o2 o3;have HX:Hid (l[j]?=some (xn,.slice a1 n1 k1,.slice a2 n2 k2,.map a3)):=hx;have hij:i<j:=DA.2.1;have Q5:IntKind.i64.wrap ((j:Int)+1)=(j:Int)+1:=by rw[IntKind.wrap_i64];omega
    have hw2:IntKind.i64.wrap ((i:Int)+1)=(i:Int)+1:=by rw[IntKind.wrap_i64];omega
    have B1:Below wr.heap.size wr (wr.alloc (Obj.cells #[.int .i64 xn,.slice a1 n1 k1,.slice a2 n2 k2,.map a3] 249)):=(Below.refl _ _).alloc (ay _) _;have hG:w.grownBy wr (some g):=by obtain⟨_,_,_,_,_,q⟩:=DA;exact q
    have hD:=Rb.out (wr.alloc (Obj.cells #[.int .i64 xn,.slice a1 n1 k1,.slice a2 n2 k2,.map a3] 249)) (xn,.slice a1 n1 k1,.slice a2 n2 k2,.map a3) (kK hG _)
    by_cases hxt:xn∈ns
    ·have hd:decide (xn∈ns)=true:=decide_eq_true hxt;simp only[hd]at hD;have QS:Hid (xn∈ns):=hxt;clear hx hxt hd;go_wp2_with fail;refine hD.mono ?_;rintro e w2 ⟨rfl,b2⟩;go_wp2;go_roundw
     case rel=>exact⟨i,j+1,by omega,rfl,rfl,DA.gone HX.out QS.out (er B1 (by simpa using b2))⟩
     case measure=>simp[intOf];omega
    ·have hd:decide (xn∈ns)=false:=decide_eq_false hxt;simp only[hd]at hD;have QS:Hid (xn∉ns):=hxt;clear hx hxt hd;go_wp2_with fail;refine hD.mono ?_;rintro e w2 ⟨rfl,b2⟩;have b3:Below wr.heap.size wr w2:=er B1 (by simpa using b2);have BV:dK w2 wr.heap.size #[.int .i64 xn,.slice a1 n1 k1,.slice a2 n2 k2,.map a3] 249:=(b2.block _ (by simp)).trans (dK.new wr _ _);obtain⟨v1,v2⟩:=BV.rules;obtain⟨u0,u1,u2,u3,e0,e1,e2,e3,ef⟩:=DA.room QZ b3;have Q2:i<l.length:=by omega
     have hgv:wr.heap.size≠g:=by omega
     have DS:=DA.stays4 HX.out QS.out b3;go_wp2;go_roundw
     case rel=>
      refine⟨i+1,j+1,by omega,rfl,rfl,?_⟩;exact DS.out
     case measure=>simp[intOf];omega
   ·obtain rfl:j=l.length:=by omega
    obtain⟨q1,q2,M,q3,q4,q5⟩:=DA;have HQ:Hid (i=(jB ns l).length):=by show i=_;rw[q1,bU (ay _)]
    clear q1;rw[bU (ay _),List.drop_of_length_le (ay _)]at q4
    obtain⟨QP,p1,p2,p3,p4,p5⟩:∃QP,wr.heap[g]?=some (.cells QP 249 (0,0))/\QP.size=c*4/\c<=maxLen/\l.length<=c/\Hid (QP.toList.take (i*4)=(jB ns l).flatMap dY):=by
     rcases q4.2 with⟨q,_⟩|⟨g',cap,QP,q,r1,r2,r3,r4,r5,r6⟩
     ·cases q
     ·cases q
      refine⟨QP,r2,r5,r4,r3,?_⟩;show _=_;have e1:QP.toList.take (i*4)=(QP.toList.take (l.length*4)).take (i*4):=by rw[List.take_take,Nat.min_eq_left (by omega)]
      have e2:i*4=((jB ns l).flatMap dY).length:=by rw[nB,<-HQ.out]
      rw[e1,r6,aW,e2,List.take_left]
    have HCl:∀ty dc,(Builtin.clear_ #[181] ty #[.slice (some ⟨g,i*4,none⟩) (l.length-i) dc]).run Tryz.prog wr= .ok (.tuple #[]) (wr.setRow g (QP.toList.take (i*4)++me (l.length-i)++QP.toList.drop (i*4+(l.length-i)*4)).toArray):=fun ty dc=>tP wr ty g (i*4) (l.length-i) dc QP (by omega) p1 (by rw[p2];omega)
    have Q2:i<l.length:=by omega
    clear q4;go_wp2;go_ret;have QV:(me (l.length-i)).length=(l.length-i)*4:=by simp[me,Builtin.zeroCells]
    refine⟨_,rfl,rfl,?_,jp q5 (.inl rfl)⟩;rw[<-HQ.out];refine⟨by rw[nB,<-HQ.out],.inr ⟨g,c,_,rfl,aM _,setRow_heap _ _ _ _ _ _ p1,by omega,p3,?_,?_⟩⟩
    ·simp[QV,p2];omega
    ·have e1:i*4=(QP.toList.take (i*4)).length:=by rw[bn];simp[p2];omega
     have e2:∀A B:List Value,A.length=i*4->(A++B).take (i*4)=A:=fun A B h=>by rw[<-h,List.take_left]
     rw[List.toList_toArray,e2 _ _ e1.symm];exact p5.out
def PM.without (m:PM)(ns:List Int):PM:= .mk (m.fs.filter λf=>decide (f.1∉ns)) m.unk
def tu (m:PM)(n:Int):m.without [n]=m.put n []:=by
 show PM.mk _ _=PM.mk (gH n [] true m.fs) m.unk;rw[lL];simp
def od (S:d8)(k:Nat)(T:Option MT)(w:an)(Z:ap)(db:Nat)(m:PM)(nv:Value)(ns:List Int)(h:ed S (k+1) T w Z db m)(hnr:w.ownsRow 0 3 1 nv ns.length (fV ns))(hnl:ns.length<=1073741824)(hnz:∀b,nv.ownBlock=some b->¬Z b):
  Calls prog 184 #[ag db,nv] w (jA S k T w Z db (m.without ns)):=by
 obtain⟨na,nn,nc,rfl⟩:=dL hnr;obtain⟨sv,uv,l,Y,hy,hs⟩:=h;obtain⟨B0,KB⟩:=dR w #[.slice na nn nc] 35;have QQ:=hy.keep (λb _ hb=>B0.block b hb);have QV:=lZ hs (λb _ hb=>B0.block b hb);have QW:=d7 hnr λb hb=>B0.block b (hnr.lt b hb).2
 have QX:=hy.c.row.lt;have hdl:=hy.c.blk.lt;have hD:=Fj _ sv l w.heap.size (.slice na nn nc) ns QQ.c.row QQ.c.form QQ.c.len KB QW hnl (λe=>by have:=(QX _ e).2;omega) (λb hb e=>hnz b hb (hy.zs b e));obtain⟨sa,sn,sc,rfl⟩:=dL hy.c.row;obtain⟨k1,k2⟩:=QQ.c.blk.rules;have QY:=hy.yl;have hsz:w.heap.size<=(w.alloc (ak #[.slice na nn nc] 35)).heap.size:=B0.size;clear hs;unfold vA at hD;go_enter func184,ntmps184;go_wp2_with fail;generalize w.alloc (ak #[.slice na nn nc] 35)=w0 at*;refine hD.mono ?_;rintro e w1 ⟨v',rfl,hv,QS,hg⟩;obtain⟨ra,rn,rc,rfl⟩:=dL QS;clear k1 k2;have QT:w1.heap[db]?=w0.heap[db]?:=hg.block db QQ.c.blk.lt (λe=>hy.c.ne e.symm);have QR:dK w1 db #[.slice sa sn sc,uv] 183:=QT.trans QQ.c.blk;obtain⟨k1,k2⟩:=QR.rules;go_wp2;go_end0
 have QP:∀b,b<w0.heap.size->b≠db->(Value.slice sa sn sc).ownBlock≠some b->(w1.setCell (ai db 0) (.slice ra rn rc)).heap[b]?=w0.heap[b]?:=λb hb QZ Q0=>by
  rw[dJ,dA (λe=>QZ e.symm)];exact hg.block b hb (λe=>Q0 e.symm)
 have QU:(Value.slice ra rn rc).ownBlock≠some db:=by rw[hv];exact hy.c.ne
 have s0:fi w Z w0 Z:=(fi.refl w Z).below B0;refine⟨rfl,Z,s0.trans ⟨hg.os,hg.tape,hg.output,by simpa using hg.size,λb hb hz=>QP b hb (λe=>hz (e▸hy.zd)) (λe=>hz (hy.zs b e)),λb hb=> .inl hb⟩,?_⟩;refine⟨.slice ra rn rc,uv,jB ns l,Y,⟨⟨⟨QR.set 0 _,?_,λx hx=>hy.c.form x (bN.1 hx).1,hy.c.srt.filter _,QU,aH G9 hy.c.len⟩,?_,hy.zd,λb hb=>hy.zs b (hv▸hb),hy.zu,λb hb=>hy.su b (hv▸hb),hy.ud⟩,hy.yz,?_,hy.yd,λb hb=>hy.ys b (hv▸hb),hy.yu⟩,?_⟩
 ·refine d7 QS λb hb=> ?_
  rw[dJ,dA (λe=>QU (by rw[hb,e]))]
 ·exact d7 QQ.un λb hb=>QP b (QQ.un.lt b hb).2 (λe=>hy.ud (e▸hb)) (λe=>hy.su b e hb)
 ·intro b hb;have h1:=QY b hb;have h2:=hg.size;simp;omega
 ·refine lZ ?_ (λb hb hl=>QP b hl (λe=>hy.yd (e▸hb)) (λe=>hy.ys b e hb));exact QV.filter λx f A hx=>by rw[vB,hx.1]
def My:(prog.info? 5).map (λi=>(i.zero,i.size,i.bytes))=some (some (.int .u8 0),1,1):=QI
def tQ (w:an)(ty:TypeId)(v:Value)(n:Nat)(xs:aq)(QQ:w.ownsRow 0 5 1 v n xs)(s:am)(hb:n+s.size<=140737488355328):
  ∃v' w',(Builtin.append_ #[140,9] ty #[v,ae s]).run prog w= .ok v' w'/\w'.ownsRow 0 5 1 v' (n+s.size) (xs++Lib.strCells s)/\w.grownBy w' v.ownBlock/\∀b,v'.ownBlock=some b->v.ownBlock=some b\/w.heap.size<=b:=by
 obtain⟨i0,QV,QT,QW,Q0⟩:=info_parts My;have hu:prog.underlying 140=some (.slice 5):=underlying140;have QU:prog.underlying 9=some .string:=underlying9;have Q2:n+s.size<=maxLen:=QK
 rcases QQ.2 with⟨rfl,rfl⟩|⟨g,cap,Q8,rfl,q1,q2,q3,q4,q5,q6⟩
 ·obtain⟨v',w',h1,h2,h3,_⟩:=Lib.run_append_own_string (P:=prog) w w.heap.size 140 9 ty 5 i0 hu QU QV QT QW Q0 (ah) 0 xs (by have:=QQ.1;exact⟨this,.inl ⟨rfl,rfl⟩⟩) s Q2 hb (ay _);exact⟨v',w',h1,nV h2 (aM _),h3,λb hb=> .inr (h2.lt b hb).1⟩
 ·obtain⟨v',w',h1,h2,h3,_⟩:=Lib.run_append_own_string (P:=prog) w 0 140 9 ty 5 i0 hu QU QV QT QW Q0 _ n xs QQ s Q2 hb (aM _);refine⟨v',w',h1,h2,h3,λb Q4=> ?_⟩
  by_cases hr:n+s.size<=cap
  ·have:=Lib.run_append_room_string (P:=prog) w 140 9 ty 5 i0 hu QU QV QW g n cap Q8 q2 s hr QD;rw[this]at h1
   cases h1
   exact .inl Q4
  ·have hlen:xs.length=n*i0.size:=by rw[QW];exact QQ.1
   have:=Lib.run_append_grow_string (P:=prog) w 140 9 ty 5 i0 _ hu QU QV QT (ai g 0) n cap xs hlen (λj u hj=>(eh QQ (by
    by_cases q:0<n
    ·exact q
    ·have h0:xs.length=0:=by rw[hlen];simp[show n=0 by omega]
     rw[bA h0]at hj;simp at hj)).elim λg' Q9=>by
     obtain⟨e1,_,_,hc⟩:=Q9
     cases e1
     rw[Addr.add_lit];simpa using hc w rfl j u hj) s QD QD (by rw[Q0];exact growslice_fits QD QD)
   rw[this]at h1
   cases h1
   exact .inr (by cases Q4;exact ay _)
def zH (S:d8)(k:Nat)(T:Option MT)(w:an)(Z:ap)(db:Nat)(m:PM)(s:am)(h:ed S (k+1) T w Z db m)(hl:m.unk.size+s.size<=140737488355328):
  Calls prog 135 #[ag db,ae s] w (jA S k T w Z db (m.keep s)):=by
 obtain⟨sv,uv,l,Y,hy,hs⟩:=h;obtain⟨ua,un,uc,rfl⟩:=dL hy.un;obtain⟨v',w1,Q1,QQ,QP,QX⟩:=tQ w 140 _ _ _ hy.un s hl;obtain⟨va,vn,vc,rfl⟩:=dL QQ;obtain⟨k1,k2⟩:=hy.c.blk.rules;have QY:w1.heap[db]?=w.heap[db]?:=QP.block db hy.c.blk.lt (λe=>hy.ud e.symm);have QS:dK w1 db #[sv,.slice ua un uc] 183:=QY.trans hy.c.blk;obtain⟨j1,j2⟩:=QS.rules
 have HF:Hid (jA S k T w Z db (m.keep s) (.returned (.tuple #[])) (w1.setCell (ai db 1) (.slice va vn vc))):=by
  have hdl:=hy.c.blk.lt
  have QR:∀b,b<w.heap.size->b≠db->(Value.slice ua un uc).ownBlock≠some b->(w1.setCell (ai db 1) (.slice va vn vc)).heap[b]?=w.heap[b]?:=λb hb h1 h2=>by
   rw[dJ,dA (λe=>h1 e.symm)];exact QP.block b hb (λe=>h2 e.symm)
  have Q3:(Value.slice va vn vc).ownBlock≠some db:=λe=>(QX db e).elim hy.ud (λq=>QD)
  have Q5:∀b,(Value.slice va vn vc).ownBlock=some b->¬Y b:=λb e q=>(QX b e).elim (λe=>hy.yu b e q) (λe=>by have:=hy.yl b q;omega)
  have Q6:∀b,sv.ownBlock=some b->(Value.slice va vn vc).ownBlock≠some b:=λb e q=>(QX b q).elim (hy.su b e) (λq=>by have:=(hy.c.row.lt b e).2;omega)
  have hsz:w.heap.size<=(w1.setCell (ai db 1) (.slice va vn vc)).heap.size:=by simpa using QP.size
  refine⟨rfl,λb=>Z b\/(Value.slice va vn vc).ownBlock=some b,⟨QP.os,QP.tape,QP.output,hsz,λb hb hz=>QR b hb (λe=>hz (e▸hy.zd)) (λe=>hz (hy.zu b e)),λb hb=>hb.elim .inl (λe=>(QX b e).imp (hy.zu b) id)⟩,?_⟩;refine⟨sv,.slice va vn vc,l,Y,⟨⟨⟨QS.set 1 _,?_,hy.c.form,hy.c.srt,hy.c.ne,hy.c.len⟩,?_,.inl hy.zd,λb e=> .inl (hy.zs b e),λb e=> .inr e,Q6,Q3⟩,λb q=> .inl (hy.yz b q),λb q=>aC (hy.yl b q) hsz,hy.yd,hy.ys,Q5⟩,?_⟩
  ·exact d7 hy.c.row λb e=>QR b (hy.c.row.lt b e).2 (λq=>hy.c.ne (q▸e)) (hy.su b e)
  ·have e1:(m.keep s).unk=m.unk++s:=rfl
   have e2:Lib.strCells (m.unk++s)=Lib.strCells m.unk++Lib.strCells s:=by
    unfold Lib.strCells;rw[ByteArray.data_append,Array.toList_append,bM]
   rw[e1,ByteArray.size_append,e2];exact d7 QQ λb e=>by rw[dJ,dA (λq:db=b=>Q3 (by rw[q];exact e))]
  ·exact lZ hs λb q hl=>QR b hl (λe=>hy.yd (e▸q)) (λe=>hy.yu b e q)
 clear hy hs;go_enter func135,ntmps135;go_wp2_with (at_builtin;refine Lib.wpList_append_run _ rfl _ _ _ _ rfl _ _ rfl rfl _ _ Q1 ?_)
 go_end0;exact HF.out
def Ee (S:d8)(k:Nat)(T:Option MT)(w:an)(Z:ap)(db:Nat)(m:PM)(n:Int)(v:LV)(h:ed S (k+1) T w Z db m)(hok:ny S T n .vals)(hkd:(∀kd,ny S T n kd->kd= .vals)\/∀f∈m.fs,f.1≠n)(hl:m.fs.length<1073741824)(hZ:∀b,Z b->b<w.heap.size):
  Calls prog 193 #[ag db,aa n,tO v] w (jA S k T w Z db (if v.1=0/\gE v.2 eS=true then m.put n []else m.put n [oU v])):=by
 obtain⟨B0,KB⟩:=dR w #[.int .u64 v.1,ae v.2,ah,ae ⟨#[]⟩] 55;obtain⟨k1,k2⟩:=KB.rules;have h0:=h.keep (λb _ hb=>B0.block b hb);have hC:=vw S k T _ Z db m n v h0 hok hkd hl;have HS:∀{m':PM} {e:Ending} {w':an},jA S k T (w.alloc (ak #[.int .u64 v.1,ae v.2,ah,ae ⟨#[]⟩] 55)) Z db m' e w'->jA S k T w Z db m' e w':=λ⟨q1,Z',q2,q3⟩=>⟨q1,Z',((fi.refl w Z).below B0).trans q2,q3⟩
 have KN:dK _ (w.heap.size+1) _ _:=dK.new1 w (ak #[.int .u64 v.1,ae v.2,ah,ae ⟨#[]⟩] 55) #[aa n] 3
 have hD:=od S k T ((w.alloc (ak #[.int .u64 v.1,ae v.2,ah,ae ⟨#[]⟩] 55)).alloc (ak #[aa n] 3)) Z db m (.slice (some (ai (w.heap.size+1) 0)) 1 1) [n] (h0.keep (λb _ hb=>Below.heap_alloc _ _ b hb)) ⟨rfl,.inr ⟨w.heap.size+1,1,#[aa n],rfl,aM _,KN,QE,by simp[maxLen],rfl,rfl⟩⟩ QE (λb hb hz=>by
  have:w.heap.size+1=b:=by simpa [Value.ownBlock]using hb
  have:=hZ b hz
  omega)
 rw[tu]at hD;have QZ:∀{m':PM} {e:Ending} {w':an},jA S k T ((w.alloc (ak #[.int .u64 v.1,ae v.2,ah,ae ⟨#[]⟩] 55)).alloc (ak #[aa n] 3)) Z db m' e w'->jA S k T w Z db m' e w':=λ⟨q1,Z',q2,q3⟩=>⟨q1,Z',(((fi.refl w Z).below B0).alloc _).trans q2,q3⟩
 by_cases hz:v.1=0
 ·have QT:(v.1==0)=true:=by simp[hz]
  by_cases hs:gE v.2 eS=true
  ·have Q7:(v.2.toList== [])=true:=by rw[<-show eS.toList= []from by decide+kernel];exact hs
   rw[dB ⟨hz,hs⟩];clear hz hs hC HS;unfold tO;go_enter func193,ntmps193;go_wp2_with fail;refine hD.mono ?_;rintro e w1 hq;obtain rfl:=hq.1;go_wp2;go_end0;exact QZ hq
  ·have Q7:(v.2.toList== [])=false:=by rw[<-show eS.toList= []from by decide+kernel];exact cg.2 hs
   rw[dA (λq=>hs q.2)];clear hz hs hD QZ;unfold tO at hC⊢;go_enter func193,ntmps193;go_wp2_with fail;refine hC.mono ?_;rintro e w1 hq;obtain rfl:=hq.1;go_wp2;go_end0;exact HS hq
 ·have QT:(v.1==0)=false:=by simp[hz]
  rw[dA (λq=>hz q.1)];clear hz hD QZ;unfold tO at hC⊢;go_enter func193,ntmps193;go_wp2_with fail;refine hC.mono ?_;rintro e w1 hq;obtain rfl:=hq.1;go_wp2;go_end0;exact HS hq
def ed.forget {S:d8}:∀{k:Nat} {T:Option MT} {w:an} {Z:ap} {db:Nat} {m:PM},ed S k T w Z db m->ed S k none w Z db m
 |0,_,_,_,_,_,h=>h
 |k+1,T,w,_,_,_,⟨sv,uv,l,Y,hy,hs⟩=>⟨sv,uv,l,Y,hy,hs.imp λx f A _ _ _ h=>by
   obtain⟨h1,h2⟩:=h;refine⟨h1,?_⟩;have hk:∀n kd,ny S none n kd:=λ_ _ _ _ e=>by cases e
   rcases h2 with⟨_,lv,h⟩|⟨_,ps,B,h⟩|⟨t,_,mb,ps,B,h⟩
   ·exact .inl ⟨hk _ _,lv,h⟩
   ·exact .inr (.inl ⟨hk _ _,ps,B,{h with lone:=(λ⟨_,_,e,_⟩=>by cases e),sub:=h.sub.imp λp v C _ _ _ q=>⟨q.1,ed.forget q.2⟩}⟩)
   ·exact .inr (.inr ⟨t,hk _ _,mb,ps,B,h⟩)⟩
end
def je (a b:LV):Prop:=a.1=b.1/\a.2.toList=b.2.toList
def Db (x y:List UInt8):Op.bytesLess x y=true<->x<y:=by rw[bytesLess_eq];simp
def oe (a:LV):¬lC a a:=by
 rintro(h|⟨_,h⟩)
 ·omega
 ·rw[Db]at h;grind
def jR {a b c:LV}(h:lC a b)(k:lC b c):lC a c:=by
 unfold lC at*;simp only[Db]at*
 grind
def uy (a b:LV):lC a b\/je a b\/lC b a:=by
 unfold lC je;simp only[Db]
 grind
def rz {a b c:LV}(k:je a b)(h:lC b c):lC a c:=by
 obtain⟨k1,k2⟩:=k;unfold lC at*
 simp_all
def je.symm {a b:LV}(h:je a b):je b a:=⟨h.1.symm,h.2.symm⟩
def kE {a b:LV}(h:lC a b):¬je a b:=λk=>oe b (rz k.symm h)
def gk {a b:am}:gE a b=true<->a.toList=b.toList:=by unfold gE;simp
def J8 {t:am}(h:gE t j9=true):eM iJ t=false:=by
 have e:=gk.1 h;unfold eM;rw[e];decide+kernel
def Ha {t:am}{x y:PV}(hx:CK t x)(hy:CK t y):jO t x y=true<->lC (jz t x) (jz t y):=by
 obtain⟨a1,a2,_,a4,a5⟩:=hx;obtain⟨b1,b2,_,b4,b5⟩:=hy;unfold jO lC jz
 cases hs:gE t j9 with
 |true=>
  simp_all
 |false=>
  rw[a5 hs,b5 hs];have e:¬Op.bytesLess eS.toList eS.toList=true:=QH;simp only[e,and_false,or_false,aL,if_false]
  cases eM iJ t with
  |true=>
   simp only[if_true,dD];unfold JJ
   split<;>split<;>omega
  |false=>simp
def zI {t:am}{x y:PV}(hx:CK t x)(hy:CK t y):gW x y=true<->je (jz t x) (jz t y):=by
 unfold gW je jz;have:=hx.lo;have:=hx.hi;have:=hy.lo;have:=hy.hi;simp only[aJ,dD,gk]
 grind
def tw {t:am}{v:PV}:∀{l:List PV},(∀x∈l,gW (fo v) (fo x)=false)->fU t v true l=l
 | [],_=>rfl
 |x::l,h=>by
  rw[fU];simp only[cF,cl,aL,if_false,aR,h x QE,cz];rw[tw λy hy=>h y (by grind)];rfl
def tx {t:am}{v:PV}(hv:CK t (fo v)):∀{l:List PV},(∀x∈l,CK t (fo x))->l.Pairwise (λa b=>lC (jz t (fo a)) (jz t (fo b)))->
  ∃l1 mid l2,l=l1++(mid++l2)/\jn t l v=l1++v::l2/\(mid= []\/∃x,mid= [x]/\je (jz t (fo v)) (jz t (fo x)))/\(∀x∈l1,lC (jz t (fo x)) (jz t (fo v)))/\∀x∈l2,lC (jz t (fo v)) (jz t (fo x))
 | [],_,_=>⟨[],[],[],rfl,rfl,.inl rfl,QE,QE⟩
 |x::l,hk,hs=>by
  have hx:=hk x QE;rw[ba]at hs;have QP:lC (jz t (fo v)) (jz t (fo x))\/je (jz t (fo v)) (jz t (fo x))->∀y∈l,lC (jz t (fo v)) (jz t (fo y)):=λh y hy=>h.elim (λq=>jR q (hs.1 y hy)) (λq=>rz q (hs.1 y hy))
  have hdone:lC (jz t (fo v)) (jz t (fo x))\/je (jz t (fo v)) (jz t (fo x))->fU t v true l=l:=λh=>tw λy hy=>by
   rw[cg];intro q;exact kE (QP h y hy) ((zI hv (hk y (by grind))).1 q)
  rcases uy (jz t (fo v)) (jz t (fo x))with h|h|h
  ·have e1:=(Ha hv hx).2 h
   have e2:gW (fo v) (fo x)=false:=by
    rw[cg];exact λq=>kE h ((zI hv hx).1 q)
   refine⟨[],[],x::l,rfl,?_,.inl rfl,QE,?_⟩
   ·unfold jn;rw[fU,e1,e2]
    simp_all
   simp_all
  ·have e2:=(zI hv hx).2 h;refine⟨[],[x],l,rfl,?_,.inr ⟨x,rfl,h⟩,QE,QP (.inr h)⟩;unfold jn;rw[fU,e2]
   simp_all
  ·have e1:jO t (fo v) (fo x)=false:=by
    rw[cg];exact λq=>oe _ (jR ((Ha hv hx).1 q) h)
   have e2:gW (fo v) (fo x)=false:=by
    rw[cg];exact λq=>kE h ((zI hv hx).1 q).symm
   obtain⟨l1,mid,l2,q1,q2,q3,q4,q5⟩:=tx hv (l:=l) (λy hy=>hk y (by grind)) hs.2;refine⟨x::l1,mid,l2,by simp_all,?_,q3,?_,q5⟩
   ·unfold jn at q2⊢;rw[fU,e1,e2]
    (simp;omega)
   simp_all
section
open Go.Maps
section
variable {k q:LV} {p:Nat} {ks2 km:List LV} {ps2 pm:au} {w:an} {D:DataW Unit}
theorem Dc:Keyed prog 386:=Keyed.of_law (deep_law (m:=2) QD QI QI QI)
theorem Hb:prog.keyType 386=true:=QI
theorem Dd:prog.cellsOf 386=2:=QI
theorem Hc:prog.cellsOf 53=1:=QI
theorem Bp:prog.cellsOf 9=1:=QI
structure xj (k:LV):Prop where
 lo:0<=k.1
 hi:k.1<18446744073709551616
 sz:k.2.size<=maxLen
theorem Mz (h:xj k):∃kl,Go.keyOf prog 386 (kV k)=some kl:=by
 unfold keyOf kV;have hb:Nat.ble 1 prog.types.size=true:=QI;have hb2:=Nat.le_of_ble_eq_true hb;obtain⟨N,hN⟩:∃N,prog.types.size+1=N+1+1:=⟨prog.types.size-1,QD⟩
 have QQ:(Lit.int .u64 k.1).wf=true:=by
  show(decide (0<=k.1)&&decide (k.1<=18446744073709551615))=true;have:=h.lo;have:=h.hi;simp;omega
 have hsz:=h.sz;rw[Hb,hN];simp[underlying386,Value.formed,Dd,Program.keyLits,Hc,Bp,underlying53,underlying9,QQ,hsz,Value.cells]
theorem ja {a b:am}(h:a.toList=b.toList):a=b:=by
 rw[ByteArray.toList_eq,ByteArray.toList_eq]at h
 cases a
 cases b
 simp at h;rw[h]
theorem vC:∀{ks:List LV} {ps:au},(∀x∈ks,¬je x q)->jr ks ps q=none
 | [],_,_=>by rw[jr];intros;simp_all
 |_::_,[],_=>by rw[jr];intros;simp_all
 |x::ks,y::ps,h=>by
  rw[jr,dA (λe=>h x QE ⟨e.1,gk.1 e.2⟩)];exact vC λz hz=>h z (by simp[hz])
theorem sA (hm:(km= []/\pm= [])\/∃k' p',km= [k']/\pm= [p']/\je k k'):∀{ks1:List LV} {ps1:au},ks1.length=ps1.length->(∀x∈ks1,¬je x k)->
  jr (ks1++k::ks2) (ps1++p::ps2) q=if k.1=q.1/\gE k.2 q.2=true then some p else jr (ks1++(km++ks2)) (ps1++(pm++ps2)) q
 | [],[],_,_=>by
  simp only[aR];rw[jr]
  split
  ·rfl
  ·rename_i hn
   rcases hm with⟨rfl,rfl⟩|⟨k',p',rfl,rfl,hs⟩
   ·rfl
   ·simp only[bi,aR];rw[jr,dA (λe=>hn ⟨hs.1.trans e.1,gk.2 (hs.2.trans (gk.1 e.2))⟩)]
 | [],_::_,h,_=>by simp at h
 |_::_,[],h,_=>by simp at h
 |x::ks1,y::ps1,h,hn=>by
  simp only[bi];rw[jr,jr,sA hm (by simpa using h) (λz hz=>hn z (by simp[hz]))]
  by_cases hx:x.1=q.1/\gE x.2 q.2=true
  ·rw[dB hx,dB hx,dA (λe=>hn x QE ⟨hx.1.trans e.1.symm,(gk.1 hx.2).trans (gk.1 e.2).symm⟩)]
  ·rw[dA hx,dA hx]
theorem vD {k:TypeId}{R:Value->Option (DataW Unit×List MemPlace)}{b n:Nat}(h:w.ownsMap prog k R b n D):w.ownsMap prog k R b (Go.Maps.size D) D:=by
 obtain⟨es,clock,hb,F,hs,rfl⟩:=h;exact⟨es,clock,hb,F,by simp[Go.Maps.size,length_sorted],rfl⟩
theorem js.put {w':an}{mb n:Nat}{kl:Lit}{ks1:List LV}{ps1:au}(hm:(km= []/\pm= [])\/∃k' p',km= [k']/\pm= [p']/\je k k')(hl:ks1.length=ps1.length)(h1:∀x∈ks1,¬je x k)(h2:∀x∈ks2,¬je x k)
  (hown:w.ownsMap prog 386 gj mb n D) (hsz:Go.Maps.size D=(ks1++(km++ks2)).length) (hat:∀(k:LV) kl,Go.keyOf prog 386 (kV k)=some kl->∀z,D.atKey kl z=Oc (jr (ks1++(km++ks2)) (ps1++(pm++ps2)) k) z)
  (hk:Go.keyOf prog 386 (kV k)=some kl) (hput:w'.ownsMap prog 386 gj mb (n+1) (D.put kl (nl (some p)))):js w' mb (ks1++k::ks2) (ps1++p::ps2):=by
 have hlen:Go.Maps.size (D.put kl (nl (some p)))=(ks1++k::ks2).length:=by
  rw[size_put (hown.tidy Dc)]
  rcases hm with⟨rfl,rfl⟩|⟨k',p',rfl,rfl,hs⟩
  ·have QR:jr (ks1++([]++ks2)) (ps1++([]++ps2)) k=none:=vC λx hx=>by
    simp only[aR,aV]at hx;exact hx.elim (h1 x) (h2 x)
   rw[has_false_of_atKey (λz=>by rw[hat k kl hk z,QR];rfl),hsz];simp;omega
  ·have QP:∃p0,jr (ks1++([k']++ks2)) (ps1++([p']++ps2)) k=some p0:=by
    have:=sA (k:=k') (q:=k) (p:=p') (ks2:=ks2) (ps2:=ps2) (km:= []) (pm:= []) (.inl ⟨rfl,rfl⟩) hl (λx hx q=>h1 x hx ⟨q.1.trans hs.1.symm,q.2.trans hs.2.symm⟩);exact⟨p',this.trans (dB ⟨hs.1.symm,gk.2 hs.2.symm⟩)⟩
   obtain⟨p0,QS⟩:=QP;rw[has_true_of_atKey (y:=nl (some p0)) (λz=>by rw[hat k kl hk z,QS];rfl),hsz];simp
 refine⟨_,by rw[<-hlen];exact vD hput,hlen,λq ql hq z=> ?_⟩;rw[sA hm hl h1]
 by_cases e:k.1=q.1/\gE k.2 q.2=true
 ·rw[dB e];have e2:k.2=q.2:=ja (gk.1 e.2);have e3:kV k=kV q:=by unfold kV;rw[e.1,e2]
  rw[<-e3,hk]at hq
  cases hq
  exact atKey_put_same hown.isMap (Dc.key hk) _ _
 ·rw[dA e,atKey_put_other]
  ·exact hat q ql hq z
  ·intro h;subst h;have h3:=Dc.inj hq hk;unfold kV at h3;simp at h3;exact e ⟨h3.1.symm,by rw[h3.2];exact gk.2 rfl⟩
theorem js.made (w:an):js (w.alloc (.map #[] 0)) w.heap.size [] []:=
 ⟨_,World.ownsMap_made w prog 386 gj,rfl,λ_ _ _ _=>rfl⟩
end
end
section
attribute [local go_sem↓] Go.wp_at_zero Go.wp_at_succ
def J9 (n:Nat)(h:n<18446744073709551616):n^^^9223372036854775808=(n+9223372036854775808)%18446744073709551616:=by
 have e:(9223372036854775808:Nat)=2^63:=QG
 have key:∀r,r<2^63->r^^^2^63=2^63+r:=λr hr=>by
  apply Nat.eq_of_testBit_eq;intro i;rw[Nat.testBit_xor,Nat.testBit_two_pow]
  by_cases h1:i<63
  ·rw[Nat.testBit_two_pow_add_gt h1];have:decide (63=i)=false:=QF;simp[this]
  ·by_cases h2:i=63
   ·subst h2;rw[Nat.testBit_two_pow_add_eq];simp
   ·have h3:2^64<=2^i:=dd QD QD;have h4:r.testBit i=false:=Nat.testBit_lt_two_pow QD;have h5:(2^63+r).testBit i=false:=Nat.testBit_lt_two_pow QD;rw[h4,h5];simp;omega
 rw[e]
 by_cases hn:n<2^63
 ·rw[key n hn,Nat.mod_eq_of_lt QD];omega
 ·obtain⟨r,rfl⟩:∃r,n=2^63+r:=⟨n-2^63,QD⟩;have hr:r<2^63:=QD;rw[<-key r hr,Nat.xor_assoc,Nat.xor_self,Nat.xor_zero,key r hr];omega
def rA {n:Int}(h0:0<=n)(h1:n<18446744073709551616):bits .xor .u64 n 9223372036854775808=(n+9223372036854775808)%18446744073709551616:=by
 obtain⟨a,rfl⟩:=bo h0
 have hx:(BitVec.ofInt 64 (a:Int)).toNat=a:=by
  rw[BitVec.ofInt_natCast,BitVec.toNat_ofNat];exact Nat.mod_eq_of_lt QD
 show IntKind.u64.wrap (((BitVec.ofInt 64 (a:Int))^^^(BitVec.ofInt 64 9223372036854775808)).toNat:Int)=_;rw[BitVec.toNat_xor,hx,show(BitVec.ofInt 64 9223372036854775808).toNat=9223372036854775808 from by decide,J9 a QD];rw[gh QD QD];omega
def Gh (sg:Bool)(v:LV):LV:=(if sg then(v.1+9223372036854775808)%18446744073709551616 else v.1,v.2)
def Ka (w:an)(v:LV)(sg:Bool)(h0:0<=v.1)(h1:v.1<18446744073709551616):
  Calls prog 267 #[tO v,.bool sg] w λe w'=>e= .returned (kV (Gh sg v))/\aj w w':=by
 have hx:=rA h0 h1;have K0:=dK.new w #[.int .u64 v.1,ae v.2,ah,ae ⟨#[]⟩] 55;have K1:=K0.alloc (ak #[.int .u64 0,ae ⟨#[]⟩] 386);obtain⟨k1,k2⟩:=K1.rules;unfold tO kV Gh
 cases sg with
 |true=>
  rw[dB rfl];go_enter func267,ntmps267;go_wp2;refine dE (dZ results267 _ _ rfl (dK.new1 w _ _ _) underlying386 QI) rfl ?_;exact⟨rfl,((Below.refl _ _).alloc (ay _) _).alloc QE _⟩
 |false=>
  rw[dA QE];go_enter func267,ntmps267;go_wp2;refine dE (dZ results267 _ _ rfl (dK.new1 w _ _ _) underlying386 QI) rfl ?_;exact⟨rfl,((Below.refl _ _).alloc (ay _) _).alloc QE _⟩
def jq.filled {S:d8}{R:LN}{w:an}{T:Option MT}:∀{l:List fZ} {fs:List PF} {Y:ap},jq (gq S R w T) Y l fs->∀f∈fs,f.2≠ []
 | [],[],_,_=>QE
 |_::_,g::_,_,⟨_,_,h1,h2,_⟩=>λf hf=>by
  rcases aN.1 hf with rfl|hf
  ·rcases h1.2 with⟨_,lv,h⟩|⟨_,ps,B,h⟩|⟨t,_,mb,ps,B,h⟩
   ·rw[h.pm];simpa using h.ne
   ·intro e;have:=h.sub.len;rw[e]at this;exact h.ne (bA this)
   ·intro e;have:=h.sub.len;rw[e]at this;exact h.ne (bA this)
  ·exact h2.filled f hf
 | [],_::_,_,h=>h.elim
 |_::_,[],_,h=>h.elim
def Bq {n:Int}:∀{fs:List PF},(∀f∈fs,f.2≠ [])->(∃f∈fs,f.1=n)->gm fs n≠ []
 | [],_,⟨_,h,_⟩=>by simp at h
 |x::l,h,⟨f,hf,e⟩=>by
  rw[gm]
  split
  ·exact h x QE
  ·rename_i q
   rcases aN.1 hf with rfl|hf
   ·exact absurd e q
   ·exact Bq (λy hy=>h y (by simp[hy])) ⟨f,hf,e⟩
def Hd {S:d8}{k:Nat}{T:Option MT}{w:an}{Z Y:ap}{db:Nat}{m:PM}{sv uv:Value}{l:List fZ}(hy:JX w Z db sv uv m.unk l Y)(hs:jq (gq S (ed S k) w T) Y l m.fs){n:Int}{i:Nat}(h1:∀k x,(l.map (·.1))[k]?=some x->k<i->x<n)(h2:∀k x,(l.map (·.1))[k]?=some x->i<=k->n<=x):
  ((l.map (·.1))[i]?=some n->(m.get n).isEmpty=false)/\((l.map (·.1))[i]?≠some n->(m.get n).isEmpty=true/\∀f∈m.fs,f.1≠n):=by
 have hn:=hs.nums
 constructor
 ·intro h;have hm:n∈m.fs.map (·.1):=by rw[hn];exact aI h
  obtain⟨f,hf,e⟩:=aQ.1 hm;have:=Bq hs.filled ⟨f,hf,e⟩;unfold PM.get
  cases hg:gm m.fs n with
  |nil=>exact absurd hg this
  |cons _ _=>rfl
 ·intro h
  have QX:∀f∈m.fs,f.1≠n:=λf hf e=>by
   have hm:n∈l.map (·.1):=by rw[<-hn];exact aQ.2 ⟨f,hf,e⟩
   obtain⟨j,hj⟩:=bT.1 hm
   have Q6:i<j:=by
    by_cases q:j<i
    ·have:=h1 j n hj q;omega
    ·by_cases q2:j=i
     ·exact absurd (q2▸hj) h
     ·omega
   have Q7:(l.map (·.1)).Pairwise (·< ·):=bY.2 hy.c.srt;obtain⟨Rc,ej⟩:=ca.1 hj;have QQ:=bH.1 Q7 i j QD Rc Q6;have:=h2 i _ (aK QD) (ay _);omega
  exact⟨by unfold PM.get;rw[mJ n m.fs QX];rfl,QX⟩
def mg (m:PM):Nat->PM
 |0=> .mk m.fs eS
 |1=>ft (.mk m.fs eS) 1
 |_=>ft (ft (.mk m.fs eS) 1) 2
def Fk (m:PM):mg m 2=fO m:=by
 have hu:∀(fs:List PF) (u u':am) (n:Int),(ft (.mk fs u) n).fs=(ft (.mk fs u') n).fs/\(ft (.mk fs u) n).unk=u:=λfs u u' n=>by
  unfold ft PM.get PM.put
  cases h:(gm fs n).isEmpty<;>simp[PM.fs,PM.unk,h]
 have hm:∀m:PM,m= .mk m.fs m.unk:=λm=>by cases m;rfl
 unfold fO;show ft (ft (.mk m.fs eS) 1) 2=_;rw[hm (ft (ft (.mk m.fs eS) 1) 2)];have e1:=hu m.fs eS m.unk 1;rw[<-hm m]at e1;rw[hm (ft (.mk m.fs eS) 1),e1.2,e1.1];rw[(hu (ft m 1).fs eS (ft m 1).unk 2).1,<-hm (ft m 1),(hu (ft m 1).fs eS eS 2).2]
def Br (S:d8)(k:Nat)(T:Option MT)(w:an)(Z:ap)(db:Nat)(m:PM)(h:ed S (k+1) T w Z db m)(hok1:ny S T 1 .vals)(hok2:ny S T 2 .vals)(hl:m.fs.length<1073741822)(hZ:∀b,Z b->b<w.heap.size):
  Calls prog 265 #[ag db] w (jA S k T w Z db (fO m)):=by
 obtain⟨sv,uv,l,Y,hy,hs⟩:=h;obtain⟨k1,k2⟩:=hy.c.blk.rules;have hdl:=hy.c.blk.lt
 have h0:ed S (k+1) T (w.setCell (ai db 1) (ah)) Z db (mg m 0):=by
  have QP:∀b,b≠db->(w.setCell (ai db 1) (ah)).heap[b]?=w.heap[b]?:=λb q=>by rw[dJ,dA (λe=>q e.symm)]
  refine⟨sv,ah,l,Y,⟨⟨⟨hy.c.blk.set 1 _,d7 hy.c.row (λb e=>QP b (λq=>hy.c.ne (q▸e))),hy.c.form,hy.c.srt,hy.c.ne,hy.c.len⟩,bf _ _ _ _,hy.zd,hy.zs,(λb e=>by cases e),(λb _ e=>by cases e),(λe=>by cases e)⟩,hy.yz,λb q=>by simpa using hy.yl b q,hy.yd,hy.ys,(λb e=>by cases e)⟩,?_⟩;exact lZ hs λb q _=>QP b (λe=>hy.yd (e▸q))
 have Q8:fi w Z (w.setCell (ai db 1) (ah)) Z:=⟨rfl,rfl,rfl,QE,λb _ q=>by rw[dJ,dA (λe:db=b=>q (by rw[<-e];exact hy.zd))],λb q=> .inl q⟩;have KR:=dK.new (w.setCell (ai db 1) (ah)) #[aa 1,aa 2] 3;have BR:Below _ (w.setCell (ai db 1) (ah)) ((w.setCell (ai db 1) (ah)).alloc (ak #[aa 1,aa 2] 3)):=(Below.refl _ _).alloc (ay _) _;have hsz:(w.setCell (ai db 1) (ah)).heap.size=w.heap.size:=QE;have Q9:(mg m 0).fs.length<1073741822:=hl;clear hy hs
 have QR:∀(m:PM) (n:Int),(ft m n).fs.length<=m.fs.length+1:=λm n=>by
  unfold ft
  split
  ·exact PM.put_len m n _
  ·omega
 have hlen:∀j,(mg m j).fs.length<1073741824:=λj=>by
  match j with
  |0=>have:=Q9;omega
  |1=>have:=QR (mg m 0) 1;show(ft (mg m 0) 1).fs.length<_;omega
  |_+2=>
   have h1:=QR (mg m 0) 1;have h2:=QR (ft (mg m 0) 1) 2;show(ft (ft (mg m 0) 1) 2).fs.length<_;omega
 have QY:∀j,j<2->mg m (j+1)=ft (mg m j) ((j:Int)+1):=λj hj=>by
  match j with
  |0=>rfl
  |1=>rfl
 have QZ:Hid (∀j,j<2->mg m (j+1)=ft (mg m j) ((j:Int)+1)):=QY;clear QY
 have QS:∀j:Nat,j<2->ny S T ((j:Int)+1) .vals:=λj hj=>by
  match j with
  |0=>exact hok1
  |1=>exact hok2
 go_enter func265,ntmps265;rw[hsz]at KR;clear hsz;go_wp2;go_loopw [11] (λiv wr=>∃j:Nat,j<=2/\iv=aa j/\∃Z',fi w Z wr Z'/\ed S (k+1) T wr Z' db (mg m j)/\dK wr w.heap.size #[aa 1,aa 2] 3/\¬Z' w.heap.size) (λiv _=>(2-intOf iv).toNat)
 case atStart=>exact⟨0,QD,rfl,Z,Q8.below BR,h0.keep (λb _ q=>BR.block b q),KR,λq=>by have:=hZ _ q;omega⟩
 case round=>
  obtain⟨j,hj,rfl,Z',st,hD,QU,QV⟩:=hrel
  by_cases QQ:j<2
  ·have hc:wr.cell? (ai w.heap.size j)=some (aa ((j:Int)+1)):=by
    rw[QU.cell]
    match j,QQ with
    |0,_=>rfl
    |1,_=>rfl
   have hli:(j:Int)<2:=QD;obtain⟨Q2,Q3,l',Y',QW,Q4⟩:=hD;have hD:ed S (k+1) T wr Z' db (mg m j):=⟨Q2,Q3,l',Y',QW,Q4⟩;have hF:=Ed wr db Q2 Q3 l' ((j:Int)+1) QW.c;go_wp2_with fail;refine hF.mono ?_;rintro e w1 ⟨⟨i,rfl,hi,Re,Rf⟩,B1⟩;have hH:=Hd QW Q4 Re Rf;have Q0:=hD.keep (λb _ q=>B1.block b q);have QT:=QU.below B1 QU.lt
   by_cases hfd:(l'.map (·.1))[i]?=some ((j:Int)+1)
   ·have hd:decide ((l'.map (·.1))[i]?=some ((j:Int)+1))=true:=decide_eq_true hfd
    have HE:Hid (mg m (j+1)=mg m j):=by
     show mg m (j+1)=mg m j;rw[QZ.out j QQ,ft,hH.1 hfd];rfl
    clear hfd hH hc;go_wp2;go_roundw
    case rel=>exact⟨j+1,QD,by go_num,Z',st.below B1,by rw[HE.out];exact Q0,QT,QV⟩
    case measure=>simp[intOf];omega
   ·have hd:decide ((l'.map (·.1))[i]?=some ((j:Int)+1))=false:=decide_eq_false hfd;obtain⟨Q5,Rg⟩:=hH.2 hfd
    have HE:Hid (mg m (j+1)=(mg m j).put ((j:Int)+1) [oU (0,⟨#[]⟩)]):=by
     show mg m (j+1)=_;rw[QZ.out j QQ,ft,Q5];rfl
    have Q1:=vw S k T w1 Z' db (mg m j) ((j:Int)+1) (0,⟨#[]⟩) Q0 (QS j QQ) (.inr Rg) (hlen j);unfold tO at Q1;clear hfd hH hc Q5;go_wp2_with fail;refine Q1.mono ?_;rintro e w2 ⟨rfl,Z2,st2,Rh⟩;have Ra:=QT.step st2 QV;have Rb:¬Z2 w.heap.size:=st2.not QT.lt QV;go_wp2;go_roundw
    case rel=>exact⟨j+1,QD,by go_num,Z2,(st.below B1).trans st2,by rw[HE.out];exact Rh,Ra,Rb⟩
    case measure=>simp[intOf];omega
  ·obtain rfl:j=2:=QD;go_wp2;go_end0;rw[<-Fk];exact⟨rfl,Z',st,hD⟩
end
section
variable {S:d8} {k db g:Nat} {T:Option MT} {w1:an} {Z1 C:ap} {m:PM} {n:Int} {pre post:List fZ} {x:fZ} {uv:Value} {t:am} {β:Type} {ps:au}
attribute [local go_sem↓] Go.wp_at_zero Go.wp_at_succ
def oW (t:am):MT:=⟨eS,[⟨mQ,t,eS,kx,1⟩]⟩
theorem uw.shut {sv:Value}{A B:ap}{fp fq:List PF}
  (h:uw S k T w1 Z1 db m n g pre x post sv uv A B fp fq) (hn:m.get n≠ []):ed S (k+1) T w1 Z1 db m:=by
 rcases h.was with⟨old,e,hs⟩|⟨e,_⟩
 ·obtain⟨fs,u⟩:=m;simp only[PM.fs]at e;subst e;exact⟨sv,uv,pre++x::post,λb=>A b\/B b,h.y,jq.join h.len hs h.sep (λb q=> .inl q) (λb q=> .inr q) h.dis⟩
 ·refine absurd ?_ hn;unfold PM.get;rw[e];refine mJ n _ λf hf=> ?_
  rcases aV.1 hf with hf|hf
  ·have:=h.lo f hf;omega
  ·have:=h.hi f hf;omega
theorem uw.ofEnts {sv:Value}{A B:ap}{fp fq:List PF}
  (h:uw S k T w1 Z1 db m n g pre x post sv uv A B fp fq) (hkd:∀kd,ny S T n kd->kd= .ents t):
  (x.2.1=ah/\x.2.2.1=ah)/\((x.2.2.2= .map none/\m.get n= []/\∀b,¬A b)\/∃mb ps D,x.2.2.2= .map (some mb)/\js w1 mb ((m.get n).map λv=>jz t (fo v)) ps/\(∀b,D b->A b)/\A mb/\¬D mb/\(∀v∈m.get n,CK t (fo v))/\
   (m.get n).Pairwise (λa b=>lC (jz t (fo a)) (jz t (fo b)))/\jq (λp v C=>v=mV v.2.2/\ed S k none w1 C p v.2.2) D ps (m.get n)):=by
 rcases h.was with⟨old,e,hs⟩|⟨e,rfl,hA⟩
 ·obtain⟨h1,h2⟩:=hs
  have Q3:m.get n=old:=by
   unfold PM.get;rw[e];exact pN n old fq fp h.lo
  rw[h.xn]at h2
  rcases h2 with⟨q,_⟩|⟨q,_⟩|⟨t',q,mb,ps,B,hv⟩
  ·exact absurd (hkd _ q) QE
  ·exact absurd (hkd _ q) QE
  ·have:=hkd _ q;simp only[Kd.ents.injEq]at this;subst this;rw[Q3];exact⟨⟨hv.c1,hv.c2⟩,.inr ⟨mb,ps,B,hv.c3,hv.map,hv.inA,hv.inM,hv.own,hv.key,hv.srt,hv.sub⟩⟩
 ·refine⟨⟨rfl,rfl⟩,.inl ⟨rfl,?_,hA⟩⟩;unfold PM.get;rw[e];refine mJ n _ λf hf=> ?_
  rcases aV.1 hf with hf|hf
  ·have:=h.lo f hf;omega
  ·have:=h.hi f hf;omega
theorem jq.splitR {α:Type}{P:α->β->(ap)->Prop}{l:List α}{rp:List β}{y:β}{rq:List β}{Y:ap}(h:jq P Y l (rp++y::rq)):
  ∃pre x post,l=pre++x::post/\pre.length=rp.length/\∃A B:ap,P x y A/\jq P B (pre++post) (rp++rq)/\(∀b,A b->Y b)/\(∀b,B b->Y b)/\∀b,A b->¬B b:=by
 have hl:=h.len;simp only[aG,bE]at hl;have Q4:rp.length<l.length:=QD
 obtain⟨pre,x,post,rfl,hp⟩:∃pre x post,l=pre++x::post/\pre.length=rp.length:=
  ⟨l.take rp.length,l[rp.length],l.drop (rp.length+1),by rw[<-aZ Q4,bX],by rw[bn];omega⟩
 obtain⟨rp',y',rq',e,hl',A,B,q⟩:=h.split;obtain⟨e1,e2⟩:=List.append_inj e QD;simp only[List.cons.injEq]at e2;obtain⟨rfl,rfl⟩:=e2;subst e1;exact⟨pre,x,post,rfl,hp,A,B,q⟩
theorem jq.part {P:Nat->β->(ap)->Prop}{l1 mid l2:List β}(h:jq P C ps (l1++(mid++l2)))(hm:mid= []\/∃x,mid= [x]):
  ∃ps1 pm ps2,∃C0:ap,ps=ps1++(pm++ps2)/\ps1.length=l1.length/\((mid= []/\pm= [])\/∃x p,mid= [x]/\pm= [p])/\jq P C0 (ps1++ps2) (l1++l2)/\∀b,C0 b->C b:=by
 rcases hm with rfl|⟨x,rfl⟩
 ·have hl:=h.len;simp only[aR,aG]at hl h;exact⟨ps.take l1.length,[],ps.drop l1.length,C,by rw[aR,bX],by rw[bn];omega,.inl ⟨rfl,rfl⟩,by rw[bX];exact h,λ_ q=>q⟩
 ·obtain⟨pre,p,post,rfl,hp,A,B,_,h2,_,h4,_⟩:=jq.splitR (y:=x) (rq:=l2) h;exact⟨pre,[p],post,B,rfl,hp,.inr ⟨x,p,rfl,rfl⟩,h2,h4⟩
theorem uw.ents {w2:an}{c:Nat}{A B:ap}{fp fq:List PF}
  (h:uw S k T w2 Z1 db m n g pre x post (.slice (some (ai g 0)) (pre++x::post).length c) uv A B fp fq) {w3 w6:an} {mb eb N:Nat} {E:ap} {em:PM} {D:DataW Unit} {kl:Lit}
  (hc3:Bo w3 db (.slice (some (ai g 0)) (pre++x::post).length c) uv (pre++(n,ah,ah,.map (some mb))::post)) (h3:∀b,b<w2.heap.size->b≠g->w3.heap[b]?=w2.heap[b]?) (hs3:w2.heap.size<=w3.heap.size)
  (hkept:∀b,b<w3.heap.size->¬E b->b≠mb->w6.heap[b]?=w3.heap[b]?) (hs6:w3.heap.size<=w6.heap.size) (hos:w6.os=w2.os/\w6.tape=w2.tape/\w6.output=w2.output)
  (QS:∃w5:an,w5.ownsMap prog 386 gj mb N D) (hsz:Go.Maps.size D=((m.get n).map λv=>jz t (fo v)).length) (hat:∀(k:LV) kl,Go.keyOf prog 386 (kV k)=some kl->∀z,D.atKey kl z=Oc (jr ((m.get n).map λv=>jz t (fo v)) ps k) z)
  (hput:w6.ownsMap prog 386 gj mb (N+1) (D.put kl (nl (some eb)))) (hkl:Go.keyOf prog 386 (kV (jz t (fo (mV em))))=some kl)
  (hmb:A mb\/w2.heap.size<=mb) (hmC:¬C mb) (hCA:∀b,C b->A b) (hEZ:∀b,E b->¬Z1 b) (hEm:¬E mb) (hEl:∀b,E b->b<w6.heap.size) (hml:mb<w6.heap.size) (hkey:∀v∈m.get n,CK t (fo v)) (hkv:CK t (fo (mV em)))
  (hsrt:(m.get n).Pairwise (λa b=>lC (jz t (fo a)) (jz t (fo b)))) (hsub:jq (λp v C=>v=mV v.2.2/\ed S k none w2 C p v.2.2) C ps (m.get n)) (he:ed S k none w6 E eb em) (hok:ny S T n (.ents t)) (QW:(m.get n).length<1073741824):
  fi w2 (λb=>Z1 b\/E b) w6 (λb=>Z1 b\/(A b\/b=mb\/E b))/\ed S (k+1) T w6 (λb=>Z1 b\/(A b\/b=mb\/E b)) db (m.put n (jn t (m.get n) (mV em))):=by
 obtain⟨l1,mid,l2,e1,e2,QV,Q0,Q1⟩:=tx hkv hkey hsrt;rw[e2];rw[e1]at hkey hsrt hsub;obtain⟨ps1,pm,ps2,C0,rfl,Q2,Ra,QP,QR⟩:=hsub.part (QV.imp id λ⟨x,q,_⟩=>⟨x,q⟩);have QW:=(h.y.c.row.lt g h.own).2;have QY:=h.y.c.blk.lt;have QT:mb<w2.heap.size->A mb:=λq=>hmb.resolve_right QD
 have Q5:mb≠g:=λe=>h.y.ys g h.own (.inl (e▸QT (e▸QW)))
 have Q6:mb≠db:=λe=>h.y.yd (.inl (e▸QT (e▸QY)))
 have QZ:=h.y.zs g h.own;have QQ:∀b,b<w2.heap.size->b≠g->¬E b->b≠mb->w6.heap[b]?=w2.heap[b]?:=λb hb q1 q2 q3=>(hkept b (aC hb hs3) q2 q3).trans (h3 b hb q1)
 have Q7:∀b,C0 b->w6.heap[b]?=w2.heap[b]?:=λb hb=>by
  have hA:=hCA b (QR b hb);exact QQ b (h.y.yl b (.inl hA)) (λe=>h.y.ys g h.own (.inl (e▸hA))) (λq=>hEZ b q (h.y.yz b (.inl hA))) (λe=>hmC (e▸QR b hb))
 have Q8:=hc3.keep (w':=w6) (hkept db (aC QY hs3) (λq=>hEZ db q h.y.zd) (λe=>Q6 e.symm)) (λb hb=>by
  obtain rfl:g=b:=by simpa [Value.ownBlock]using hb
  exact hkept g (aC QW hs3) (λq=>hEZ g q QZ) (λe=>Q5 e.symm))
 have QU:∀v∈l1++mV em::l2,CK t (fo v):=λv hv=>by
  simp only[aV,aN]at hv
  rcases hv with hv|rfl|hv
  ·exact hkey v (by simp[hv])
  ·exact hkv
  ·exact hkey v (by simp[hv])
 have Q9:(l1++mV em::l2).Pairwise (λa b=>lC (jz t (fo a)) (jz t (fo b))):=by
  rw[bS]at hsrt;have h2:=(bS.1 hsrt.2.1).2.1;rw[bS,ba];refine⟨hsrt.1,⟨Q1,h2⟩,λa ha b hb=> ?_⟩
  rcases aN.1 hb with rfl|hb
  ·exact Q0 a ha
  ·exact hsrt.2.2 a ha b (by simp[hb])
 obtain⟨w5,QS⟩:=QS;rw[e1,bM,bM]at hsz hat
 have QX:js w6 mb ((l1++mV em::l2).map λv=>jz t (fo v)) (ps1++eb::ps2):=by
  rw[bM,ch];refine js.put (km:=mid.map λv=>jz t (fo v)) (pm:=pm) ?_ (by rw[bm];exact Q2.symm) ?_ ?_ QS hsz hat hkl hput
  ·rcases Ra with⟨rfl,rfl⟩|⟨x,p,rfl,rfl⟩
   ·exact .inl ⟨rfl,rfl⟩
   ·obtain⟨x',q1,q2⟩:=QV.resolve_left QE
    cases q1
    exact .inr ⟨_,p,rfl,rfl,q2⟩
  ·intro q hq;obtain⟨v,hv,rfl⟩:=aQ.1 hq;exact kE (Q0 v hv)
  ·intro q hq;obtain⟨v,hv,rfl⟩:=aQ.1 hq;exact λe=>kE (Q1 v hv) e.symm
 refine⟨⟨hos.1,hos.2.1,hos.2.2,aH hs3 hs6,λb hb q=>QQ b hb (λe=>q (.inl (e▸QZ))) (λe=>q (.inr e)) (λe=>q (.inl (e▸h.y.yz mb (.inl (QT (e▸hb)))))),?_⟩,?_⟩
 ·rintro b (q|q|rfl|q)
  ·exact .inl (.inl q)
  ·exact .inl (.inl (h.y.yz b (.inl q)))
  ·exact hmb.imp (λq=> .inl (h.y.yz _ (.inl q))) id
  ·exact .inl (.inr q)
 ·refine ed.mono (Z:=λb=>Z1 b\/(b=mb\/C0 b\/E b)) (h.close (w2:=w6) (x':=(n,ah,ah,.map (some mb))) (vs:=l1++mV em::l2) (A':=λb=>b=mb\/C0 b\/E b) ?_ ⟨rfl,.inr (.inr ⟨t,hok,mb,ps1++eb::ps2,λb=>C0 b\/E b,?_⟩)⟩ QE ?_ ?_ ?_) ?_
  ·exact Q8
  ·refine⟨QE,rfl,rfl,rfl,QX,λb q=> .inr q,.inl rfl,λq=>q.elim (λq=>hmC (QR mb q)) hEm,QU,Q9,?_,?_⟩
   ·exact jq.join (A:=E) (B:=C0) Q2.symm ⟨rfl,he⟩ (QP.imp λp v F _ _ hF hp=>⟨hp.1,hp.2.keep λb hb _=>Q7 b (hF b hb)⟩) (λb q=> .inr q) (λb q=> .inl q) (λb q1 q2=>hEZ b q1 (h.y.yz b (.inl (hCA b (QR b q2)))))
   ·have q1:=dF List.length e1;have q2:=QP.len;simp only[aG,bE]at q1 q2⊢;omega
  ·rintro b (rfl|q|q) hz hl
   ·exact QT hl
   ·exact hCA b (QR b q)
   ·exact absurd hz (hEZ b q)
  ·rintro b (rfl|q|q)
   ·exact hml
   ·exact aC (h.y.yl b (.inl (hCA b (QR b q)))) (aH hs3 hs6)
   ·exact hEl b q
  ·exact λb hz hb q1 q2=>QQ b hb q1 (λq=>hEZ b q hz) (λe=>q2 (e▸QT (e▸hb)))
  ·rintro b (q|rfl|q|q)
   ·exact .inl q
   ·exact .inr (.inr (.inl rfl))
   ·exact .inr (.inl (hCA b (QR b q)))
   ·exact .inr (.inr (.inr q))
end
section
attribute [local go_sem↓] Go.wp_at_zero Go.wp_at_succ
def fi.clip {w w':an}{Z Z':ap}(h:fi w Z w' Z'):fi w Z w' (λb=>Z' b/\b<w'.heap.size):=⟨h.os,h.tape,h.output,h.size,h.block,λb q=>h.grow b q.1⟩
def fi.less {a b:an}{S S' T:ap}(h:fi a S b T)(hs:∀x,S x->S' x\/a.heap.size<=x):fi a S' b T:=
 ⟨h.os,h.tape,h.output,h.size,λi hi q=>h.block i hi (λe=>(hs i e).elim q (λe=>QD)),λi q=>(h.grow i q).elim (hs i) .inr⟩
def qG {t:am}{n:Int}{f:eP}(h:dP (oW t).fs n=some f):n=1/\f=⟨mQ,t,eS,kx,1⟩:=by
 unfold oW at h;simp only[dP]at h
 split at h
 ·rename_i e
  cases h
  exact⟨e.symm,rfl⟩
 ·cases h
def ed.toKey {S:d8}{f:eP}{k:Nat}{w:an}{Z:ap}{db:Nat}{m:PM}(h:ed S k (some (eo f)) w Z db m):ed S k (some (oW f.key)) w Z db m:=by
 cases k with
 |zero=>exact h
 |succ k=>
  obtain⟨sv,uv,l,Y,hy,hs⟩:=h;refine⟨sv,uv,l,Y,hy,hs.imp λx g A _ _ _ h=>⟨h.1,?_⟩⟩
  have hf:∀n f',dP (oW f.key).fs n=some f'->dP (eo f).fs n=some f':=λn f' q=>by
   obtain⟨rfl,rfl⟩:=qG q;rfl
  have hk:∀n kd,ny S (some (eo f)) n kd->ny S (some (oW f.key)) n kd:=λn kd q d f' e1 e2=>by
   cases e1
   exact q (eo f) f' rfl (hf n f' e2)
  rcases h.2 with⟨q,lv,h⟩|⟨q,ps,B,h⟩|⟨t,q,mb,ps,B,h⟩
  ·exact .inl ⟨hk _ _ q,lv,h⟩
  ·refine .inr (.inl ⟨hk _ _ q,ps,B,{h with lone:=(λ⟨d,f',e1,e2,e3⟩=>by cases e1;exact h.lone ⟨_,f',rfl,hf _ _ e2,e3⟩),sub:=h.sub.imp λp v C _ _ _ q=>⟨q.1,?_⟩}⟩)
   cases hff:dP (oW f.key).fs x.1 with
   |none=>
    have:mX S (some (oW f.key)) x.1=none:=by unfold mX;simp[hff]
    rw[this];exact q.2.forget
   |some f'=>
    have:mX S (some (oW f.key)) x.1=mX S (some (eo f)) x.1:=by unfold mX;simp[hff,hf _ _ hff]
    rw[this];exact q.2
  ·exact .inr (.inr ⟨t,hk _ _ q,mb,ps,B,h⟩)
structure He (S:d8)(k:Nat)(t:am)(m:PM)(n:Int)(w2 w3:an)(db g c N:Nat)(uv:Value)(pre post:List fZ)(A:ap)(mb:Nat)(ps:au)(C:ap):Prop where
 dc:Bo w3 db (.slice (some (ai g 0)) N c) uv (pre++(n,ah,ah,.map (some mb))::post)
 k3:∀b,b<w2.heap.size->b≠g->w3.heap[b]?=w2.heap[b]?
 s3:w2.heap.size<=w3.heap.size
 os:w3.os=w2.os/\w3.tape=w2.tape/\w3.output=w2.output
 map:js w3 mb ((m.get n).map λv=>jz t (fo v)) ps
 hm:A mb\/w2.heap.size<=mb
 mC:¬C mb
 CA:∀b,C b->A b
 key:∀v∈m.get n,CK t (fo v)
 srt:(m.get n).Pairwise (λa b=>lC (jz t (fo a)) (jz t (fo b)))
 sub:jq (λp v C=>v=mV v.2.2/\ed S k none w2 C p v.2.2) C ps (m.get n)
 c3:w3.cell? (ai g (pre.length*4+3))=some (.map (some mb))
def tz (S:d8)(k:Nat)(T:Option MT)(w:an)(Z E:ap)(db eb:Nat)(m em:PM)(n:Int)(t:am)(sg:Bool)(h:ed S (k+1+1) T w Z db m)(he:ed S (k+1) (some (oW t)) w E eb em)(hno:S.msg t=none)(hd:∀b,E b->¬Z b)(hZ:∀b,Z b->b<w.heap.size)(hE:∀b,E b->b<w.heap.size)
  (hok:ny S T n (.ents t)) (hkd:∀kd,ny S T n kd->kd= .ents t) (hsg:sg=eM iJ t) (hkv:CK t (fo (mV (fO em)))) (hky:(fO em).get 1≠ []) (hl:m.fs.length<1073741824) (hgl:(m.get n).length<1073741824) (hel:em.fs.length<1073741822):
  Calls prog 187 #[ag db,aa n,.bool sg,ag eb] w λe w'=>e= .returned (.tuple #[])/\∃Z',fi w (λb=>Z b\/E b) w' Z'/\ed S (k+1+1) T w' Z' db (m.put n (jn t (m.get n) (mV (fO em)))):=by
 have Ro:oq S ⟨mQ,t,eS,kx,1⟩= .vals:=by
  unfold oq eP.isMap eR;have e1:gE kx AT=false:=zA;simp[e1,eP.isMap,hno]
 have ok1:ny S (some (oW t)) 1 .vals:=λd f e1 e2=>by
  cases e1
  obtain⟨_,rfl⟩:=qG e2;exact Ro.symm
 have ok2:ny S (some (oW t)) 2 .vals:=λd f e1 e2=>by
  cases e1
  have:=(qG e2).1;omega
 have RN:∀kd,ny S (some (oW t)) 1 kd->kd= .vals:=λkd q=>by rw[q (oW t) ⟨mQ,t,eS,kx,1⟩ rfl rfl,Ro]
 subst hsg;have hC:=Br S k (some (oW t)) w E eb em he ok1 ok2 hel hE
 have Rp:(fO em).fs.length<1073741824:=by
  have e:(fO em).fs=(ft (ft em 1) 2).fs:=rfl
  have h1:∀(m:PM) (n:Int),(ft m n).fs.length<=m.fs.length+1:=λm n=>by
   unfold ft
   split
   ·exact PM.put_len m n _
   ·omega
  have:=h1 em 1;have:=h1 (ft em 1) 2;rw[e];omega
 obtain⟨fe,RC⟩:∃fe,fO em=fe:=⟨_,rfl⟩;rw[RC]at hC hkv hky Rp⊢;clear RC;go_enter func187,ntmps187;go_wp2_with fail;refine hC.mono ?_;rintro e w1 ⟨rfl,E1',Q3,Q4⟩;obtain⟨E1,st1,RD,RE⟩:∃E1,fi w E w1 E1/\ed S (k+1) (some (oW t)) w1 E1 eb fe/\∀b,E1 b->b<w1.heap.size:=⟨_,Q3.clip,Q4.clip,λb q=>q.2⟩;clear Q3 Q4 hC;have Rb:∀b,E1 b->¬Z b:=λb q1 q2=>(st1.grow b q1).elim (λq=>hd b q q2) (λq=>by have:=hZ b q2;omega)
 have h1:ed S (k+1+1) T w1 Z db m:=h.keep λb q hl=>st1.block b hl (λe=>hd b e q)
 obtain⟨sv,uv,l,hc,Sa,hR⟩:=h1.slot (n:=n) hl;have hS:=sy w1 db sv uv l n hc Sa;go_wp2_with fail;refine hS.mono ?_;rintro e w2 RF;obtain⟨g,c,pre,x,post,A,B,fp,fq,rfl,O,st2,hAl,K,hg⟩:=hR w1 _ w2 (Below.refl _ _) RF;clear RF hR hS h h1;have Rq:=st2.grow g (.inr rfl)
 have QS:∀b,E1 b->¬(Z b\/b=g):=λb q=>by
  rintro(e|rfl)
  ·exact Rb b q e
  ·exact Rq.elim (Rb b q) (λe=>by have:=RE b q;omega)
 have Rr:ed S (k+1) (some (oW t)) w2 E1 eb fe:=RD.keep λb q hl=>st2.block b hl (Rb b q)
 have Rs:∀b,E1 b->b<w2.heap.size:=λb q=>aC (RE b q) st2.size
 obtain⟨c0,c1,c2,c3,cf⟩:=O.cells rfl;have QW:=(O.y.c.row.lt g rfl).2
 have Rt:fi w (λb=>Z b\/E b) w2 (λb=>(Z b\/b=g)\/E1 b):=
  ⟨st2.os.trans st1.os,st2.tape.trans st1.tape,st2.output.trans st1.output,aH st1.size st2.size,λb hb q=>(st2.block b (aC hb st1.size) (λe=>q (.inl e))).trans (st1.block b hb (λe=>q (.inr e))),λb q=>by
   rcases q with(q|rfl)|q
   ·exact .inl (.inl q)
   ·exact Rq.imp .inl (λe=>aH st1.size e)
   ·exact(st1.grow b q).imp .inr id⟩
 clear he RD st1 st2 hE K;obtain⟨⟨x1,x2⟩,hx⟩:=O.ofEnts hkd;have hpl:((pre++x::post).flatMap dY).length=(pre++x::post).length*4:=nB _
 rcases hx with⟨x3,Q5,Sb⟩|⟨mb,ps,C,x3,RG,RH,RI,RJ,Q6,Q7,Q8⟩
 focus
  rw[x3]at c3
  have PK:∃mb ps C,He S (k+1) t m n w2 ((w2.setCell (ai g (pre.length*4+3)) (.map (some w2.heap.size))).alloc (.map #[] 0)) db g c (pre++x::post).length uv pre post A mb ps C/\mb=w2.heap.size:=by
   have Ru:=O.y.c.put (j:=3) QD (v:= .map (some w2.heap.size)) (x':=(x.1,ah,ah,.map (some w2.heap.size))) rfl ⟨⟨_,_,_,rfl⟩,⟨_,_,_,rfl⟩,_,rfl⟩ (by simp[dY,x1,x2]);rw[O.xn]at Ru;have hsz:(w2.setCell (ai g (pre.length*4+3)) (.map (some w2.heap.size))).heap.size=w2.heap.size:=QE;have Rw:=Ru.below ((Below.refl _ _).alloc (ay _) (.map #[] 0));have Rx:=js.made (w2.setCell (ai g (pre.length*4+3)) (.map (some w2.heap.size)));rw[hsz]at Rx;refine⟨_,[],λ_=>False,⟨Rw,λb hb q=>(Below.heap_alloc _ _ b (by rw[hsz];exact hb)).trans (by rw[dJ,dA (λe=>q e.symm)]),QE,⟨rfl,rfl,rfl⟩,by rw[Q5];exact Rx,.inr (ay _),λq=>q,λ_ q=>q.elim,by rw[Q5];simp,by rw[Q5];exact List.Pairwise.nil,by rw[Q5];trivial,?_⟩,rfl⟩;have Rc:(pre++(n,Value.slice none 0 0,Value.slice none 0 0,Value.map (some w2.heap.size))::post)[pre.length]?=some (n,ah,ah,.map (some w2.heap.size)):=QE;obtain⟨g',e,_,Sc⟩:=qF (c:=c) (by have:=Rw.row;simpa using this) Rc
   cases e
   exact(Sc _ rfl).2.2.2
  have RO:=run_eql_map_nil (P:=prog) w2 247 386 180 none underlying247;have RP:= @run_makeMap prog;have RQ:∀o,(w2.alloc (.map #[] 0)).frozen? (ai g o)=false:=λo=>by rw[World.frozen?_of_block (Below.heap_alloc _ _ g QW)];exact cf o
  have RT:(w2.alloc (.map #[] 0)).cell? (ai g (pre.length*4+3))=some (.map none):=by rw[bj (Below.heap_alloc _ _ g QW)];exact c3
  clear x3 Q5 Sb;go_upto_region 4 with fail
  generalize(w2.setCell (ai g (pre.length*4+3)) (.map (some w2.heap.size))).alloc (.map #[] 0)=w3 at*;obtain⟨mb,ps,C,PK,Rj⟩:=PK;clear Rj c0 c1 c2 c3 cf RP RQ RT
 rotate_left
 focus
  rw[x3]at c3
  have PK:He S (k+1) t m n w2 w2 db g c (pre++x::post).length uv pre post A mb ps C:=by
   have RU:x=(n,ah,ah,.map (some mb)):=by
    obtain⟨a1,a2,a3,a4⟩:=x;have:=O.xn;simp only at this x1 x2 x3;rw[this,x1,x2,x3]
   refine⟨?_,λ_ _ _=>rfl,ay _,⟨rfl,rfl,rfl⟩,RG,.inl RI,RJ,RH,Q6,Q7,Q8,c3⟩;rw[<-RU];exact O.y.c
  have RO:=run_eql_map_nil (P:=prog) w2 247 386 180 (some mb) underlying247;clear RG RH RI RJ Q6 Q7 Q8 x3;go_upto_region 4 with fail
  obtain⟨w3,Rk⟩:∃w3,w3=w2:=⟨_,rfl⟩;rw[<-Rk];have Ry:He S (k+1) t m n w2 w3 db g c (pre++x::post).length uv pre post A mb ps C:=by rw[Rk];exact PK
  clear PK;have PK:=Ry;clear Ry c0 c1 c2 c3 cf Rk
 all_goals
  have Rz:ed S (k+1) (some (oW t)) w3.drew E1 eb fe:=Rr.keep (λb q hl=>PK.k3 b hl (λe=>QS b q (.inr e)));obtain⟨RK,RL,le,Sd,Rl,RM⟩:=Rz.slot (n:=1) Rp;have RV:=sy w3.drew eb RK RL le 1 Sd Rl;obtain⟨D,QY,hsz,Se⟩:=PK.map;have Q0:=QY.lt;have Ra:¬E1 mb:=λq=>PK.hm.elim (λa=>QS mb q (O.y.yz mb (.inl a))) (λa=>by have:=Rs mb q;omega)
  have RW:¬E1 g:=λq=>QS g q (.inr rfl)
  have Q1:=aC QW PK.s3;have hE3:∀b,E1 b->b<w3.heap.size:=λb q=>aC (Rs b q) PK.s3
  have RX:w3.drew.cell? (ai g (pre.length*4+3))=some (.map (some mb)):=PK.c3
  have RY:Hid (∀(w0:an) (e:Ending) (w1:an),Below w3.drew.heap.size w3.drew w0->ur w0 eb RK RL le 1 e w1->∃ge QT v0 gv lv cc,e= .returned (.pointer (some (ai ge (QT.length*4))))/\w1.cell? (ai ge ((QT:List fZ).length*4+1))=some (.slice (some (ai gv 0)) (lv+1) cc)/\w1.cell? (ai gv 0)=some (.int .u64 v0.1)/\w1.cell? (ai gv 1)=some (ae v0.2)/\w1.cell? (ai gv 2)=some (ah)/\w1.cell? (ai gv 3)=some (ae ⟨#[]⟩)/\
    fo (mV fe)=oU v0/\ed S (k+1) none w1 (λb=>E1 b\/b=ge) eb fe/\fi w0 E1 w1 (λb=>E1 b\/b=ge)):=by
   intro w0 e w4 hb hq;obtain⟨ge,ce,QT,x',post',A',B',fp',fq',rfl,O',QP,hAl',K4,RA⟩:=RM w0 e w4 hb hq;obtain⟨⟨y2,y3⟩,Rc⟩:=O'.ofVals (.inl RN);obtain⟨gv,cc,lv,Sf,y1,hAg,Sg,Q9⟩:=Rc.resolve_left (λq=>hky q.2);obtain⟨z0,z1,z2,z3,zf⟩:=O'.cells rfl;rw[y1]at z1
   cases lv with
   |nil=>exact absurd rfl Sf
   |cons v0 lv=>
    obtain⟨gv',e,_,_,QQ⟩:=eh Q9 QE
    cases e
    refine⟨ge,QT,v0,gv,lv.length,cc,rfl,z1,QQ w4 rfl 0 _ rfl,QQ w4 rfl 1 _ rfl,QQ w4 rfl 2 _ rfl,QQ w4 rfl 3 _ rfl,?_,(O'.shut hky).forget,QP⟩;show((fe.get 1).headD PV.none)=oU v0;rw[Sg];rfl
  clear RM Rz Rr
  have Re:xj (jz t (fo (mV fe))):=⟨by
   unfold jz;have:=hkv.lo;simp only
   split<;>omega,by
   unfold jz;have:=hkv.hi;have:=hkv.lo;simp only
   split<;>omega,by have:=hkv.sz;unfold maxLen;show(fo (mV fe)).2.1.size<=_;omega⟩
  obtain⟨kl,Rm⟩:=Mz Re;have RZ:((m.get n).map λv=>jz t (fo v)).length<maxLen:=by rw[bm];unfold maxLen;omega
  have Rf:Hid (∀(w4 w5 w6:an) (ge:Nat),ed S (k+1) none w4 (λb=>E1 b\/b=ge) eb fe->fi w3.drew E1 w4 (λb=>E1 b\/b=ge)->aj w4 w5->w6.ownsMap prog 386 gj mb (((m.get n).map λv=>jz t (fo v)).length+1) (D.put kl (nl (some eb)))->w5.grownBy w6 (some mb)->
    ∃Z',fi w (λb=>Z b\/E b) w6 Z'/\ed S (k+1+1) T w6 Z' db (m.put n (jn t (m.get n) (mV fe)))):=by
   intro w4 w5 w6 ge Rn QP b5 QR QV;have RA:=QP.grow ge (.inr rfl);have QU:w3.heap.size<=w4.heap.size:=QP.size;have QX:∀b,b=ge->E1 b\/w3.heap.size<=b:=λb e=>by rw[e];exact RA
   have RB:mb≠ge:=λe=>(QX mb e).elim Ra (λq=>QD)
   have Rg:=Rn.clip
   have Q2:∀b,b<w3.heap.size->¬(E1 b\/b=ge)->b≠mb->w6.heap[b]?=w3.heap[b]?:=λb hb q1 q2=>
    ((QV.block b (aC (aC hb QU) b5.size) (λe=>q2 (by simpa using e))).trans (b5.block b (aC hb QU))).trans (QP.block b hb (λq=>q1 (.inl q)))
   have R8:ed S (k+1) none w6 (λb=>(E1 b\/b=ge)/\b<w4.heap.size) eb fe:=Rg.keep λb q hl=>(QV.block b (aC hl b5.size) (λe=>by
    have e2:b=mb:=by simpa using e
    subst e2
    exact q.1.elim Ra RB)).trans (b5.block b hl)
   have Rh:∀b,((E1 b\/b=ge)/\b<w4.heap.size)->¬(Z b\/b=g):=by
    rintro b ⟨q,_⟩ hz
    rcases q with q|q
    ·exact QS b q hz
    ·rcases QX b q with q|q
     ·exact QS b q hz
     ·have:=Rt.size;have:=PK.s3
      rcases hz with hz|rfl
      ·have:=hZ b hz;omega
      ·omega
   have Ri:¬((E1 mb\/mb=ge)/\mb<w4.heap.size):=λq=>q.1.elim Ra RB
   obtain⟨f1,f2⟩:=O.ents (E:=λb=>(E1 b\/b=ge)/\b<w4.heap.size) (w3:=w3) (w6:=w6) PK.dc PK.k3 PK.s3 (λb hb q1 q2=>Q2 b hb (λq=>q1 ⟨q,aC hb QU⟩) q2) (aH QU (aH b5.size QV.size)) ⟨QV.os.trans (b5.os.trans (QP.os.trans PK.os.1)),QV.tape.trans (b5.tape.trans (QP.tape.trans PK.os.2.1)),QV.output.trans (b5.output.trans (QP.output.trans PK.os.2.2))⟩
    ⟨w3,QY⟩ hsz Se QR Rm PK.hm PK.mC PK.CA Rh Ri (λb q=>aC q.2 (aH b5.size QV.size)) QR.lt PK.key hkv PK.srt PK.sub R8 hok hgl
   refine⟨_,Rt.trans (f1.less ?_),f2⟩;rintro b (q|⟨q|q,_⟩)
   ·exact .inl (.inl q)
   ·exact .inl (.inr q)
   ·exact(QX b q).imp .inr (λq=>aH PK.s3 q)
  have R9:=λv0:LV=>Ka (v:=v0) (sg:=eM iJ t)
  go_region_with
   (first
    |(go_at_call 266;refine RV.mono ?_;rintro e w4 Sh;obtain⟨ge,QT,v0,gv,lv,cc,rfl,z1,d0,d1,d2,d3,QZ,Rn,QP⟩:=RY.out w3.drew e w4 (Below.refl _ _) Sh;have c34:w4.cell? (ai g (pre.length*4+3))=some (.map (some mb)):=(bj (QP.block g Q1 RW)).trans RX)
    |(go_at_call 267;refine(R9 v0 w4 (by have:=hkv.lo;rw[QZ]at this;exact this) (by have:=hkv.hi;rw[QZ]at this;exact this)).mono ?_;rintro e w5 ⟨rfl,b5⟩;obtain⟨w6,hrun6,QR,QV⟩:=((jT QY ((b5.block mb (aC Q0 QP.size)).trans (QP.block mb Q0 Ra))):w5.ownsMap prog 386 gj mb _ D).update Dc underlying247 RZ (key:=kV (Gh (eM iJ t) v0)) (val:=ag eb) (by rw[QZ]at Rm;exact Rm) (kA (some eb));have c35:w5.cell? (ai g (pre.length*4+3))=some (.map (some mb)):=(bj (b5.block g (aC Q1 QP.size))).trans c34))
  all_goals
   go_end0;exact⟨rfl,Rf.out w4 w5 w6 ge Rn QP b5 QR QV⟩
end
structure el (w:an)(Z:ap)(rb:Nat)(w':an)(Z':ap):Prop where
 os:w'.os=w.os
 tape:w'.tape=w.tape
 output:w'.output=w.output
 size:w.heap.size<=w'.heap.size
 block:∀b,b<w.heap.size->¬Z b->b≠rb->w'.heap[b]?=w.heap[b]?
 grow:∀b,Z' b->Z b\/w.heap.size<=b
section
variable {a b c:an} {Z Y X:ap} {rb n:Nat}
def el.trans (h:el a Z rb b Y)(k:el b Y rb c X):el a Z rb c X:=
 ⟨k.os.trans h.os,k.tape.trans h.tape,k.output.trans h.output,aH h.size k.size,λi hi q1 q2=>(k.block i (aC hi h.size) (λe=>(h.grow i e).elim q1 (λe=>QD)) q2).trans (h.block i hi q1 q2),
  λi q=>(k.grow i q).elim (h.grow i) (λe=> .inr (aH h.size e))⟩
def el.of_step (h:fi a Z b Y):el a Z rb b Y:=⟨h.os,h.tape,h.output,h.size,λi hi q _=>h.block i hi q,h.grow⟩
def el.of_kept (h:dS [rb] a b):el a Z rb b Z:=⟨h.os,h.tape,h.output,h.size,λi hi _ q=>h.block i hi (by simpa using q),λ_ q=> .inl q⟩
def el.of_below (h:Below a.heap.size a b):el a Z rb b Z:= .of_kept (.of_below h)
def el.refl (a:an)(Z:ap)(rb:Nat):el a Z rb a Z:= .of_below (Below.refl _ _)
def el.not (h:el a Z rb b Y)(hb:n<a.heap.size)(hn:¬Z n):¬Y n:=λq=>(h.grow n q).elim hn (λe=>QD)
def el.below {B:Nat}(h:el a Z rb b Y)(hB:B<=a.heap.size)(hZ:∀x,Z x->B<=x)(hr:B<=rb):Below B a b:=
 ⟨h.os,h.tape,h.output,h.size,λi hi=>h.block i QD (λq=>by have:=hZ i q;omega) QD⟩
def el.clip (h:el a Z rb b Y):el a Z rb b (λx=>Y x/\x<b.heap.size):=⟨h.os,h.tape,h.output,h.size,h.block,λx q=>h.grow x q.1⟩
end
structure FG (S:d8)(mp:am->Option Nat)(d:MT)(f:eP)(g:GF):Prop where
 eq:g.f=f
 form:g.form=0\/g.form=1\/g.form=2\/g.form=3\/g.form=4
 map:f.isMap=decide (g.form=4)
 rep:f.isRep=decide (g.form=2)
 sin:gE f.how eS=decide (g.form=0)
 riv:g.riv=kC d f
 lone:g.form≠3->g.riv= []
 rlen:g.riv.length<=1073741824
 base:iU mp f.ty=S.base f.ty
 nest:S.base f.ty=16<->(S.msg f.ty).isSome=true
 key:g.form=4->iU mp f.key=S.base f.key/\S.base f.key<=14/\S.msg f.key=none/\jD (S.base f.key)=eM iJ f.key
structure kc (S:d8)(mp:am->Option Nat)(d:MT)(gs:List GF):Prop where
 srt:gs.Pairwise (λx y=>x.f.num<=y.f.num)
 len:gs.length<=2001
 no:∀n,dP d.fs n=none->g8 gs n=none
 yes:∀n f,dP d.fs n=some f->∃g,g8 gs n=some g/\FG S mp d f g
structure rC (w:an)(B:Nat)(S:d8)(mp:am->Option Nat):Prop where
 u:UOK w
 u1:2<B
 u2:3<B
 le:B<=w.heap.size
 md:∀t d,S.msg t=some d->∃mb gs,wX mp t=some mb/\iF w (λb=>b<B) mp mb d.name gs/\kc S mp d gs
def rC.on {w w':an}{B:Nat}{S:d8}{mp:am->Option Nat}(h:rC w B S mp)(hb:Below B w w'):rC w' B S mp:=
 ⟨h.u.keep (hb.block _ h.u1) (hb.block _ h.u2),h.u1,h.u2,aH h.le hb.size,λt d q=>by
  obtain⟨mb,gs,h1,h2,h3⟩:=h.md t d q
  exact⟨mb,gs,h1,h2.keep (λb q _=>hb.block b q),h3⟩⟩
structure Bt (S:d8):Prop where
 good:xN S
 name:∀d∈S.ms,gE d.name eS=false
def gR (S:d8)(k:Nat)(d:MT)(w:an)(Z:ap)(rb db:Nat)(s:am)(deep:Nat)(R:Fx (PM×Nat))(en:Ending)(w':an):Prop:=
 match R with
 | .error x=>en=dI x.1 x.2/\∃Z',el w Z rb w' Z'
 | .ok x=>en= .returned (.tuple #[])/\∃Z',el w Z rb w' Z'/\ed S (k+1) (some d) w' Z' db x.1/\dU w' rb s x.2 deep
def gR.pre {S:d8}{k:Nat}{d:MT}{w w1:an}{Z Z1:ap}{rb db:Nat}{s:am}{deep:Nat}{R:Fx (PM×Nat)}{en:Ending}{w':an}(h:el w Z rb w1 Z1)(k1:gR S k d w1 Z1 rb db s deep R en w'):gR S k d w Z rb db s deep R en w':=by
 unfold gR at*
 split at k1
 ·exact⟨k1.1,k1.2.imp λ_ q=>h.trans q⟩
 ·obtain⟨q1,Z',q2,q3⟩:=k1;exact⟨q1,Z',h.trans q2,q3⟩
def nC (e:Nat):Fx PM->Fx (PM×Nat)
 | .error x=> .error x
 | .ok m=> .ok (m,e)
def jx (S:d8)(b:am)(F:Nat)(d:MT)(f:eP)(m:PM)(deep:Nat):Fx om->Fx (PM×Nat)
 | .error x=> .error x
 | .ok r=>nC r.e (xg S b F d f m r deep)
def qu (f:eP):∀(l:List eP) (m:PM),ik f l m=m.without ((l.filter λo=>gE o.how f.how&&jd o.how&&decide (o.num≠f.num)).map (·.num))
 | [],m=>by
  cases m
  simp only[ik,PM.without,PM.fs,PM.unk,List.filter_nil,List.map_nil]
  congr 1;exact(dm.2 QE).symm
 |o::l,m=>by
  rw[ik,qu f l];rw[b9]
  split
  ·rw[ch,<-tu];unfold PM.without;simp only[PM.fs,PM.unk,List.filter_filter]
   congr 1;refine List.filter_congr λx _=> ?_
   rw[<-Bool.decide_and]
   congr 1;simp[aN,not_or,and_comm]
  ·rfl
def vE (d:MT)(f:eP)(m:PM):ik f d.fs m=m.without (kC d f):=qu f d.fs m
def iN (m:PM):m.without []=m:=by
 cases m
 simp only[PM.without,PM.fs,PM.unk]
 congr 1;exact dm.2 QE
def oX (n:Int)(ns:List Int)(h:n∉ns):∀l:List PF,gm (l.filter λf=>decide (f.1∉ns)) n=gm l n
 | []=>rfl
 |x::l=>by
  rw[b9,gm]
  by_cases q:x.1∈ns
  ·have:decide (x.1∉ns)=false:=by simp[q]
   rw[this,dA QE,dA (λe:x.1=n=>h (by rw[<-e];exact q)),oX n ns h l]
  ·have:decide (x.1∉ns)=true:=by simp[q]
   rw[this,dB rfl,gm,oX n ns h l]
def tA {m:PM}{n:Int}{ns:List Int}(h:n∉ns):(m.without ns).get n=m.get n:=oX n ns h m.fs
def Ef (d:MT)(f:eP):f.num∉kC d f:=λh=>by
 unfold kC at h;obtain⟨o,ho,e⟩:=aQ.1 h;have:=(bN.1 ho).2;simp only[aJ,dD]at this;exact this.2 e
def WM.without {S:d8}{a:Nat}{d:MT}{m:PM}(h:WM S a d m)(f:eP):WM S a d (m.without (kC d f)):=by
 rw[<-vE];exact h.dropF f d.fs
section
variable {bs:List dO} {t:am}
theorem De {ws:List W}{j:Nat}(h:qi ws= .ok (bs,j)):∀b∈bs,dH b.name.1=1:=by
 refine nj (Q:=λb=>dH b.name.1=1) (λi b j hb=> ?_) _ _ _ _ h;unfold kr at hb
 split at hb
 ·unfold ly at hb;obtain⟨_,i1,_,hb⟩:=dM hb;obtain⟨n,i2,hn,hb⟩:=dM hb;obtain⟨_,i3,_,hb⟩:=dM hb;obtain⟨l,i4,_,hb⟩:=dM hb;obtain⟨_,i5,_,hb⟩:=dM hb;simp at hb;obtain⟨rfl,_⟩:=hb;exact(ig _ _ _ _ _ hn).2.2
 ·unfold gO at hb;obtain⟨_,i1,_,hb⟩:=dM hb;obtain⟨n,i2,hn,hb⟩:=dM hb;obtain⟨_,i3,_,hb⟩:=dM hb;obtain⟨l,i4,_,hb⟩:=dM hb;obtain⟨_,i5,_,hb⟩:=dM hb;simp at hb;obtain⟨rfl,_⟩:=hb;exact(ig _ _ _ _ _ hn).2.2
structure jt (bs:List dO):Prop where
 ok:Bc bs
 nm:∀b∈bs,dH b.name.1=1
 ones:∀b∈bs,b.enum=false->(gQ b.parts).Pairwise (λx y=>x.toList≠y.toList)
theorem Bu (h:iw t= .ok bs):jt bs:=by
 refine⟨qA h,?_,λb hb he=>CQ h hb he⟩;unfold iw at h
 split at h
 ·cases h
 ·split at h
  ·cases h
  ·rename_i h3
   split at h
   ·cases h
   ·cases h
    exact De h3
theorem qH {s:am}(h:s.toList=t.toList):dH s=dH t:=by rw[ja h]
theorem rD (h:jt bs)(h3:dH t=3):(dV bs).msg t=none:=by
 refine oI λb hb e=> ?_
 have:=h.nm b (bN.1 hb).1;rw[qH e,h3]at this;omega
theorem Eg (h3:dH t=3):mS t<=14:=by
 unfold mS;have hm:t.toList∈mz:=by have:=lS h3;simpa [jh]using this
 generalize t.toList=l at hm
 revert l;decide+kernel
theorem sB (h:jt bs){z:List (am×Nat)}(hz:z.map (·.1)=dX bs)(ht:dH t=3\/(dH t=1/\eM (fH bs) t=true)):(dV bs).base t=16<->((dV bs).msg t).isSome=true:=by
 rw[ug h.ok hz ht];unfold iU
 by_cases h3:dH t=3
 ·rw[dB h3,rD h h3];have:=Eg h3;simp;omega
 ·rw[dA h3]
  cases hm:eM (dX bs) t with
  |true=>
   obtain⟨_,_,_,_,h2,_,h4⟩:=oJ h.ok hz hm
   simp_all
  |false=>
   obtain⟨h1,h2⟩:=uY hz hm
   simp_all
theorem Bv (h3:dH t=3):jD (mS t)=eM iJ t:=by
 have hm:t.toList∈mz:=by have:=lS h3;simpa [jh]using this
 have e:eM iJ t=eM iJ ⟨t.toList.toArray⟩:=by
  unfold eM;rw[ByteArray.toList_eq,ByteArray.toList_eq]
 unfold mS;rw[e];generalize t.toList=l at hm
 revert l;decide+kernel
end
def zJ {s t:am}(ht:fE t 0≠46):gE (p8 s) t=false:=by
 cases h:gE (p8 s) t with
 |false=>rfl
 |true=>
  have h1:=xF s;rw[ja (gk.1 h)]at h1;unfold jd at h1
  simp_all
def sC {p:fC}(hp:sd p){f:eD}(hf:f∈p.fields):
  (f.form=0\/f.form=1\/f.form=2\/f.form=3\/f.form=4)/\(iL p.oneof f).isMap=decide (f.form=4)/\(iL p.oneof f).isRep=decide (f.form=2)/\gE (iL p.oneof f).how eS=decide (f.form=0)/\(f.form≠3->oE p f= []):=by
 rcases hp.2 with⟨o,h1,_,h3⟩|⟨h1,g,h2,h3⟩
 ·have e:=h3 f hf;have hh:(iL p.oneof f).how=p8 o.1:=by show wW p.oneof f.form=_;rw[h1];rfl
  unfold eP.isMap eP.isRep;rw[hh,e,zJ QH,zJ QH,zJ QH];simp
 ·rw[h2]at hf;obtain rfl:=bJ.1 hf;have hh:(iL p.oneof f).how=wW none f.form:=by show wW p.oneof f.form=_;rw[h1]
  have hr:oE p f= []:=by unfold oE;simp_all
  unfold eP.isMap eP.isRep;rw[hh,hr]
  rcases h3 with e|e|e|e<;>rw[e]
  ·exact⟨.inl rfl,QH,QH,QH,λ_=>rfl⟩
  ·exact⟨.inr (.inl rfl),QH,QH,QH,λ_=>rfl⟩
  ·exact⟨.inr (.inr (.inl rfl)),QH,QH,QH,λ_=>rfl⟩
  ·exact⟨.inr (.inr (.inr (.inr rfl))),QH,QH,QH,λ_=>rfl⟩
def vF {b:dO}:∀{ps:List fC},∀p∈ps,p.fields.length<=ku ps
 | [],p,h=>by cases h
 |q::ps,p,h=>by
  rw[ku]
  rcases aN.1 h with rfl|h
  ·omega
  ·have:=vF (b:=b) p h;omega
def vG {bs:List dO}(h:jt bs){b:dO}(hb:b∈bs)(he:b.enum=false){p:fC}(hp:p∈b.parts){f:eD}(hf:f∈p.fields)(h4:f.form=4):dH (jm f.key)=3/\ii 3 (jm f.key)=true:=by
 have c:=(h.ok.chk b hb he).flds p hp f hf;have s:=(h.ok.shape b hb p hp).1 f hf;have k3:=c.key h4;have kg:=c.kg h4;obtain⟨x,hx⟩:=bV.1 (s.key.1 h4);rw[k3]at kg;rw[hx]at k3 kg⊢;exact⟨k3,kg⟩
def LO {bs:List dO}(h:jt bs){b:dO}(hb:b∈bs)(he:b.enum=false){p:fC}(hp:p∈b.parts){f:eD}(hf:f∈p.fields):dH f.type.1=3\/(dH f.type.1=1/\eM (fH bs) f.type.1=true):=by
 have c:=(h.ok.chk b hb he).flds p hp f hf;have s:=(h.ok.shape b hb p hp).1 f hf;exact s.kind.imp id (λq=>⟨q,c.ty q⟩)
def Hf {bs:List dO}(h:jt bs){z:List (am×Nat)}(hz:z.map (·.1)=dX bs){b:dO}(hb:b∈bs)(he:b.enum=false){p:fC}(hp:p∈b.parts){f:eD}(hf:f∈p.fields):
  FG (dV bs) (kB z) (nr b) (iL p.oneof f) (qW p f):=by
 obtain⟨f1,f2,f3,f4,f5⟩:=sC (h.ok.shape b hb p hp) hf;have ht:=LO h hb he hp hf;refine⟨rfl,f1,f2,f3,f4,(Mq (h.ones b hb he) (h.ok.shape b hb) hp hf).symm,f5,?_,(ug h.ok hz ht).symm,sB h hz ht,λh4=> ?_⟩
 ·show(oE p f).length<=_;unfold oE;rw[bm];have h1:=bW (λo=>decide (iY o≠iY f)) p.fields;have h2:=vF (b:=b) p hp;have h3:=(h.ok.ok b hb).parts;omega
 ·obtain⟨k3,kg⟩:=vG h hb he hp hf h4;have QQ:=ug h.ok hz (t:=jm f.key) (.inl k3);have hx:iU (kB z) (jm f.key)=mS (jm f.key):=by unfold iU;rw[dB k3]
  show iU (kB z) (jm f.key)=(dV bs).base (jm f.key)/\(dV bs).base (jm f.key)<=14/\(dV bs).msg (jm f.key)=none/\jD ((dV bs).base (jm f.key))=eM iJ (jm f.key);rw[QQ,hx];exact⟨rfl,Eg k3,rD h k3,Bv k3⟩
def Fl {gs:List GF}(hd:(gs.map λg=>g.f.num).Nodup){g:GF}(hg:g∈gs){n:Int}(hn:g.f.num=n):g8 gs n=some g:=by
 induction gs with
 |nil=>cases hg
 |cons x l ih=>
  rw[ch,List.nodup_cons]at hd;rw[g8]
  grind
def Hg {gs:List GF}{n:Int}(h:∀g∈gs,g.f.num≠n):g8 gs n=none:=by
 induction gs with
 |nil=>rfl
 |cons x l ih=>
  rw[g8,dA (h x aT)]
  simp_all
def vH {n:Int}:∀{fs:List eP} {f:eP},dP fs n=some f->f∈fs/\f.num=n
 | [],f,h=>by cases h
 |x::l,f,h=>by
  rw[dP]at h
  split at h
  ·simp_all
  ·obtain⟨h1,h2⟩:=vH h;simp_all
def xV {n:Int}:∀{fs:List eP},dP fs n=none->∀f∈fs,f.num≠n
 | [],_,f,hf=>by cases hf
 |x::l,h,f,hf=>by
  rw[dP]at h
  split at h
  ·cases h
  ·rename_i e
   rcases aN.1 hf with rfl|hf
   ·exact e
   ·exact xV h f hf
def Eh {b:dO}{g:GF}:g∈tm b<->∃p∈b.parts,∃f∈p.fields,g=qW p f:=by
 unfold tm
 grind
def sD {b:dO}{f:eP}:f∈(nr b).fs<->∃p∈b.parts,∃g∈p.fields,f=iL p.oneof g:=by
 show f∈(b.parts.flatMap λp=>p.fields.map (iL p.oneof))<->_
 grind
def Hh (b:dO):(tm b).map (λg=>g.f.num)=(b.parts.flatMap (λp=>p.fields.map (λf=>gA f.num.1))).map (λn:Nat=>(n:Int)):=by
 unfold tm;rw[List.map_flatMap,List.map_flatMap]
 congr 1
 funext p;rw[bC,bC];rfl
def Od {bs:List dO}(h:jt bs){z:List (am×Nat)}(hz:z.map (·.1)=dX bs){b:dO}(hb:b∈bs)(he:b.enum=false){gs:List GF}(hg:OQ b gs):kc (dV bs) (kB z) (nr b) gs:=by
 have QR:(gs.map λg=>g.f.num).Nodup:=by
  rw[(hg.1.map _).nodup_iff,Hh];exact List.Pairwise.map _ (λa b QS e=>QS QD) (h.ok.chk b hb he).nums
 refine⟨hg.2,?_,λn hn=>Hg λg QT e=> ?_,λn f hf=> ?_⟩
 ·rw[hg.1.length_eq];have h1:=qZ b.parts;have h2:=(h.ok.ok b hb).parts;have h3:(tm b).length<=ku b.parts:=h1;omega
 ·obtain⟨p,hp,f,hf,rfl⟩:=Eh.1 (hg.1.mem_iff.1 QT);exact xV hn (iL p.oneof f) (sD.2 ⟨p,hp,f,hf,rfl⟩) e
 ·obtain⟨hm,hn⟩:=vH hf;obtain⟨p,hp,f0,QP,rfl⟩:=sD.1 hm;exact⟨qW p f0,Fl QR (hg.1.mem_iff.2 (Eh.2 ⟨p,hp,f0,QP,rfl⟩)) hn,Hf h hz hb he hp QP⟩
section
variable {w:an} {s b:am} {deep num:Int} {z k:Nat} {r:om} {S:d8} {mp:am->Option Nat} {d:MT} {f:eP} {g:GF} {m:PM}
attribute [local go_sem↓] Go.wp_at_zero Go.wp_at_succ
theorem Ei (w:an)(P:ap)(mp:am->Option Nat)(g:GF)(fb:Nat)(h:eG w P mp g fb)(hf:g.form=4):
  Calls prog 188 #[ag fb] w λe w'=>∃pv,e= .returned (.agg #[aa (iU mp g.f.key),pv])/\aj w w':=by
 obtain⟨pv,rv,h1,_,_,h4⟩:=h.blk;rw[dB hf]at h4;obtain⟨eb,rfl,hE⟩:=h4;obtain⟨B0,K0⟩:=dR w #[aa 0,.pointer none] 216;have QS:=h1.alloc (ak #[aa 0,.pointer none] 216);obtain⟨k1,k2⟩:=QS.rules;have HF:=pJ (w.alloc (ak #[aa 0,.pointer none] 216)) P mp eb eS _ 1 (hE.msg.keep (λb _ hl=>B0.block b hl)) (sk g.f.key g.f.ty) QE;rw[Bh]at HF;unfold gC at k1;go_enter func188,ntmps188;go_wp2_with fail;refine HF.mono ?_;rintro e w2 ⟨⟨vb,rfl,hV⟩,rfl⟩;obtain⟨QU,rv2,h5,_,_,h6⟩:=hV.blk;have QR:ee mp (kz mQ g.f.key 1)=iU mp g.f.key:=by unfold ee;rw[dA (by simp[kz])];rfl
 rw[QR]at h5;rw[dA (by simp[kz])]at h6
 obtain⟨q,hq⟩:∃q,QU= .pointer q:=by
  subst h6;unfold gC
  split<;>exact⟨_,rfl⟩
 subst hq;obtain⟨k3,k4⟩:=h5.rules;obtain⟨k5,k6⟩:=K0.rules;clear k1 k2 h6;go_wp2;refine dE (dZ results188 _ _ rfl (dK.new w _ _) underlying216 QI) rfl ?_;exact⟨_,rfl,(Below.refl _ _).alloc (ay _) _⟩
theorem oL.part {α:Type}{rb:Nat}{r:Fx (α×Nat)}{V:α->Value}{e:Ending}{w':an}(h:oL w rb s deep r V e w'):
  (∃x,r= .error x/\e=dI x.1 x.2/\dS [rb] w w')\/∃x,r= .ok x/\e= .returned (V x.1)/\dS [rb] w w'/\dU w' rb s x.2 deep:=by
 obtain⟨h1,h2⟩:=h
 cases r with
 |error x=>exact .inl ⟨x,rfl,h2,h1⟩
 |ok x=>exact .inr ⟨x,rfl,h2.1,h1,h2.2⟩
theorem oY {a:Nat}{kind:Int}(h:fh s a num kind z= .ok r):z<r.e/\r.fr<=r.e/\r.e<=s.size/\0<=r.n/\r.n<18446744073709551616/\z<=r.fr:=by
 have QP:∀(k:Nat) (y:Int×Nat),k<=8->1<=k->gD s z k= .ok y->z<y.2/\y.2<=s.size/\0<=y.1/\y.1<18446744073709551616:=λk y h1 h2 q=>by
  unfold gD at q
  split at q
  ·cases q
   have:=sr (s:=s.extract z (z+k)) (by rw[aS];omega);exact⟨QF,by simpa,this.1,this.2⟩
  ·cases q
 unfold fh at h
 split at h
 ·cases hv:gy s z s.size with
  |error x=>rw[hv]at h;cases h
  |ok x=>
   rw[hv]at h
   cases h
   obtain⟨v0,v1,v2,v3⟩:=gM (m:=x.1) (z:=x.2) hv;exact⟨v2,QF,v3,v0,v1,ay _⟩
 ·split at h
  ·cases hv:gD s z 8 with
   |error x=>rw[hv]at h;cases h
   |ok x=>
    rw[hv]at h
    cases h
    obtain⟨v0,v1,v2,v3⟩:=QP 8 x QD QD hv;exact⟨v0,QF,v1,v2,v3,ay _⟩
  ·split at h
   ·cases hv:gD s z 4 with
    |error x=>rw[hv]at h;cases h
    |ok x=>
     rw[hv]at h
     cases h
     obtain⟨v0,v1,v2,v3⟩:=QP 4 x QD QD hv;exact⟨v0,QF,v1,v2,v3,ay _⟩
   ·cases hv:eJ s z with
    |error x=>rw[hv]at h;cases h
    |ok x=>
     rw[hv]at h
     cases h
     obtain⟨v0,v1,v2⟩:=it (z:=x.1) (e:=x.2) hv;exact⟨QF,v1,v2,QE,QE,QF⟩
theorem mh {a:Nat}(hk:k=0\/k=1\/k=2\/k=5)(h:fh s a num k z= .ok r):r.kind=k:=by
 rcases hk with rfl|rfl|rfl|rfl
 ·rw[CX]at h;cases hv:gy s z s.size<;>rw[hv]at h<;>cases h;rfl
 ·rw[CY]at h;cases hv:gD s z 8<;>rw[hv]at h<;>cases h;rfl
 ·rw[sw]at h;cases hv:eJ s z<;>rw[hv]at h<;>cases h;rfl
 ·rw[CZ]at h;cases hv:gD s z 4<;>rw[hv]at h<;>cases h;rfl
theorem BA (k:Nat):ei k=0\/ei k=1\/ei k=2\/ei k=5:=by
 unfold ei
 split
 ·exact .inl rfl
 ·split
  ·exact .inr (.inl rfl)
  ·split
   ·exact .inr (.inr (.inr rfl))
   ·split
    ·exact .inl rfl
    ·exact .inr (.inr (.inl rfl))
theorem BC {x:LV×Nat}(hk:k<=15)(h:fY s z k= .ok x):z<x.2/\x.2<=s.size/\0<=x.1.1/\x.1.1<18446744073709551616:=by
 rw[vu s 0 0 z k hk]at h
 cases hr:fh s 0 0 (ei k) z with
 |error y=>rw[hr]at h;cases h
 |ok r=>
  rw[hr]at h;obtain⟨h1,_,h3,h4,h5,_⟩:=oY hr;simp only[Bl]at h
  cases hv:xf s k r with
  |error y=>rw[hv]at h;cases h
  |ok v=>
   rw[hv]at h
   cases h
   refine⟨h1,h3,?_⟩;unfold xf at hv
   split at hv
   ·split at hv
    ·cases hv;simp
    ·cases hv
   ·split at hv
    ·cases hv;simp
    ·cases hv;exact iu h4 h5
theorem Ej {F deep a e:Nat}(fg:FG S mp d f g)(hf:g.form=2)(hb:S.base f.ty<=15)(he:e<=b.size):
  jx S b F d f m deep (fh (b.extract 0 e) a num (ei (S.base f.ty)) z)=match fY (b.extract 0 e) z (S.base f.ty)with| .error x=> .error x| .ok x=> .ok (m.put f.num (m.get f.num++ [oU x.1]),x.2):=by
 rw[vu (b.extract 0 e) a num z _ hb]
 cases hr:fh (b.extract 0 e) a num (ei (S.base f.ty)) z with
 |error x=>rfl
 |ok r=>
  have hk:=mh (BA _) hr;obtain⟨_,_,h3,_⟩:=oY hr;rw[fX he]at h3;have hm:f.isMap=false:=by rw[fg.map,hf];rfl
  have QT:f.isRep=true:=by rw[fg.rep,hf];rfl
  have hs:eR S f=none:=by
   unfold eR;rw[hm]
   cases hq:S.msg f.ty with
   |none=>rfl
   |some x=>have:=fg.nest.2 (by rw[hq];rfl);omega
  simp only[jx,xg,Bl];rw[dB (by unfold fA;rw[hm];exact hk)];unfold oS mW;rw[hs];simp only;rw[Bn rfl hb hk h3 he]
  cases xf (b.extract 0 e) (S.base f.ty) r with
  |error x=>rfl
  |ok v=>
   simp only[Ec,nC,gB,hm,QT,if_true,aL,if_false];rfl
theorem BD {F deep a e:Nat}(fg:FG S mp d f g)(hf:g.form=2)(hw:ei (S.base f.ty)≠2):
  jx S b F d f m deep (fh (b.extract 0 e) a num 2 z)=match eJ (b.extract 0 e) z with| .error x=> .error x| .ok y=>(match fy b (S.base f.ty) y.2 (y.2-y.1) (m.get f.num) y.1 with| .error x=> .error x| .ok l=> .ok (m.put f.num l,y.2)):=by
 have e2:fh (b.extract 0 e) a num 2 z=_:=sw (b.extract 0 e) a num z;rw[e2];have hm:f.isMap=false:=by rw[fg.map,hf];rfl
 cases eJ (b.extract 0 e) z with
 |error x=>rfl
 |ok y=>
  simp only[jx,xg];rw[dA (by unfold fA;rw[hm];exact λq=>hw q.symm)];unfold lA
  cases fy b (S.base f.ty) y.2 (y.2-y.1) (m.get f.num) y.1<;>rfl
def Jp (m:PM):Prop:=m.fs.Pairwise (λa b=>a.1<b.1)
theorem xW {n:Int}:∀{fs:List PF},fs.Pairwise (λa b=>a.1<b.1)->∃fp fq,(∀x∈fp,x.1<n)/\(∀x∈fq,n<x.1)/\(fs=fp++fq\/∃old,fs=fp++(n,old)::fq)
 | [],_=>⟨[],[],QE,QE,.inl rfl⟩
 |x::l,h=>by
  rw[ba]at h
  by_cases h1:x.1<n
  ·obtain⟨fp,fq,q1,q2,q3⟩:=xW (n:=n) h.2;refine⟨x::fp,fq,λy hy=>(aN.1 hy).elim (λe=>by rw[e];exact h1) (q1 y),q2,q3.imp (λe=>by rw[e];rfl) (λ⟨o,e⟩=>⟨o,by rw[e];rfl⟩)⟩
  ·by_cases h2:x.1=n
   ·exact⟨[],l,QE,λy hy=>by have:=h.1 y hy;omega,.inr ⟨x.2,by rw[<-h2];rfl⟩⟩
   ·exact⟨[],x::l,QE,λy hy=>(aN.1 hy).elim (λe=>by rw[e];omega) (λq=>by have:=h.1 y q;omega),.inl rfl⟩
theorem rE (h:Jp m)(n:Int):∃fp fq,(∀x∈fp,x.1<n)/\(∀x∈fq,n<x.1)/\(∀vs,m.put n vs= .mk (fp++((if vs.isEmpty then []else [(n,vs)])++fq)) m.unk)/\(m.fs=fp++fq\/∃old,m.fs=fp++(n,old)::fq):=by
 obtain⟨fp,fq,q1,q2,q3⟩:=xW (n:=n) h
 have QQ:∀x∈fp++fq,x.1≠n:=λx hx=>by
  rcases aV.1 hx with hx|hx
  ·have:=q1 x hx;omega
  ·have:=q2 x hx;omega
 refine⟨fp,fq,q1,q2,λvs=> ?_,q3⟩;unfold PM.put
 cases hv:vs.isEmpty with
 |true=>
  rw[lL];simp only[if_true,aR]
  rcases q3 with e|⟨old,e⟩
  ·rw[e,lM n _ QQ]
  ·rw[e,cI,b9,dA QE,<-cI,lM n _ QQ]
 |false=>
  simp only[aL,if_false]
  rcases q3 with e|⟨old,e⟩
  ·rw[e,rx n vs fq q2 fp q1];rfl
  ·rw[e,ut n vs old fq q2 fp q1];rfl
theorem Ek (h:Jp m)(n:Int)(vs us:List PV):(m.put n vs).put n us=m.put n us:=by
 obtain⟨fp,fq,q1,q2,q3,_⟩:=rE h n;rw[q3 vs,q3 us];unfold PM.put;simp only[PM.fs,PM.unk]
 have QQ:∀x∈fp++fq,x.1≠n:=λx hx=>by
  rcases aV.1 hx with hx|hx
  ·have:=q1 x hx;omega
  ·have:=q2 x hx;omega
 cases us.isEmpty with
 |true=>
  rw[lL]
  cases vs.isEmpty with
  |true=>simp only[if_true,aR];rw[lM n _ QQ]
  |false=>
   simp only[aL,if_false,if_true,aR,bi];rw[cI,b9,dA QE,<-cI,lM n _ QQ]
 |false=>
  cases vs.isEmpty with
  |true=>simp only[aL,if_false,if_true,aR,bi];rw[rx n us fq q2 fp q1]
  |false=>simp only[aL,if_false,aR,bi];rw[ut n us vs fq q2 fp q1]
theorem BE (h:Jp m)(n:Int)(vs:List PV):(m.put n vs).get n=vs:=by
 obtain⟨fp,fq,q1,q2,q3,_⟩:=rE h n;rw[q3 vs];unfold PM.get;simp only[PM.fs]
 cases hv:vs.isEmpty with
 |true=>
  simp only[if_true,aR]
  rw[mJ n _ λx hx=>by
   rcases aV.1 hx with hx|hx
   ·have:=q1 x hx;omega
   ·have:=q2 x hx;omega]
  exact(List.isEmpty_iff.1 hv).symm
 |false=>
  simp only[aL,if_false,bi,aR];exact pN n vs fq fp q1
theorem El (h:Jp m)(hf:∀f∈m.fs,f.2≠ [])(n:Int):m.put n (m.get n)=m:=by
 obtain⟨fp,fq,q1,q2,q3,q4⟩:=rE h n;have hm:m= .mk m.fs m.unk:=by cases m;rfl
 rcases q4 with e|⟨old,e⟩
 ·have hg:m.get n= []:=by
   unfold PM.get;rw[e]
   exact mJ n _ λx hx=>by
    rcases aV.1 hx with hx|hx
    ·have:=q1 x hx;omega
    ·have:=q2 x hx;omega
  rw[hg,q3]
  conv=>rhs;rw[hm,e]
  rfl
 ·have hg:m.get n=old:=by
   unfold PM.get;rw[e];exact pN n old fq fp q1
  have:=hf (n,old) (by rw[e];simp);rw[hg,q3]
  conv=>rhs;rw[hm,e]
  cases old with
  |nil=>exact absurd rfl this
  |cons _ _=>rfl
theorem ed.srt {T:Option MT}{Z:ap}{db:Nat}(h:ed S (k+1) T w Z db m):Jp m/\∀f∈m.fs,f.2≠ []:=by
 obtain⟨sv,uv,l,Y,hy,hs⟩:=h;refine⟨?_,hs.filled⟩;have h1:=hy.c.srt;have h2:=hs.nums;unfold Jp;have h3:(l.map (·.1)).Pairwise (·< ·):=bY.2 h1;rw[<-h2]at h3;exact bY.1 h3
end
section
attribute [local go_sem↓] Go.wp_at_zero Go.wp_at_succ
def vI (S:d8)(k:Nat)(T:Option MT)(w:an)(Z:ap)(db:Nat)(m:PM)(n:Int)(v:LV)(h:ed S (k+1) T w Z db m)(hok:ny S T n .vals)(hkd:(∀kd,ny S T n kd->kd= .vals)\/∀f∈m.fs,f.1≠n)(hl:m.fs.length<1073741824)(hvl:(m.get n).length<1073741824):
  Calls prog 268 #[ag db,aa n,tO v] w (jA S k T w Z db (m.put n (m.get n++ [oU v]))):=by
 obtain⟨i0,Q1,Q2,Q3,Q4⟩:=info_parts Tryz.infoV;obtain⟨sv,uv,l,Y,hy,hs⟩:=h;obtain⟨B0,KB⟩:=dR w #[.int .u64 v.1,ae v.2,ah,ae ⟨#[]⟩] 55;have hdl:=hy.c.blk.lt;have Q7:=hy.c.row.lt;have QU:=hy.keep (λb _ hb=>B0.block b hb);have QY:=lZ hs (λb _ hb=>B0.block b hb);have hS:=sy _ db sv uv l n QU.c (by rw[hs.len];exact hl);have hAl:∀b,Y b->b<w.heap.size:=hy.yl;clear hs hy;unfold tO;go_enter func268,ntmps268;go_wp2_with fail;generalize w.alloc (ak #[.int .u64 v.1,ae v.2,ah,ae ⟨#[]⟩] 55)=w0 at*;refine hS.mono ?_;rintro e w1 hR;obtain⟨g,c,pre,x,post,A,B,fp,fq,rfl,O,st,hAY,K⟩:=oV QU QY hR;clear hR QU QY hS
 have QZ:=KB.kept K (by
  simp only[aN,cL,not_or]
  exact⟨QD,λe=>by have:=(Q7 _ e).2;omega⟩)
 obtain⟨k1,k2⟩:=QZ.rules;obtain⟨⟨x2,x3⟩,hx⟩:=O.ofVals hkd;obtain⟨c0,c1,c2,c3,cf⟩:=O.cells rfl;have Q0:=(O.y.c.row.lt g rfl).2;have hgn:w.heap.size<w1.heap.size:=QZ.lt
 have QQ:∀(w' w9:an) (src:Option Nat),aj w1 w'->w'.grownBy w9 src->(∀b,src=some b->A b)->w9.heap[g]?=w1.heap[g]?:=λw' w9 src hB hg hs=>
  (hg.block g (aC Q0 hB.size) (λe=>O.y.ys g rfl (.inl (hs g e.symm)))).trans (hB.block g Q0)
 have HC:Hid (∀(w' w9:an) (src:Option Nat),aj w1 w'->w'.grownBy w9 src->(∀b,src=some b->A b)->w9.heap[g]?=w1.heap[g]?):=QQ;clear QQ
 have HF:Hid (∀(w' w9:an) (src:Option Nat) (gg cap N:Nat) (cs:aq) (lv:List LV),aj w1 w'->w'.grownBy w9 src->(∀b,src=some b->A b)->w9.ownsRow 0 55 4 (.slice (some (ai gg 0)) N cap) N cs->N=lv.length+1->cs=lv.flatMap lI++lI v->m.get n=lv.map oU->(src=some gg\/gg=w1.heap.size+1)->
   jA S k T w Z db (m.put n (m.get n++ [oU v])) (.returned (.tuple #[])) (w9.setCell (ai g (pre.length*4+1)) (.slice (some (ai gg 0)) N cap))):=by
  intro w' w9 src gg cap N cs lv hB hg hs QV hN Ra Rb Rc;obtain⟨Z',h1,h2⟩:=O.vals (lv:=lv++ [v]) hs QE hB hg QV (by rw[hN];simp) (by rw[Ra];simp) (Rc.imp id (λe=>QD)) hok x2 x3;rw[Rb];refine⟨rfl,Z',?_,by simpa using h2⟩;have s0:fi w Z w0 Z:=(fi.refl w Z).below B0;exact(s0.trans st).trans h1
 rcases hx with⟨x1,Q5⟩|⟨gv,cc,lv,hne,x1,Q6,QW,QT⟩
 ·rw[x1]at c1;have BB:aj w1 (w1.drew.alloc (ak #[.int .u64 v.1,ae v.2,ah,ae ⟨#[]⟩] 55)):=((Below.refl _ _).drew).alloc (ay _) _;have Q8:Hid (m.get n= []):=Q5;clear c0 c2 c3 x1 Q5;go_upto_region 2 with fail
  go_region_law (first|(refine step_append_lies _ QJ _ _ _ QJ 0 55 i0 _ 4 64 underlying56 Q1 Q2 Q3 Q4 rfl QD (ah) 0 [] QJ (bf _ _ _ _) (ai w1.heap.size 0) 1 1 [_,_,_,_] QJ QJ (br (t:=55) (fr:=(0,0)) (heap_alloc_new w1.drew _)) QL QD QK QD QD (w1.heap.size+1) QE ?_;intro gg cap w9 QR QP QS QX;obtain⟨z0,z1,z2,z3,zf⟩:=O.cells (HC.out _ w9 _ BB QP (λb e=>by cases e))))
  all_goals
   go_end0;exact HF.out _ w9 _ gg cap _ _ [] BB QP (λb e=>by cases e) QR rfl rfl Q8.out QS
 ·rw[x1]at c1;have BB:aj w1 (w1.drew.alloc (ak #[.int .u64 v.1,ae v.2,ah,ae ⟨#[]⟩] 55)):=((Below.refl _ _).drew).alloc (ay _) _;have hgvl:=(QT.lt gv rfl).2;have hll:lv.length<1073741824:=by rw[QW]at hvl;simpa using hvl
  have Q9:Hid (m.get n=lv.map oU):=QW;clear c0 c2 c3 x1 QW hvl;go_upto_region 2 with fail
  go_region_law (first|(refine step_append_lies _ QJ _ _ _ QJ 0 55 i0 _ 4 64 underlying56 Q1 Q2 Q3 Q4 rfl QD (.slice (some (ai gv 0)) lv.length cc) lv.length (lv.flatMap lI) QJ (QT.drew.alloc _) (ai w1.heap.size 0) 1 1 [_,_,_,_] QJ QJ (br (t:=55) (fr:=(0,0)) (heap_alloc_new w1.drew _)) QL QD QK QD QD (w1.heap.size+1) QE ?_;intro gg cap w9 QR QP QS QX;obtain⟨z0,z1,z2,z3,zf⟩:=O.cells (HC.out _ w9 _ BB QP (λb e=>by cases e;exact Q6))))
  all_goals
   go_end0;exact HF.out _ w9 _ gg cap _ _ lv BB QP (λb e=>by cases e;exact Q6) QR rfl rfl Q9.out QS
end
section
variable {S:d8} {d:MT} {f:eP} {mp:am->Option Nat} {g:GF} {w:an}
attribute [local go_sem↓] Go.wp_at_zero Go.wp_at_succ
structure nD (w:an)(B:Nat)(S:d8)(mp:am->Option Nat)(k:Nat)(d:MT)(Z:ap)(rb db:Nat)(b:am)(e a z deep:Nat)(m:PM):Prop where
 cx:rC w B S mp
 hr:dU w rb (b.extract 0 e) z deep
 hd:ed S (k+1) (some d) w Z db m
 hZ:∀x,Z x->B<=x/\x<w.heap.size
 rB:B<=rb
 rZ:¬Z rb
 az:a<z
 ze:z<=e
 eb:e<=b.size
 bs:b.size<=268435456
 wm:WM S a d m
theorem nE (hf:dP d.fs f.num=some f)(hk:oq S f= .vals):ny S (some d) f.num .vals/\∀kd,ny S (some d) f.num kd->kd= .vals:=
 ⟨λd' f' e1 e2=>by cases e1;rw[hf]at e2;cases e2;exact hk.symm,λkd q=>by rw[q d f rfl hf,hk]⟩
theorem kF (fg:FG S mp d f g)(h4:g.form≠4)(hb:S.base f.ty<=15):oq S f= .vals/\eR S f=none/\f.isMap=false:=by
 have hm:f.isMap=false:=by rw[fg.map];simp[h4]
 have hs:eR S f=none:=by
  unfold eR;rw[hm]
  cases hq:S.msg f.ty with
  |none=>rfl
  |some x=>have:=fg.nest.2 (by rw[hq];rfl);omega
 exact⟨by unfold oq;rw[hm,hs];rfl,hs,hm⟩
theorem el.dr {k:Nat}{T:Option MT}{w':an}{Z:ap}{rb db:Nat}{m:PM}(h:ed S k T w Z db m)(hk:dS [rb] w w')(hr:¬Z rb):ed S k T w' Z db m:=
 h.keep λb q hl=>hk.block b hl (by simp;exact λe=>hr (e▸q))
def Hi (m:PM)(n:Int):Fx (LV×Nat)->Fx (PM×Nat)
 | .error x=> .error x
 | .ok x=> .ok (m.put n (m.get n++ [oU x.1]),x.2)
theorem gi {P:ap}{pv:Value}(h:if g.form=4 then∃eb,pv=gC (some eb)/\lB w P mp g.f.key g.f.ty eb else pv=gC (wX mp g.f.ty)):∃q,pv= .pointer q:=by
 split at h
 ·obtain⟨eb,rfl,_⟩:=h;exact⟨_,rfl⟩
 ·subst h;unfold gC
  split<;>exact⟨_,rfl⟩
theorem Df (w:an)(B:Nat)(S:d8)(mp:am->Option Nat)(k:Nat)(d:MT)(f:eP)(g:GF)(fb:Nat)(Z:ap)(rb db:Nat)(b:am)(e a z deep F:Nat)(num:Int)(m:PM)
  (I:nD w B S mp k d Z rb db b e a z deep m) (hfa:eG w (λb=>b<B) mp g fb) (fg:FG S mp d f g) (hf:g.form=2) (hb:S.base f.ty<=15) (hff:dP d.fs f.num=some f):
  Calls prog 192 #[ag fb,aa (ei (S.base f.ty)),ag rb,ag db] w (gR S k d w Z rb db (b.extract 0 e) deep (jx S b F d f m deep (fh (b.extract 0 e) a num (ei (S.base f.ty)) z))):=by
 have QS:jx S b F d f m deep (fh (b.extract 0 e) a num (ei (S.base f.ty)) z)=Hi m f.num (fY (b.extract 0 e) z (S.base f.ty)):=by
  rw[Ej fg hf hb I.eb]
  cases fY (b.extract 0 e) z (S.base f.ty)<;>rfl
 rw[QS];clear QS;obtain⟨pv,rv,h1,hfB,_,QU⟩:=hfa.blk;have QV:ee mp g=S.base f.ty:=by unfold ee;rw[dA QD,fg.eq,fg.base]
 rw[QV,fg.eq]at h1;obtain⟨Q1,_,_⟩:=kF fg QD hb;obtain⟨ok1,ok2⟩:=nE hff Q1;have hes:(b.extract 0 e).size=e:=fX I.eb;have hl:=I.wm.len;have hab:=I.az;have hze:=I.ze;have heb:=I.eb;have hbs:=I.bs;have QW:rb<w.heap.size:=dK.lt I.hr;have hW:=oM w (S.base f.ty) pv QD
 have hV:∀w1,dU w1 rb (b.extract 0 e) z deep->UOK w1->Calls prog 194 #[.agg #[aa (S.base f.ty),pv],ag rb] w1 (oL w1 rb (b.extract 0 e) deep (fY (b.extract 0 e) z (S.base f.ty)) tO):=
  λw1 h1 h2=>oO w1 rb _ z deep _ pv h1 QD QD hb h2 (by have:=I.cx.u1;have:=I.rB;omega) (by have:=I.cx.u2;have:=I.rB;omega)
 obtain⟨R,hR⟩:∃R,fY (b.extract 0 e) z (S.base f.ty)=R:=⟨_,rfl⟩;rw[hR]at hV⊢;have HR:Hid (fY (b.extract 0 e) z (S.base f.ty)=R):=hR;clear hR;obtain⟨k1,k2⟩:=h1.rules;obtain⟨pq,rfl⟩:=gi QU;clear QU;go_enter func192,ntmps192;go_wp2_with fail;refine hW.mono ?_;rintro en w2 ⟨rfl,B2⟩;have h2:=h1.below B2 h1.lt;have QX:dU w2 rb (b.extract 0 e) z deep:=dK.below I.hr B2 QW;have QY:UOK w2:=(I.cx.on (B2.mono I.cx.le)).u;have QZ:=I.hd.keep (λx _ q=>B2.block x q);obtain⟨k3,k4⟩:=h2.rules;clear k1 k2 hW;have Q0:dK w2.drew fb #[aa f.num,aa g.form,aa (S.base f.ty),.pointer pq,rv] 220:=h2;have hfl:fb<w2.heap.size:=h2.lt;have QQ:ed S (k+1) (some d) w2.drew Z db m:=QZ.keep (λ_ _ _=>rfl);have hrb:=I.rB;have QT:=I.rZ
 have hA:∀w3:an,∀v:LV,ed S (k+1) (some d) w3 Z db m->Calls prog 268 #[ag db,aa f.num,tO v] w3 (jA S k (some d) w3 Z db (m.put f.num (m.get f.num++ [oU v]))):=
  λw3 v Q2=>vI S k (some d) w3 Z db m f.num v Q2 ok1 (.inl ok2) QD (by have:=hl.2.2 f.num;omega)
 go_upto_region 1 with fail
 go_region_with
  (first
   |(
     go_at_call 194;refine(hV w2.drew QX QY).mono ?_;intro en w3 hq
     rcases hq.part with⟨x,rfl,rfl,QP⟩|⟨x,rfl,rfl,QP,Q3⟩
     ·unfold dI;go_wp2;exact⟨rfl,rfl,Z,(el.of_below B2.drew).trans (.of_kept QP)⟩
     have h3:=Q0.kept QP QF
     obtain⟨k5,k6⟩:=h3.rules)
   |(
     go_at_call 268;refine(hA w3 x.1 (el.dr QQ QP QT)).mono ?_;rintro en w4 ⟨rfl,Z4,QR,Q4⟩;have h4:=h3.step QR (λq=>by have:=(I.hZ fb q).1;omega)
     obtain⟨k7,k8⟩:=h4.rules))
 all_goals
  go_wp2;go_end0;refine⟨rfl,Z4,((el.of_below B2.drew).trans (.of_kept QP)).trans (.of_step QR),Q4,?_⟩;exact dK.step Q3 QR QT
end
end Go.Proofs.YtfebdimolnobaaaGreatDoor
