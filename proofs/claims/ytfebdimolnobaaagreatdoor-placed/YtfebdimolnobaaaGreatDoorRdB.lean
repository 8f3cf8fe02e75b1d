import Derived.Test.YtfebdimolnobaaaGreatDoorAl
set_option maxRecDepth 100000
set_option maxHeartbeats 8000000
set_option linter.all false
namespace Go.Proofs.YtfebdimolnobaaaGreatDoor
open Go.RowKit
section
theorem eK {w:an}{b:Nat}(h:b<w.heap.size):(∀o off,(w.alloc o).cell? (ai b off)=w.cell? (ai b off))/\(∀o off,(w.alloc o).frozen? (ai b off)=w.frozen? (ai b off))/\¬b=w.heap.size/\¬w.heap.size=b:=
 ⟨fun o off=>co w o (ai b off) h,fun o off=>World.frozen?_of_block (Below.heap_alloc w o b h),by omega,by omega⟩
theorem nT {n:Nat}{w w1:an}{b:Nat}(hb:Below n w w1)(h:b<n):(∀off,w1.cell? (ai b off)=w.cell? (ai b off))/\(∀off,w1.frozen? (ai b off)=w.frozen? (ai b off)):=
 ⟨fun off=>hb.cell (p:=(ai b off)) h,fun off=>hb.frozen (p:=(ai b off)) h⟩
theorem Rd.below {w w':an}{n rb wb i:Nat}{ws:List W}(R:Rd w rb wb ws i)(h:Below n w w')(hr:rb<n)(hw:wb<n):Rd w' rb wb ws i:=
 (gm.of_below R.next h).rd R hr hw R.lt
theorem Rd.alloc {w:an}{rb wb i:Nat}{ws:List W}(R:Rd w rb wb ws i)(o:Obj):Rd (w.alloc o) rb wb ws i:=
 R.below ((Below.refl w.heap.size w).alloc (ay _) o) R.blocks.1 R.blocks.2
theorem gm.alloc {w w':an}{n rb j:Nat}(h:gm n rb w w' j)(hn:n<=w.heap.size)(o:Obj):gm n rb w (w'.alloc o) j:=
 Below.alloc h (aG hn h.size) o
theorem gm.setCell {w w':an}{n rb j:Nat}(h:gm n rb w w' j){a:Addr}(ha:n<=a.block)(u:Value):gm n rb w (w'.setCell a u) j:=Below.setCell h ha u
theorem gm.drew {w w':an}{n rb j:Nat}(h:gm n rb w w' j):gm n rb w w'.drew j:=Below.drew h
theorem gm.grown {w w1 w':an}{n rb j:Nat}{row:Option Nat}(h:gm n rb w w1 j)(hg:w1.grownBy w' row)(hn:n<=w.heap.size)(hr:∀k,row=some k->n<=k):gm n rb w w' j:=
 Below.grown h hg (aG hn h.size) hr
theorem gm.below {w w1 w':an}{n m rb j:Nat}(h:gm n rb w w1 j)(hb:Below m w1 w')(hnm:n<=m):gm n rb w w' j:=Below.trans h (hb.mono hnm)
theorem gm.step {w w':an}{n rb i:Nat}(h:gm n rb w w' i)(j:Nat):gm n rb w (w'.setCell (ai rb 1) (aa j)) j:=
 h.trans (Below.refl n (yh w' rb j)) (ay _)
theorem Lm (w:an)(rb wb:Nat)(ws:List W)(i:Nat)(x:W)(R:Rd w rb wb ws i)(hx:ws[i]?=some x)(hs:0<x.1.size):
  Calls Tryz.prog 337 #[ag rb] w fun e w'=>e= .returned (.agg #[aa (cZ x.1),ae x.1,aa x.2])/\Rd w' rb wb ws (i+1)/\gm w.heap.size rb w w' (i+1):=by
 have hlt:=R.lt;have hfew:=R.few;obtain⟨N7,N8⟩:=R.blocks;go_enter Tryz.func337,Tryz.ntmps337
 go_wp2_with fail
 refine(BJ _ rb wb ws i x (R.alloc _) hx).mono ?_;rintro e w1 ⟨rfl,N2⟩;have hz:w.heap.size<w1.heap.size:=by have:=N2.size;simp at this;omega
 have R1:=(R.alloc _).below N2 (by simp;omega) (by simp;omega);obtain⟨p1,p2,p3,p4⟩:=eK (w:=w1) (b:=rb) (by omega);obtain⟨s1,s2,s3,s4⟩:=eK (w:=w1) (b:=w.heap.size) hz;obtain⟨t1,t2⟩:=nT N2 (b:=w.heap.size) (by simp);have n1:=R1.next;have n2:=R1.free;have n3:¬rb=w.heap.size:=by omega
 have n4:¬w.heap.size=rb:=by omega
 go_wp2_with fail
 have A1:gm w.heap.size rb w w1 i:=gm.of_below R.next (((Below.refl w.heap.size w).alloc (ay _) _).trans (N2.mono (by simp)));have A2:=(((((A1.alloc (ay _) (ak #[Value.int IntKind.i64 (cZ x.fst),Value.string x.fst,Value.int IntKind.i64 x.snd] 148)).step (i+1)).setCell (a:=(ai w.heap.size 0)) (ay _) (Value.int IntKind.i64 (cZ x.fst))).setCell (a:=(ai w.heap.size 1)) (ay _) (Value.string x.fst)).setCell (a:=(ai w.heap.size 2)) (ay _) (Value.int IntKind.i64 x.snd));refine bodyPost_ret (v:= .agg #[aa (cZ x.1),ae x.1,aa x.2]) ?_ rfl ⟨rfl,?_,A2⟩
 ·simp[results,Tryz.results337,go_sem, *]
 ·exact A2.rd R N7 N8 (R.ends i x hx hs)
theorem ia (a b c:Value)(w:an):(Instr.field 148 (.agg #[a,b,c]) 0).run Tryz.prog w= .ok a w:=by kernel_rfl
theorem ic (a b c:Value)(w:an):(Instr.field 148 (.agg #[a,b,c]) 1).run Tryz.prog w= .ok b w:=by kernel_rfl
theorem ie (a b c:Value)(w:an):(Instr.field 148 (.agg #[a,b,c]) 2).run Tryz.prog w= .ok c w:=by kernel_rfl
attribute [local go_sem] ia ic ie
def da (e p:Int):Ending:= .panicked [{v:= .iface 142 (.agg #[aa e,aa p]),recovered:=false}]
theorem Nk (w:an)(rb wb:Nat)(ws:List W)(i:Nat)(x:W)(R:Rd w rb wb ws i)(hx:ws[i]?=some x):
  Calls Tryz.prog 336 #[ag rb] w fun e w'=>e=da 2 x.2/\aj w w':=by
 go_enter Tryz.func336,Tryz.ntmps336
 go_wp2_with fail
 refine(BJ _ rb wb ws i x R hx).mono ?_;rintro e w1 ⟨rfl,N2⟩;go_wp2_with fail
 refine(Ed _ _ _).mono ?_;rintro e w2 ⟨rfl,rfl⟩;go_wp2;exact⟨rfl,rfl,N2⟩
theorem GU (w:an)(rb wb:Nat)(ws:List W)(i:Nat)(x:W)(s:am)(R:Rd w rb wb ws i)(hx:ws[i]?=some x):
  Calls Tryz.prog 175 #[ag rb,ae s] w fun e w'=>e= .returned (.bool (x.1.toList==s.toList))/\aj w w':=by
 go_enter Tryz.func175,Tryz.ntmps175
 go_wp2_with fail
 refine(BJ _ rb wb ws i x R hx).mono ?_;rintro e w1 ⟨rfl,N2⟩;go_wp2;go_ret;exact⟨rfl,N2⟩
theorem pD {s:am}(h:cZ s≠4):0<s.size:=by
 unfold cZ at h
 by_cases h0:s.size=0
 ·rw[if_pos h0]at h;exact absurd rfl h
 ·omega
theorem mj {s:am}{l:List UInt8}(h:(s.toList==l)=true)(hl:0<l.length):0<s.size:=by
 have h1:s.toList=l:=by simpa using h
 have h2:s.toList.length=s.size:=by rw[ByteArray.toList_eq];rfl
 rw[h1]at h2;omega
theorem Jh (w:an)(rb wb:Nat)(ws:List W)(i:Nat)(x:W)(s:am)(R:Rd w rb wb ws i)(hx:ws[i]?=some x)(hs:(x.1.toList==s.toList)=true)(hp:0<x.1.size):
  Calls Tryz.prog 256 #[ag rb,ae s] w fun e w'=>e= .returned (.tuple #[])/\Rd w' rb wb ws (i+1)/\gm w.heap.size rb w w' (i+1):=by
 go_enter Tryz.func256,Tryz.ntmps256
 go_wp2_with fail
 refine(GU _ rb wb ws i x s R hx).mono ?_;rintro e w1 ⟨rfl,N2⟩;have R1:=R.below N2 R.blocks.1 R.blocks.2;have A1:=gm.of_below R.next N2;go_wp2_with fail
 refine(Lm _ rb wb ws i x R1 hx hp).mono ?_;rintro e w2 ⟨rfl,R2,A2⟩;go_wp2;go_end0;exact⟨rfl,R2,A1.trans A2 A1.size⟩
theorem Ji (w:an)(rb wb:Nat)(ws:List W)(i:Nat)(x:W)(s:am)(R:Rd w rb wb ws i)(hx:ws[i]?=some x)(hs:(x.1.toList==s.toList)=false):
  Calls Tryz.prog 256 #[ag rb,ae s] w fun e w'=>e=da 2 x.2/\gm w.heap.size rb w w' i:=by
 go_enter Tryz.func256,Tryz.ntmps256
 go_wp2_with fail
 refine(GU _ rb wb ws i x s R hx).mono ?_;rintro e w1 ⟨rfl,N2⟩;have R1:=R.below N2 R.blocks.1 R.blocks.2;have A1:=gm.of_below R.next N2;go_wp2_with fail
 refine(Nk _ rb wb ws i x R1 hx).mono ?_;rintro e w2 ⟨rfl,N3⟩;unfold da;go_wp2;exact⟨rfl,rfl,A1.below N3 N2.size⟩
theorem Jj (w:an)(rb wb:Nat)(ws:List W)(i:Nat)(x:W)(k:Int)(R:Rd w rb wb ws i)(hx:ws[i]?=some x)(hs:(cZ x.1 !=k)=false)(hp:0<x.1.size):
  Calls Tryz.prog 257 #[ag rb,aa k] w fun e w'=>e= .returned (.agg #[aa (cZ x.1),ae x.1,aa x.2])/\Rd w' rb wb ws (i+1)/\gm w.heap.size rb w w' (i+1):=by
 have B0:=(Below.refl w.heap.size w).alloc (ay _) (ak #[Value.int IntKind.i64 0,Value.string {data:= #[]},Value.int IntKind.i64 0] 148);go_enter Tryz.func257,Tryz.ntmps257
 go_wp2_with fail
 refine(BJ _ rb wb ws i x (R.alloc _) hx).mono ?_;rintro e w1 ⟨rfl,N2⟩;have R1:=(R.alloc _).below N2 (R.alloc _).blocks.1 (R.alloc _).blocks.2;have A1:=gm.of_below R.next (B0.trans (N2.mono (by simp)));have z1:w.heap.size<w1.heap.size:=by have:=N2.size;simp at this;omega
 go_wp2_with fail
 refine(Lm _ rb wb ws i x R1 hx hp).mono ?_;rintro e w2 ⟨rfl,R2,A2⟩;have A3:=A1.trans A2 (by omega);have n1:¬w.heap.size=rb:=by have:=R.blocks;omega
 obtain⟨t1,t2⟩:=nT N2 (b:=w.heap.size) (by simp);have u1:∀off,w2.cell? (ai w.heap.size off)=w1.cell? (ai w.heap.size off):=fun off=>A2.cell (a:=(ai w.heap.size off)) z1 n1
 have u2:∀off,w2.frozen? (ai w.heap.size off)=w1.frozen? (ai w.heap.size off):=fun off=>(Below.frozen A2 (p:=(ai w.heap.size off)) z1).trans (World.frozen?_setCell _ _ _ _)
 go_wp2;have A4:=((A3.setCell (a:=(ai w.heap.size 0)) (ay _) (Value.int IntKind.i64 (cZ x.fst))).setCell (a:=(ai w.heap.size 1)) (ay _) (Value.string x.fst)).setCell (a:=(ai w.heap.size 2)) (ay _) (Value.int IntKind.i64 x.snd);refine bodyPost_ret (v:= .agg #[aa (cZ x.1),ae x.1,aa x.2]) ?_ rfl ⟨rfl,?_,A4⟩
 ·simp[results,Tryz.results257,go_sem, *]
 ·exact A4.rd R R.blocks.1 R.blocks.2 (R.ends i x hx hp)
theorem Jk (w:an)(rb wb:Nat)(ws:List W)(i:Nat)(x:W)(k:Int)(R:Rd w rb wb ws i)(hx:ws[i]?=some x)(hs:(cZ x.1 !=k)=true):
  Calls Tryz.prog 257 #[ag rb,aa k] w fun e w'=>e=da 2 x.2/\gm w.heap.size rb w w' i:=by
 have B0:=(Below.refl w.heap.size w).alloc (ay _) (ak #[Value.int IntKind.i64 0,Value.string {data:= #[]},Value.int IntKind.i64 0] 148);go_enter Tryz.func257,Tryz.ntmps257
 go_wp2_with fail
 refine(BJ _ rb wb ws i x (R.alloc _) hx).mono ?_;rintro e w1 ⟨rfl,N2⟩;have R1:=(R.alloc _).below N2 (R.alloc _).blocks.1 (R.alloc _).blocks.2;have A1:=gm.of_below R.next (B0.trans (N2.mono (by simp)));have z1:w.heap.size<w1.heap.size:=by have:=N2.size;simp at this;omega
 go_wp2_with fail
 refine(Nk _ rb wb ws i x R1 hx).mono ?_;rintro e w2 ⟨rfl,N3⟩;unfold da;go_wp2;exact⟨rfl,rfl,A1.below N3 (by omega)⟩
end
structure dM where
 form:Int
 key:Option W
 type:W
 name:W
 num:W
structure er where
 oneof:Option W
 fields:List dM
structure dh where
 enum:Bool
 name:W
 parts:List er
 values:List (W×W)
abbrev mg (α:Type):=Except Nat (α×Nat)
def fx {α β:Type}(r:mg α)(f:α->Nat->mg β):mg β:=
 match r with
 | .error p=> .error p
 | .ok (a,j)=>f a j
def jb (ws:List W)(k:Int)(i:Nat):mg W:=
 match ws[i]? with
 |some x=>if cZ x.1==k then .ok (x,i+1)else .error x.2
 |none=> .error 0
def eQ (ws:List W)(s:List UInt8)(i:Nat):mg Unit:=
 match ws[i]? with
 |some x=>if x.1.toList==s then .ok ((),i+1)else .error x.2
 |none=> .error 0
def oG (ws:List W)(i:Nat):mg W:=
 match ws[i]? with
 |some x=>if cZ x.1==3||cZ x.1==1 then .ok (x,i+1)else .error x.2
 |none=> .error 0
def kN (ws:List W)(i:Nat):mg (W×W):=
 fx (jb ws 1 i) fun n i=>fx (eQ ws [61] i) fun _ i=>fx (jb ws 2 i) fun m i=>fx (eQ ws [59] i) fun _ i=> .ok ((n,m),i)
def ee (ws:List W)(form:Int)(i:Nat):mg dM:=
 fx (oG ws i) fun t i=>fx (kN ws i) fun nm i=> .ok (⟨form,none,t,nm.1,nm.2⟩,i)
def kO (ws:List W)(i:Nat):mg dM:=
 fx (eQ ws [109,97,112] i) fun _ i=>fx (eQ ws [60] i) fun _ i=>fx (oG ws i) fun k i=>fx (eQ ws [44] i) fun _ i=>
 fx (oG ws i) fun t i=>fx (eQ ws [62] i) fun _ i=>fx (kN ws i) fun nm i=> .ok (⟨4,some k,t,nm.1,nm.2⟩,i)
def fk {α:Type}(stop:Nat->Bool)(p:Nat->mg α):Nat->Nat->mg (List α)
 |0,i=> .ok ([],i)
 |n+1,i=>if stop i then .ok ([],i)else fx (p i) fun a j=>fx (fk stop p n j) fun l k=> .ok (a::l,k)
def lf {α:Type}(pre:List α)(r:mg (List α)):mg (List α):=fx r fun l k=> .ok (pre++l,k)
def d7 (ws:List W)(s:List UInt8)(i:Nat):Bool:=
 match ws[i]? with
 |some x=>x.1.toList==s
 |none=>true
def ri (ws:List W)(i:Nat):Bool:=
 match ws[i]? with
 |some x=>cZ x.1==4
 |none=>true
def gp (ws:List W)(i:Nat):mg er:=
 fx (eQ ws [111,110,101,111,102] i) fun _ i=>fx (jb ws 1 i) fun o i=>fx (eQ ws [123] i) fun _ i=>fx (ee ws 3 i) fun f i=>
 fx (lf [f] (fk (d7 ws [125]) (ee ws 3) ws.length i)) fun l i=>fx (eQ ws [125] i) fun _ i=> .ok (⟨some o,l⟩,i)
def fo (r:mg dM):mg er:=fx r fun f i=> .ok (⟨none,[f]⟩,i)
def kX (ws:List W)(i:Nat):mg er:=
 if d7 ws [111,110,101,111,102] i then gp ws i
 else if d7 ws [109,97,112] i then fo (kO ws i)
 else if d7 ws [114,101,112,101,97,116,101,100] i then fo (ee ws 2 (i+1))
 else if d7 ws [111,112,116,105,111,110,97,108] i then fo (ee ws 1 (i+1))
 else fo (ee ws 0 i)
def fH (ws:List W)(i:Nat):mg dh:=
 fx (eQ ws [109,101,115,115,97,103,101] i) fun _ i=>fx (jb ws 1 i) fun n i=>fx (eQ ws [123] i) fun _ i=>
 fx (fk (d7 ws [125]) (kX ws) ws.length i) fun l i=>fx (eQ ws [125] i) fun _ i=> .ok (⟨false,n,l,[]⟩,i)
def jP (ws:List W)(i:Nat):mg dh:=
 fx (eQ ws [101,110,117,109] i) fun _ i=>fx (jb ws 1 i) fun n i=>fx (eQ ws [123] i) fun _ i=>
 fx (fk (d7 ws [125]) (kN ws) ws.length i) fun l i=>fx (eQ ws [125] i) fun _ i=> .ok (⟨true,n,[],l⟩,i)
def jg (ws:List W)(i:Nat):mg dh:=if d7 ws [101,110,117,109] i then jP ws i else fH ws i
def oH (ws:List W):mg (List dh):=fk (ri ws) (jg ws) ws.length 0
def On {α:Type}(i:Nat)(r:mg α):Prop:=∀a j,r= .ok (a,j)->i<j
theorem dg {α β:Type}{r:mg α}{f:α->Nat->mg β}{b:β}{k:Nat}(h:fx r f= .ok (b,k)):∃a j,r= .ok (a,j)/\f a j= .ok (b,k):=by
 cases r with
 |error p=>simp[fx]at h
 |ok x=>exact⟨x.1,x.2,rfl,h⟩
theorem gd (ws:List W)(k:Int)(i:Nat):∀a j,jb ws k i= .ok (a,j)->j=i+1/\ws[i]?=some a/\cZ a.1=k:=by
 intro a j h;unfold jb at h
 split at h
 ·split at h
  ·simp at h;obtain⟨rfl,rfl⟩:=h;refine⟨rfl,by assumption,by simp_all⟩
  ·simp at h
 ·simp at h
theorem dY (ws:List W)(s:List UInt8)(i:Nat):∀a j,eQ ws s i= .ok (a,j)->j=i+1/\∃x,ws[i]?=some x/\x.1.toList=s:=by
 intro a j h;unfold eQ at h
 split at h
 ·split at h
  ·simp at h;subst h;exact⟨rfl,_,by assumption,by simp_all⟩
  ·simp at h
 ·simp at h
theorem ju (ws:List W)(i:Nat):∀a j,oG ws i= .ok (a,j)->j=i+1/\ws[i]?=some a/\(cZ a.1=3\/cZ a.1=1):=by
 intro a j h;unfold oG at h
 split at h
 ·split at h
  ·simp at h;obtain⟨rfl,rfl⟩:=h;refine⟨rfl,by assumption,by simp_all⟩
  ·simp at h
 ·simp at h
theorem sf (ws:List W)(i:Nat):On i (kN ws i):=by
 intro a j h;unfold kN at h;obtain⟨_,i1,h1,h⟩:=dg h;obtain⟨_,i2,h2,h⟩:=dg h;obtain⟨_,i3,h3,h⟩:=dg h;obtain⟨_,i4,h4,h⟩:=dg h;have:=(gd _ _ _ _ _ h1).1;have:=(dY _ _ _ _ _ h2).1;have:=(gd _ _ _ _ _ h3).1;have:=(dY _ _ _ _ _ h4).1;simp at h;omega
theorem jh (ws:List W)(form:Int)(i:Nat):On i (ee ws form i):=by
 intro a j h;unfold ee at h;obtain⟨_,i1,h1,h⟩:=dg h;obtain⟨_,i2,h2,h⟩:=dg h;have:=(ju _ _ _ _ h1).1;have:=sf _ _ _ _ h2;simp at h;omega
theorem G5 (ws:List W)(i:Nat):On i (kO ws i):=by
 intro a j h;unfold kO at h;obtain⟨_,i1,h1,h⟩:=dg h;obtain⟨_,i2,h2,h⟩:=dg h;obtain⟨_,i3,h3,h⟩:=dg h;obtain⟨_,i4,h4,h⟩:=dg h;obtain⟨_,i5,h5,h⟩:=dg h;obtain⟨_,i6,h6,h⟩:=dg h;obtain⟨_,i7,h7,h⟩:=dg h;have:=(dY _ _ _ _ _ h1).1;have:=(dY _ _ _ _ _ h2).1;have:=(ju _ _ _ _ h3).1;have:=(dY _ _ _ _ _ h4).1;have:=(ju _ _ _ _ h5).1;have:=(dY _ _ _ _ _ h6).1;have:=sf _ _ _ _ h7;simp at h;omega
theorem pE {α:Type}(stop:Nat->Bool)(p:Nat->mg α)(hp:∀i,On i (p i)):∀n i a j,fk stop p n i= .ok (a,j)->i<=j
 |0,i,a,j,h=>by simp[fk]at h;omega
 |n+1,i,a,j,h=>by
  unfold fk at h
  split at h
  ·simp at h;omega
  ·obtain⟨_,i1,h1,h⟩:=dg h;obtain⟨_,i2,h2,h⟩:=dg h;have:=hp _ _ _ h1;have:=pE stop p hp _ _ _ _ h2;simp at h;omega
theorem CT (ws:List W)(i:Nat):On i (gp ws i):=by
 intro a j h;unfold gp at h;obtain⟨_,i1,h1,h⟩:=dg h;obtain⟨_,i2,h2,h⟩:=dg h;obtain⟨_,i3,h3,h⟩:=dg h;obtain⟨_,i4,h4,h⟩:=dg h;obtain⟨_,i5,h5,h⟩:=dg h;obtain⟨_,i6,h6,h⟩:=dg h;obtain⟨_,i7,h7,h8⟩:=dg h5;have:=(dY _ _ _ _ _ h1).1;have:=(gd _ _ _ _ _ h2).1;have:=(dY _ _ _ _ _ h3).1;have:=jh _ _ _ _ _ h4;have:=pE _ _ (jh ws 3) _ _ _ _ h7;have:=(dY _ _ _ _ _ h6).1;simp at h h8;omega
theorem nU {i:Nat}{r:mg dM}(hr:On i r):On i (fo r):=by
 intro a j h;obtain⟨_,i1,h1,h⟩:=dg h;have:=hr _ _ h1;simp at h;omega
theorem On.mono {α:Type}{i k:Nat}{r:mg α}(h:On k r)(hik:i<=k):On i r:=fun a j e=>Nat.lt_of_le_of_lt hik (h a j e)
theorem yq (ws:List W)(i:Nat):On i (kX ws i):=by
 unfold kX
 split
 ·exact CT ws i
 ·split
  ·exact nU (G5 ws i)
  ·split
   ·exact nU ((jh ws 2 (i+1)).mono (by omega))
   ·split
    ·exact nU ((jh ws 1 (i+1)).mono (by omega))
    ·exact nU (jh ws 0 i)
theorem mm {α:Type}{stop:Nat->Bool}{p:Nat->mg α}{n i:Nat}(h:stop i=true):fk stop p n i= .ok ([],i):=by
 cases n with
 |zero=>rfl
 |succ n=>simp[fk,h]
theorem nV {α:Type}{stop:Nat->Bool}{p:Nat->mg α}{n i q:Nat}(h:stop i=false)(hn:0<n)(hp:p i= .error q):fk stop p n i= .error q:=by
 cases n with
 |zero=>omega
 |succ n=>simp[fk,h,hp,fx]
theorem pF {α:Type}{stop:Nat->Bool}{p:Nat->mg α}{n i j:Nat}{a:α}(pre:List α)(h:stop i=false)(hn:0<n)(hp:p i= .ok (a,j)):
  lf pre (fk stop p n i)=lf (pre++ [a]) (fk stop p (n-1) j):=by
 cases n with
 |zero=>omega
 |succ n=>
  simp only[fk,h,hp,fx,Nat.add_sub_cancel]
  cases fk stop p n j<;>simp[lf,fx]
section
attribute [local go_sem] ia ic ie
def lg {α:Type}(w:an)(rb wb:Nat)(ws:List W)(r:mg α)(ret:α->an->Ending->Prop)(e:Ending)(w':an):Prop:=
 match r with
 | .ok (a,j)=>ret a w' e/\Rd w' rb wb ws j/\gm w.heap.size rb w w' j
 | .error p=>e=da 2 p/\∃j,gm w.heap.size rb w w' j
theorem Rd.word {w:an}{rb wb i:Nat}{ws:List W}(R:Rd w rb wb ws i):∃x,ws[i]?=some x:=⟨_,aJ R.lt⟩
theorem Lg (w:an)(rb wb:Nat)(ws:List W)(i:Nat)(k:Int)(R:Rd w rb wb ws i)(hk:k≠4):
  Calls Tryz.prog 257 #[ag rb,aa k] w (lg w rb wb ws (jb ws k i) fun x _ e=>e= .returned (.agg #[aa (cZ x.1),ae x.1,aa x.2])):=by
 obtain⟨x,hx⟩:=R.word;unfold jb;simp only[hx]
 by_cases h:cZ x.1=k
 ·rw[if_pos (by simpa using h)];exact(Jj w rb wb ws i x k R hx (by simp[h]) (pD (by rw[h];exact hk))).mono fun e w' h=>h
 ·rw[if_neg (by simpa using h)];exact(Jk w rb wb ws i x k R hx (by simpa using h)).mono fun e w' h=>⟨h.1,_,h.2⟩
theorem Ax (w:an)(rb wb:Nat)(ws:List W)(i:Nat)(s:am)(l:List UInt8)(R:Rd w rb wb ws i)(hs:s.toList=l)(hl:0<l.length):
  Calls Tryz.prog 256 #[ag rb,ae s] w (lg w rb wb ws (eQ ws l i) fun _ _ e=>e= .returned (.tuple #[])):=by
 obtain⟨x,hx⟩:=R.word;unfold eQ;simp only[hx]
 by_cases h:(x.1.toList==l)=true
 ·rw[if_pos h];exact(Jh w rb wb ws i x s R hx (by rw[hs];exact h) (mj h hl)).mono fun e w' h=>h
 ·rw[if_neg h];exact(Ji w rb wb ws i x s R hx (by rw[hs];simpa using h)).mono fun e w' h=>⟨h.1,_,h.2⟩
theorem jr {n rb:Nat}{w w1:an}{j b:Nat}(h:gm n rb w w1 j)(hb:b<n)(hne:b≠rb):(∀off,w1.cell? (ai b off)=w.cell? (ai b off))/\(∀off,w1.frozen? (ai b off)=w.frozen? (ai b off)):=
 ⟨fun off=>h.cell (a:=(ai b off)) hb hne,fun off=>(Below.frozen h (p:=(ai b off)) hb).trans (World.frozen?_setCell _ _ _ _)⟩
theorem Ms (w:an)(rb wb:Nat)(ws:List W)(i:Nat)(R:Rd w rb wb ws i):
  Calls Tryz.prog 401 #[ag rb] w (lg w rb wb ws (oG ws i) fun x _ e=>e= .returned (.agg #[aa (cZ x.1),ae x.1,aa x.2])):=by
 obtain⟨x,hx⟩:=R.word;have HX:Hid (ws[i]?=some x):=hx;have B0:=(Below.refl w.heap.size w).alloc (ay _) (ak #[Value.int IntKind.i64 0,Value.string {data:= #[]},Value.int IntKind.i64 0] 148);have n1:¬w.heap.size=rb:=by have:=R.blocks;omega
 unfold oG;simp only[hx]
 cases h:(cZ x.1==3)
 ·have hk:jb ws 1 i=if cZ x.1==1 then .ok (x,i+1)else .error x.2:=by unfold jb;simp only[hx]
  have HK:=Hid.out (p:=(Bool.false||(cZ x.1==1))=(cZ x.1==1)) (by simp[Hid]);rw[HK];have N3:Hid (jb ws 1 i=if cZ x.1==1 then .ok (x,i+1)else .error x.2):=hk;clear hx hk HK;go_enter Tryz.func401,Tryz.ntmps401
  go_wp2_with fail
  refine(BJ _ rb wb ws i x (R.alloc _) HX.out).mono ?_;rintro e w1 ⟨rfl,N2⟩;have R1:=(R.alloc _).below N2 (R.alloc _).blocks.1 (R.alloc _).blocks.2;have A1:=gm.of_below R.next (B0.trans (N2.mono (by simp)));have z1:w.heap.size<w1.heap.size:=by have:=N2.size;simp at this;omega
  obtain⟨t1,t2⟩:=nT N2 (b:=w.heap.size) (by simp);go_wp2_with fail
  refine(Lg _ rb wb ws i 1 R1 (by decide)).mono ?_;rw[N3.out]
  cases h1:(cZ x.1==1)
  ·rintro e w2 ⟨rfl,j,A2⟩;unfold da;go_wp2;exact⟨rfl,rfl,j,A1.trans A2 (by omega)⟩
  ·rintro e w2 ⟨rfl,R2,A2⟩;obtain⟨u1,u2⟩:=jr A2 (b:=w.heap.size) z1 n1;have A3:=A1.trans A2 (by omega);go_wp2;have A4:=((A3.setCell (a:=(ai w.heap.size 0)) (ay _) (Value.int IntKind.i64 (cZ x.fst))).setCell (a:=(ai w.heap.size 1)) (ay _) (Value.string x.fst)).setCell (a:=(ai w.heap.size 2)) (ay _) (Value.int IntKind.i64 x.snd);refine bodyPost_ret (v:= .agg #[aa (cZ x.1),ae x.1,aa x.2]) ?_ rfl ⟨rfl,?_,A4⟩
   ·simp[results,Tryz.results401,go_sem, *]
   ·exact A4.rd R R.blocks.1 R.blocks.2 R2.lt
 ·have hp:0<x.1.size:=pD (by simp at h;omega);clear hx;go_enter Tryz.func401,Tryz.ntmps401
  go_wp2_with fail
  refine(BJ _ rb wb ws i x (R.alloc _) HX.out).mono ?_;rintro e w1 ⟨rfl,N2⟩;have R1:=(R.alloc _).below N2 (R.alloc _).blocks.1 (R.alloc _).blocks.2;have A1:=gm.of_below R.next (B0.trans (N2.mono (by simp)));have z1:w.heap.size<w1.heap.size:=by have:=N2.size;simp at this;omega
  obtain⟨t1,t2⟩:=nT N2 (b:=w.heap.size) (by simp);go_wp2_with fail
  refine(Lm _ rb wb ws i x R1 HX.out hp).mono ?_;rintro e w2 ⟨rfl,R2,A2⟩;obtain⟨u1,u2⟩:=jr A2 (b:=w.heap.size) z1 n1;have A3:=A1.trans A2 (by omega);go_wp2;have A4:=((A3.setCell (a:=(ai w.heap.size 0)) (ay _) (Value.int IntKind.i64 (cZ x.fst))).setCell (a:=(ai w.heap.size 1)) (ay _) (Value.string x.fst)).setCell (a:=(ai w.heap.size 2)) (ay _) (Value.int IntKind.i64 x.snd);refine bodyPost_ret (v:= .agg #[aa (cZ x.1),ae x.1,aa x.2]) ?_ rfl ⟨rfl,?_,A4⟩
  ·simp[results,Tryz.results401,go_sem, *]
  ·exact A4.rd R R.blocks.1 R.blocks.2 R2.lt
theorem d8 {α β:Type}{r:mg α}{f:α->Nat->mg β}{p:Nat}(h:r= .error p):fx r f= .error p:=by rw[h];rfl
theorem dy {α β:Type}{r:mg α}{f:α->Nat->mg β}{a:α}{j:Nat}(h:r= .ok (a,j)):fx r f=f a j:=by rw[h];rfl
theorem Mt (w:an)(rb wb:Nat)(ws:List W)(i:Nat)(R:Rd w rb wb ws i):
  Calls Tryz.prog 258 #[ag rb] w (lg w rb wb ws (kN ws i) fun x _ e=>e= .returned (.tuple #[.agg #[aa (cZ x.1.1),ae x.1.1,aa x.1.2],.agg #[aa (cZ x.2.1),ae x.2.1,aa x.2.2]])):=by
 have B0:=((Below.refl w.heap.size w).alloc (ay _) (ak #[Value.int IntKind.i64 0,Value.string {data:= #[]},Value.int IntKind.i64 0] 148)).alloc (by simp) (ak #[Value.int IntKind.i64 0,Value.string {data:= #[]},Value.int IntKind.i64 0] 148);have n1:¬w.heap.size=rb:=by have:=R.blocks;omega
 have n2:¬w.heap.size+1=rb:=by have:=R.blocks;omega
 have n3:¬rb=w.heap.size:=by have:=R.blocks;omega
 have n4:¬rb=w.heap.size+1:=by have:=R.blocks;omega
 have R0:=(R.alloc (ak #[Value.int IntKind.i64 0,Value.string {data:= #[]},Value.int IntKind.i64 0] 148)).alloc (ak #[Value.int IntKind.i64 0,Value.string {data:= #[]},Value.int IntKind.i64 0] 148);have A0:=gm.of_below R.next B0;generalize hr:kN ws i=r;have HR:Hid (kN ws i=r):=hr;go_enter Tryz.func258,Tryz.ntmps258
 go_wp2_with fail
 refine(Lg _ rb wb ws i 1 R0 (by decide)).mono ?_
 cases h1:jb ws 1 i with
 |error p=>
  rintro e w1 ⟨rfl,j,A1⟩;obtain rfl:r= .error p:=by rw[<-HR.out,kN,d8 h1]
  unfold da;go_wp2;exact⟨rfl,rfl,j,A0.trans A1 (by simp;omega)⟩
 |ok q=>
  obtain⟨x,i1⟩:=q;rintro e w1 ⟨rfl,R1,A1⟩;have z1:w.heap.size+1<w1.heap.size:=by have:=A1.size;simp at this;omega
  obtain⟨t1,t2⟩:=jr A1 (b:=w.heap.size) (by simp;omega) n1;obtain⟨t3,t4⟩:=jr A1 (b:=w.heap.size+1) (by simp) n2;have A2:=((((A0.trans A1 (by simp;omega)).setCell (a:=(ai w.heap.size 0)) (ay _) (Value.int IntKind.i64 (cZ x.fst))).setCell (a:=(ai w.heap.size 1)) (ay _) (Value.string x.fst)).setCell (a:=(ai w.heap.size 2)) (ay _) (Value.int IntKind.i64 x.snd));have R2:=A2.rd R R.blocks.1 R.blocks.2 R1.lt;go_wp2_with fail
  refine(Ax _ rb wb ws i1 _ [61] R2 (by decide+kernel) (by decide)).mono ?_
  cases h2:eQ ws [61] i1 with
  |error p=>
   rintro e w2 ⟨rfl,j,A3⟩;obtain rfl:r= .error p:=by rw[<-HR.out,kN,dy h1,d8 h2]
   unfold da;go_wp2;exact⟨rfl,rfl,j,A2.trans A3 (by simp;omega)⟩
  |ok q=>
   obtain⟨_,i2⟩:=q;rintro e w2 ⟨rfl,R3,A3⟩;have z2:w.heap.size+1<w2.heap.size:=by have:=A3.size;simp at this;omega
   obtain⟨s1,s2⟩:=jr A3 (b:=w.heap.size) (by simp;omega) n1;obtain⟨s3,s4⟩:=jr A3 (b:=w.heap.size+1) (by simp;omega) n2;have A4:=A2.trans A3 (by simp;omega);have k0:w2.cell? (ai w.heap.size 0)=some (aa (cZ x.1)):=by simp[go_sem,s1,t1]
   have k1:w2.cell? (ai w.heap.size 1)=some (ae x.1):=by simp[go_sem,s1,t1]
   have k2:w2.cell? (ai w.heap.size 2)=some (aa x.2):=by simp[go_sem,s1,t1]
   have k3:∀off,w2.frozen? (ai w.heap.size off)=false:=by simp[go_sem,s2,t2]
   have k4:∀off,w2.frozen? (ai (w.heap.size+1) off)=false:=by simp[go_sem,s4,t4]
   have k5:w2.cell? (ai (w.heap.size+1) 0)=some (aa 0):=by simp[go_sem,s3,t3]
   have k6:w2.cell? (ai (w.heap.size+1) 1)=some (ae ⟨#[]⟩):=by simp[go_sem,s3,t3]
   have k7:w2.cell? (ai (w.heap.size+1) 2)=some (aa 0):=by simp[go_sem,s3,t3]
   go_wp2_with fail
   refine(Lg _ rb wb ws i2 2 R3 (by decide)).mono ?_
   cases h3:jb ws 2 i2 with
   |error p=>
    rintro e w3 ⟨rfl,j,A5⟩;obtain rfl:r= .error p:=by rw[<-HR.out,kN,dy h1,dy h2,d8 h3]
    unfold da;go_wp2;exact⟨rfl,rfl,j,A4.trans A5 (by omega)⟩
   |ok q=>
    obtain⟨y,i3⟩:=q;rintro e w3 ⟨rfl,R5,A5⟩;have z3:w.heap.size+1<w3.heap.size:=by have:=A5.size;omega
    obtain⟨v1,v2⟩:=jr A5 (b:=w.heap.size) (by omega) n1;obtain⟨v3,v4⟩:=jr A5 (b:=w.heap.size+1) (by omega) n2;have A6:=((((A4.trans A5 (by omega)).setCell (a:=(ai (w.heap.size+1) 0)) (bE _) (Value.int IntKind.i64 (cZ y.fst))).setCell (a:=(ai (w.heap.size+1) 1)) (bE _) (Value.string y.fst)).setCell (a:=(ai (w.heap.size+1) 2)) (bE _) (Value.int IntKind.i64 y.snd));have R6:=A6.rd R R.blocks.1 R.blocks.2 R5.lt;go_wp2_with fail
    refine(Ax _ rb wb ws i3 _ [59] R6 (by decide+kernel) (by decide)).mono ?_
    cases h4:eQ ws [59] i3 with
    |error p=>
     rintro e w4 ⟨rfl,j,A7⟩;obtain rfl:r= .error p:=by rw[<-HR.out,kN,dy h1,dy h2,dy h3,d8 h4]
     unfold da;go_wp2;exact⟨rfl,rfl,j,A6.trans A7 (by simp;omega)⟩
    |ok q=>
     obtain⟨_,i4⟩:=q;rintro e w4 ⟨rfl,R7,A7⟩;have z4:w.heap.size+1<w4.heap.size:=by have:=A7.size;simp at this;omega
     obtain⟨x1,x2⟩:=jr A7 (b:=w.heap.size) (by simp;omega) n1;obtain⟨x3,x4⟩:=jr A7 (b:=w.heap.size+1) (by simp;omega) n2;have A8:=A6.trans A7 (by simp;omega);have m0:w4.cell? (ai w.heap.size 0)=some (aa (cZ x.1)):=by simp[go_sem,x1,v1,k0]
     have m1:w4.cell? (ai w.heap.size 1)=some (ae x.1):=by simp[go_sem,x1,v1,k1]
     have m2:w4.cell? (ai w.heap.size 2)=some (aa x.2):=by simp[go_sem,x1,v1,k2]
     have m3:∀off,w4.frozen? (ai w.heap.size off)=false:=by simp[go_sem,x2,v2,k3]
     have m4:∀off,w4.frozen? (ai (w.heap.size+1) off)=false:=by simp[go_sem,x4,v4,k4]
     have m5:w4.cell? (ai (w.heap.size+1) 0)=some (aa (cZ y.1)):=by simp[go_sem,x3,v3,k5]
     have m6:w4.cell? (ai (w.heap.size+1) 1)=some (ae y.1):=by simp[go_sem,x3,v3,k6]
     have m7:w4.cell? (ai (w.heap.size+1) 2)=some (aa y.2):=by simp[go_sem,x3,v3,k7]
     clear x1 x2 x3 x4 v1 v2 v3 v4 k0 k1 k2 k3 k4 k5 k6 k7;obtain rfl:r= .ok ((x,y),i4):=by rw[<-HR.out,kN,dy h1,dy h2,dy h3,dy h4]
     go_wp2;go_region
     have A9:=((((((A8.setCell (a:=(ai w.heap.size 0)) (ay _) (Value.int IntKind.i64 (cZ x.fst))).setCell (a:=(ai w.heap.size 1)) (ay _) (Value.string x.fst)).setCell (a:=(ai w.heap.size 2)) (ay _) (Value.int IntKind.i64 x.snd)).setCell (a:=(ai (w.heap.size+1) 0)) (bE _) (Value.int IntKind.i64 (cZ y.fst))).setCell (a:=(ai (w.heap.size+1) 1)) (bE _) (Value.string y.fst)).setCell (a:=(ai (w.heap.size+1) 2)) (bE _) (Value.int IntKind.i64 y.snd)).drew;go_wp2;refine bodyPost_ret (v:= .tuple #[.agg #[aa (cZ x.1),ae x.1,aa x.2],.agg #[aa (cZ y.1),ae y.1,aa y.2]]) ?_ rfl ⟨rfl,?_,A9⟩
     ·simp[results,Tryz.results258,go_sem, *]
     ·exact A9.rd R R.blocks.1 R.blocks.2 R7.lt
end
def de (w:an)(b:Nat)(cs:Array Value)(T:TypeId):Prop:=w.heap[b]?=some (.cells cs T (0,0))
theorem de.new (w:an)(cs:Array Value)(T:TypeId):de (w.alloc (.cells cs T)) w.heap.size cs T:=heap_alloc_new w _
theorem de.lt {w:an}{b:Nat}{cs:Array Value}{T:TypeId}(h:de w b cs T):b<w.heap.size:=by
 unfold de at h
 by_cases hb:b<w.heap.size
 ·exact hb
 ·rw[bX (by omega)]at h;cases h
theorem di (w:an)(cs:Array Value)(T:TypeId):aj w (w.alloc (Obj.cells cs T))/\de (w.alloc (Obj.cells cs T)) w.heap.size cs T:=⟨(Below.refl _ _).alloc (ay _) _,de.new w cs T⟩
theorem de.alloc {w:an}{b:Nat}{cs:Array Value}{T:TypeId}(h:de w b cs T)(o:Obj):de (w.alloc o) b cs T:=(Below.heap_alloc w o b h.lt).trans h
theorem de.below {w w1:an}{n b:Nat}{cs:Array Value}{T:TypeId}(h:de w b cs T)(hb:Below n w w1)(hn:b<n):de w1 b cs T:=(hb.block b hn).trans h
theorem de.adv_ {w w1:an}{n rb j b:Nat}{cs:Array Value}{T:TypeId}(h:de w b cs T)(ha:gm n rb w w1 j)(hn:b<n)(hne:b≠rb):de w1 b cs T:=by
 unfold de at*;rw[Below.block ha b hn,Go.Proofs.YtfebdimolnobaaaGreatDoor.yh,dd,if_neg (fun e=>hne e.symm)];exact h
theorem de.set {w:an}{b:Nat}{cs:Array Value}{T:TypeId}(h:de w b cs T)(off:Nat)(v:Value):de (w.setCell (ai b off) v) b (cs.setIfInBounds off v) T:=by
 unfold de at*;rw[dd,if_pos rfl,h];rfl
theorem de.other {w:an}{b:Nat}{cs:Array Value}{T:TypeId}(h:de w b cs T){c:Nat}(off:Nat)(v:Value)(hne:c≠b):de (w.setCell (ai c off) v) b cs T:=by
 unfold de at*;rw[dd,if_neg hne,h]
theorem de.drew {w:an}{b:Nat}{cs:Array Value}{T:TypeId}(h:de w b cs T):de w.drew b cs T:=h
theorem de.grown {w w1:an}{row:Option Nat}{b:Nat}{cs:Array Value}{T:TypeId}(h:de w b cs T)(hg:w.grownBy w1 row)(hne:some b≠row):de w1 b cs T:=(hg.block b h.lt hne).trans h
theorem de.cell {w:an}{b:Nat}{cs:Array Value}{T:TypeId}(h:de w b cs T)(off:Nat):w.cell? (ai b off)=cs[off]?:=by
 unfold de at h;simp[World.cell?,h]
theorem de.rules {w:an}{b:Nat}{cs:Array Value}{T:TypeId}(h:de w b cs T):(∀off,w.cell? (ai b off)=cs[off]?)/\(∀off,w.frozen? (ai b off)=false):=by
 refine⟨h.cell,fun off=> ?_⟩;unfold de at h;simp[World.frozen?,h]
theorem gm.sets {w w':an}{n rb j:Nat}(h:gm n rb w w' j){b:Nat}(hb:n<=b):∀(vs:aq) (o:Nat),gm n rb w (w'.setCells b o vs) j
 | [],o=>h
 |v::vs,o=>by
  have:=gm.sets (h.setCell (a:=(ai b o)) hb v) hb vs (o+1);simpa [World.setCells]using this
theorem de.sets_other {w:an}{b:Nat}{cs:Array Value}{T:TypeId}(h:de w b cs T){c:Nat}(hne:c≠b):∀(vs:aq) (o:Nat),de (w.setCells c o vs) b cs T
 | [],o=>h
 |v::vs,o=>by
  have:=de.sets_other (h.other o v hne) hne vs (o+1);simpa [World.setCells]using this
theorem de.sets {w:an}{b:Nat}{T:TypeId}:∀(vs pre old post:aq),de w b (pre++old++post).toArray T->vs.length=old.length->de (w.setCells b pre.length vs) b (pre++vs++post).toArray T
 | [],pre,old,post,h,hl=>by
  have:old= []:=bt hl.symm;subst this;simpa [World.setCells]using h
 |v::vs,pre,[],post,h,hl=>by simp at hl
 |v::vs,pre,o::old,post,h,hl=>by
  have h1:=h.set pre.length v
  have e:((pre++o::old++post).toArray).setIfInBounds pre.length v=((pre++ [v])++old++post).toArray:=by
   simp[List.set_append_right]
  rw[e]at h1;have:=de.sets vs (pre++ [v]) old post h1 (by simpa using hl);simpa [World.setCells]using this
theorem de.sets_all {w:an}{b:Nat}{cs:Array Value}{T:TypeId}(h:de w b cs T)(vs:aq)(hl:vs.length=cs.size):de (w.setCells b 0 vs) b vs.toArray T:=by
 have:=de.sets vs [] cs.toList [] (w:=w) (b:=b) (T:=T) (by simpa using h) (by simpa using hl);simpa using this
theorem dw {fn:Func}{p:Tmp}{ty:TypeId}{b:Nat}{cs:Array Value}{fs:Array Field}(h:fn.results= #[.cell p ty])(tmps:Array Value)(W:an)(hp:tmps.getD p undef=ag b)(K:de W b cs ty)
  (hu:Tryz.prog.underlying ty=some (.struct fs)) (hi:(Tryz.prog.info? ty).map (·.size)=some cs.size):
  (results fn tmps).run Tryz.prog W= .ok (.agg cs) W:=by
 have hl:=run_loadVar_row (P:=Tryz.prog) W b ty ty cs (0,0) _ K hu rfl hi;have N2:tmps[p]?.getD undef=ag b:=by simpa using hp
 simp only[results,h];simp[N2,asAddr,hl]
section
attribute [local go_sem] ia ic ie
def G6:Option W->aq
 |some x=>sJ x
 |none=> [aa 0,ae ⟨#[]⟩,aa 0]
def ox (f:dM):aq:=aa f.form::(G6 f.key++sJ f.type++sJ f.name++sJ f.num)
theorem Mh (w:an)(rb wb:Nat)(ws:List W)(i:Nat)(form:Int)(R:Rd w rb wb ws i):
  Calls Tryz.prog 341 #[ag rb,aa form] w (lg w rb wb ws (ee ws form i) fun f _ e=>e= .returned (.agg (ox f).toArray)):=by
 obtain⟨B0,K0⟩:=di w #[aa 0,aa 0,ae ⟨#[]⟩,aa 0,aa 0,ae ⟨#[]⟩,aa 0,aa 0,ae ⟨#[]⟩,aa 0,aa 0,ae ⟨#[]⟩,aa 0] 211;have R0:=R.alloc (ak #[aa 0,aa 0,ae ⟨#[]⟩,aa 0,aa 0,ae ⟨#[]⟩,aa 0,aa 0,ae ⟨#[]⟩,aa 0,aa 0,ae ⟨#[]⟩,aa 0] 211);have n1:¬w.heap.size=rb:=by have:=R.blocks;omega
 have n3:¬rb=w.heap.size:=by have:=R.blocks;omega
 have A0:=gm.of_below R.next B0;generalize hr:ee ws form i=r;have HR:Hid (ee ws form i=r):=hr;clear hr;go_enter Tryz.func341,Tryz.ntmps341
 go_wp2_with fail
 refine(Ms _ rb wb ws i R0).mono ?_
 cases h1:oG ws i with
 |error p=>
  rintro e w1 ⟨rfl,j,A1⟩;obtain rfl:r= .error p:=by rw[<-HR.out,ee,d8 h1]
  unfold da;go_wp2;exact⟨rfl,rfl,j,A0.trans A1 (by simp)⟩
 |ok q=>
  obtain⟨x,i1⟩:=q;rintro e w1 ⟨rfl,R1,A1⟩;have z1:w.heap.size<w1.heap.size:=by have:=A1.size;simp at this;omega
  have n5:¬w1.heap.size=rb:=by have:=R.blocks;omega
  have n6:¬rb=w1.heap.size:=by omega
  have n7:¬w1.heap.size=w.heap.size:=by omega
  have n8:¬w.heap.size=w1.heap.size:=by omega
  have K1:=K0.adv_ A1 (by simp) n1;have A2:=A0.trans A1 (by simp);clear A1 R0;go_wp2_with fail
  refine(Mt _ rb wb ws i1 (R1.alloc _)).mono ?_
  cases h2:kN ws i1 with
  |error p=>
   rintro e w2 ⟨rfl,j,A3⟩;obtain rfl:r= .error p:=by rw[<-HR.out,ee,dy h1,d8 h2]
   unfold da;go_wp2;exact⟨rfl,rfl,j,(A2.alloc (ay _) _).trans A3 (by simp;omega)⟩
  |ok q=>
   obtain⟨y,i2⟩:=q;rintro e w2 ⟨rfl,R3,A3⟩;have z2:w1.heap.size<w2.heap.size:=by have:=A3.size;simp at this;omega
   have K2:=(K1.alloc _).adv_ A3 (by simp;omega) n1;have J2:=(de.new _ _ _).adv_ A3 (by simp) n5;have A4:=(A2.alloc (ay _) _).trans A3 (by simp;omega);obtain⟨k1,k2⟩:=K2.rules;obtain⟨j1,j2⟩:=J2.rules;obtain rfl:r= .ok (⟨form,none,x,y.1,y.2⟩,i2):=by rw[<-HR.out,ee,dy h1,dy h2]
   clear R1 K1 A3 A2;go_wp2;have A5:=(A4.sets (b:=w1.heap.size) (by omega) (sJ y.1++sJ y.2) 7).sets (b:=w.heap.size) (ay _) (ox ⟨form,none,x,y.1,y.2⟩) 0;have K5:=(K2.sets_other (c:=w1.heap.size) n7 (sJ y.1++sJ y.2) 7).sets_all (ox ⟨form,none,x,y.1,y.2⟩) rfl;refine bodyPost_ret (dw Tryz.results341 _ _ rfl K5 Tryz.underlying211 (by kernel_rfl)) rfl ⟨rfl,?_,A5⟩;exact A5.rd R R.blocks.1 R.blocks.2 R3.lt
end
end Go.Proofs.YtfebdimolnobaaaGreatDoor
