import Derived.Test.YtfebdimolnobaaaGreatDoorAl
import Derived.Deep.RegionHeld3
import Derived.Deep.RegionLaw
import Derived.Deep.CutRange
import Derived.Deep.Light
import Derived.Deep.Draws
set_option maxRecDepth 100000
set_option maxHeartbeats 8000000
set_option linter.all false
namespace Go.Proofs.YtfebdimolnobaaaGreatDoor
open Go.RowKit Go.Proofs.Tryz
section
attribute [local go_sem] jQ jR jS
def rE {α:Type}(w:aw)(rb wb:Nat)(ws:List W)(r:oB α)(ret:α->aw->Ending->Prop)(e:Ending)(w':aw):Prop:=
 match r with
 | .ok (a,j)=>ret a w' e/\Rd w' rb wb ws j/\jr w.heap.size rb w w' j
 | .error p=>e=dY 2 p/\∃j,jr w.heap.size rb w w' j
def Rd.word {w:aw}{rb wb i:Nat}{ws:List W}(R:Rd w rb wb ws i):∃x,ws[i]?=some x:=⟨_,aO R.lt⟩
def R9 (w:aw)(rb wb:Nat)(ws:List W)(i:Nat)(k:Int)(R:Rd w rb wb ws i)(hk:k≠4):
  U8 257 #[ah rb,aa k] w (rE w rb wb ws (kM ws k i) λx _ e=>e= .returned (.agg #[aa (dV x.1),ag x.1,aa x.2])):=by
 have⟨x,hx⟩:=R.word;unfold kM;simp only[hx];by_cases h:dV x.1=k;.rw[dP (by simpa using h)];exact(Qp w rb wb ws i x k R hx (by simp[h]) (sH (by rw[h];exact hk))).V λe w' h=>h
 .rw[dO (by simpa using h)];exact(Qq w rb wb ws i x k R hx (by simpa using h)).V λe w' h=>⟨h.1,_,h.2⟩
def Fh (w:aw)(rb wb:Nat)(ws:List W)(i:Nat)(s:au)(l:ap)(R:Rd w rb wb ws i)(hs:s.toList=l)(hl:0<l.length):
  U8 256 #[ah rb,ag s] w (rE w rb wb ws (gu ws l i) λ_ _ e=>e= .returned (.tuple #[])):=by
 have⟨x,hx⟩:=R.word;unfold gu;simp only[hx];by_cases h:(x.1.toList==l)=true;.rw[dP h];exact(Qn w rb wb ws i x s R hx (by rw[hs];exact h) (sI h hl)).V λe w' h=>h
 .rw[dO h];exact(Qo w rb wb ws i x s R hx (by rw[hs];simpa using h)).V λe w' h=>⟨h.1,_,h.2⟩
def lR {n rb:Nat}{w w1:aw}{j b:Nat}(h:jr n rb w w1 j)(hb:b<n)(hne:b≠rb):(∀off,w1.cell? (aj b off)=w.cell? (aj b off))/\(∀off,w1.frozen? (aj b off)=w.frozen? (aj b off)):=
 ⟨λoff=>h.cell (a:=(aj b off)) hb hne,λoff=>(Below.frozen h (p:=(aj b off)) hb).J (World.frozen?_setCell _ _ _ _)⟩
def Tq (w:aw)(rb wb:Nat)(ws:List W)(i:Nat)(R:Rd w rb wb ws i):
  Calls prog 401 #[ah rb] w (rE w rb wb ws (pJ ws i) λx _ e=>e= .returned (.agg #[aa (dV x.1),ag x.1,aa x.2])):=by
 have⟨x,hx⟩:=R.word;have HX:Hid (ws[i]?=some x):=hx;have B0:=(Va w).alloc (aE _) (am #[Value.int IntKind.i64 0,Value.string {data:= #[]},Value.int IntKind.i64 0] 148);have n1:¬w.heap.size=rb:=by have:=R.blocks;omega
 unfold pJ;simp only[hx];cases h:(dV x.1==3)
 .have hk:kM ws 1 i=if dV x.1==1 then .ok (x,i+1)else .error x.2:=by unfold kM;simp only[hx]
  have HK:=Hid.o (p:=(Bool.false||(dV x.1==1))=(dV x.1==1)) (by simp[Hid]);rw[HK];have Vq:Hid (kM ws 1 i=if dV x.1==1 then .ok (x,i+1)else .error x.2):=hk;clear hx hk HK;go_in
  go_wp2_with fail;refine(Ny _ rb wb ws i x (R.alloc _) HX.o).V ?_;rintro e w1 ⟨rfl,Vp⟩;have R1:=(R.alloc _).G Vp (R.alloc _).blocks.1 (R.alloc _).blocks.2;have A1:=jr.oB R.next (B0.J (Vp.V Vd));have z1:w.heap.size<w1.heap.size:=by have:=Vp.size;simp at this;omega
  have⟨t1,t2⟩:=qN Vp (b:=w.heap.size) Vd;go_wp2_with fail;refine(R9 _ rb wb ws i 1 R1 Vf).V ?_;rw[Vq.o];cases h1:(dV x.1==1);.rintro e w2 ⟨rfl,j,A2⟩;unfold dY;go_wp2;exact⟨rfl,rfl,j,A1.J A2 Vc⟩
  .rintro e w2 ⟨rfl,R2,A2⟩;have⟨u1,u2⟩:=lR A2 (b:=w.heap.size) z1 n1;have A3:=A1.J A2 Vc;go_wp2;have A4:=((A3.setCell (a:=(aj w.heap.size 0)) (aE _) (Value.int IntKind.i64 (dV x.fst))).setCell (a:=(aj w.heap.size 1)) (aE _) (Value.string x.fst)).setCell (a:=(aj w.heap.size 2)) (aE _) (Value.int IntKind.i64 x.snd);refine dR (v:= .agg #[aa (dV x.1),ag x.1,aa x.2]) ?_ rfl ⟨rfl,?_,A4⟩;.simp[results,results401,go_sem, *]
   .exact A4.rd R R.blocks.1 R.blocks.2 R2.lt
 .have hp:0<x.1.size:=sH (by simp at h;omega);clear hx;go_in
  go_wp2_with fail;refine(Ny _ rb wb ws i x (R.alloc _) HX.o).V ?_;rintro e w1 ⟨rfl,Vp⟩;have R1:=(R.alloc _).G Vp (R.alloc _).blocks.1 (R.alloc _).blocks.2;have A1:=jr.oB R.next (B0.J (Vp.V Vd));have z1:w.heap.size<w1.heap.size:=by have:=Vp.size;simp at this;omega
  have⟨t1,t2⟩:=qN Vp (b:=w.heap.size) Vd;go_wp2_with fail;refine(Sg _ rb wb ws i x R1 HX.o hp).V ?_;rintro e w2 ⟨rfl,R2,A2⟩;have⟨u1,u2⟩:=lR A2 (b:=w.heap.size) z1 n1;have A3:=A1.J A2 Vc;go_wp2;have A4:=((A3.setCell (a:=(aj w.heap.size 0)) (aE _) (Value.int IntKind.i64 (dV x.fst))).setCell (a:=(aj w.heap.size 1)) (aE _) (Value.string x.fst)).setCell (a:=(aj w.heap.size 2)) (aE _) (Value.int IntKind.i64 x.snd);refine dR (v:= .agg #[aa (dV x.1),ag x.1,aa x.2]) ?_ rfl ⟨rfl,?_,A4⟩;.simp[results,results401,go_sem, *]
  .exact A4.rd R R.blocks.1 R.blocks.2 R2.lt
def gi {α β:Type}{r:oB α}{f:α->Nat->oB β}{p:Nat}(h:r= .error p):gM r f= .error p:=by rw[h];rfl
def eK {α β:Type}{r:oB α}{f:α->Nat->oB β}{a:α}{j:Nat}(h:r= .ok (a,j)):gM r f=f a j:=by rw[h];rfl
def Tr (w:aw)(rb wb:Nat)(ws:List W)(i:Nat)(R:Rd w rb wb ws i):
  Calls prog 258 #[ah rb] w (rE w rb wb ws (kW ws i) λx _ e=>e= .returned (.tuple #[.agg #[aa (dV x.1.1),ag x.1.1,aa x.1.2],.agg #[aa (dV x.2.1),ag x.2.1,aa x.2.2]])):=by
 have B0:=((Va w).alloc (aE _) (am #[Value.int IntKind.i64 0,Value.string {data:= #[]},Value.int IntKind.i64 0] 148)).alloc Vd (am #[Value.int IntKind.i64 0,Value.string {data:= #[]},Value.int IntKind.i64 0] 148);have n1:¬w.heap.size=rb:=by have:=R.blocks;omega
 have n2:¬w.heap.size+1=rb:=by have:=R.blocks;omega
 have n3:¬rb=w.heap.size:=by have:=R.blocks;omega
 have n4:¬rb=w.heap.size+1:=by have:=R.blocks;omega
 have R0:=(R.alloc (am #[Value.int IntKind.i64 0,Value.string {data:= #[]},Value.int IntKind.i64 0] 148)).alloc (am #[Value.int IntKind.i64 0,Value.string {data:= #[]},Value.int IntKind.i64 0] 148);have A0:=jr.oB R.next B0;generalize hr:kW ws i=r;have HR:Hid (kW ws i=r):=hr;go_in
 go_wp2_with fail;refine(R9 _ rb wb ws i 1 R0 Vf).V ?_
 cases h1:kM ws 1 i with
 |error p=>
  rintro e w1 ⟨rfl,j,A1⟩;obtain rfl:r= .error p:=by rw[<-HR.o,kW,gi h1]
  unfold dY;go_wp2
  exact⟨rfl,rfl,j,A0.J A1 Ve⟩
 |ok q=>
  obtain⟨x,i1⟩:=q;rintro e w1 ⟨rfl,R1,A1⟩;have z1:w.heap.size+1<w1.heap.size:=by have:=A1.size;simp at this;omega
  have⟨t1,t2⟩:=lR A1 (b:=w.heap.size) Ve n1;have⟨t3,t4⟩:=lR A1 (b:=w.heap.size+1) Vd n2;have A2:=((((A0.J A1 Ve).setCell (a:=(aj w.heap.size 0)) (aE _) (Value.int IntKind.i64 (dV x.fst))).setCell (a:=(aj w.heap.size 1)) (aE _) (Value.string x.fst)).setCell (a:=(aj w.heap.size 2)) (aE _) (Value.int IntKind.i64 x.snd));have R2:=A2.rd R R.blocks.1 R.blocks.2 R1.lt;go_wp2_with fail;refine(Fh _ rb wb ws i1 _ [61] R2 Vg Vf).V ?_
  cases h2:gu ws [61] i1 with
  |error p=>
   rintro e w2 ⟨rfl,j,A3⟩;obtain rfl:r= .error p:=by rw[<-HR.o,kW,eK h1,gi h2]
   unfold dY;go_wp2
   exact⟨rfl,rfl,j,A2.J A3 Ve⟩
  |ok q=>
   obtain⟨_,i2⟩:=q;rintro e w2 ⟨rfl,R3,A3⟩;have z2:w.heap.size+1<w2.heap.size:=by have:=A3.size;simp at this;omega
   have⟨s1,s2⟩:=lR A3 (b:=w.heap.size) Ve n1;have⟨s3,s4⟩:=lR A3 (b:=w.heap.size+1) Ve n2;have A4:=A2.J A3 Ve;have k0:w2.cell? (aj w.heap.size 0)=some (aa (dV x.1)):=by simp[go_sem,s1,t1]
   have k1:w2.cell? (aj w.heap.size 1)=some (ag x.1):=by simp[go_sem,s1,t1]
   have k2:w2.cell? (aj w.heap.size 2)=some (aa x.2):=by simp[go_sem,s1,t1]
   have k3:∀off,w2.frozen? (aj w.heap.size off)=false:=by simp[go_sem,s2,t2]
   have k4:∀off,w2.frozen? (aj (w.heap.size+1) off)=false:=by simp[go_sem,s4,t4]
   have k5:w2.cell? (aj (w.heap.size+1) 0)=some (aa 0):=by simp[go_sem,s3,t3]
   have k6:w2.cell? (aj (w.heap.size+1) 1)=some (U7):=by simp[go_sem,s3,t3]
   have k7:w2.cell? (aj (w.heap.size+1) 2)=some (aa 0):=by simp[go_sem,s3,t3]
   go_wp2_with fail;refine(R9 _ rb wb ws i2 2 R3 Vf).V ?_
   cases h3:kM ws 2 i2 with
   |error p=>
    rintro e w3 ⟨rfl,j,A5⟩;obtain rfl:r= .error p:=by rw[<-HR.o,kW,eK h1,eK h2,gi h3]
    unfold dY;go_wp2
    exact⟨rfl,rfl,j,A4.J A5 Vc⟩
   |ok q=>
    obtain⟨y,i3⟩:=q;rintro e w3 ⟨rfl,R5,A5⟩;have z3:w.heap.size+1<w3.heap.size:=by have:=A5.size;omega
    have⟨v1,v2⟩:=lR A5 (b:=w.heap.size) Vc n1;have⟨v3,v4⟩:=lR A5 (b:=w.heap.size+1) Vc n2;have A6:=((((A4.J A5 Vc).setCell (a:=(aj (w.heap.size+1) 0)) (bG _) (Value.int IntKind.i64 (dV y.fst))).setCell (a:=(aj (w.heap.size+1) 1)) (bG _) (Value.string y.fst)).setCell (a:=(aj (w.heap.size+1) 2)) (bG _) (Value.int IntKind.i64 y.snd));have R6:=A6.rd R R.blocks.1 R.blocks.2 R5.lt;go_wp2_with fail;refine(Fh _ rb wb ws i3 _ [59] R6 Vg Vf).V ?_
    cases h4:gu ws [59] i3 with
    |error p=>
     rintro e w4 ⟨rfl,j,A7⟩;obtain rfl:r= .error p:=by rw[<-HR.o,kW,eK h1,eK h2,eK h3,gi h4]
     unfold dY;go_wp2
     exact⟨rfl,rfl,j,A6.J A7 Ve⟩
    |ok q=>
     obtain⟨_,i4⟩:=q;rintro e w4 ⟨rfl,R7,A7⟩;have z4:w.heap.size+1<w4.heap.size:=by have:=A7.size;simp at this;omega
     have⟨x1,x2⟩:=lR A7 (b:=w.heap.size) Ve n1;have⟨x3,x4⟩:=lR A7 (b:=w.heap.size+1) Ve n2;have A8:=A6.J A7 Ve;have m0:w4.cell? (aj w.heap.size 0)=some (aa (dV x.1)):=by simp[go_sem,x1,v1,k0]
     have m1:w4.cell? (aj w.heap.size 1)=some (ag x.1):=by simp[go_sem,x1,v1,k1]
     have m2:w4.cell? (aj w.heap.size 2)=some (aa x.2):=by simp[go_sem,x1,v1,k2]
     have m3:∀off,w4.frozen? (aj w.heap.size off)=false:=by simp[go_sem,x2,v2,k3]
     have m4:∀off,w4.frozen? (aj (w.heap.size+1) off)=false:=by simp[go_sem,x4,v4,k4]
     have m5:w4.cell? (aj (w.heap.size+1) 0)=some (aa (dV y.1)):=by simp[go_sem,x3,v3,k5]
     have m6:w4.cell? (aj (w.heap.size+1) 1)=some (ag y.1):=by simp[go_sem,x3,v3,k6]
     have m7:w4.cell? (aj (w.heap.size+1) 2)=some (aa y.2):=by simp[go_sem,x3,v3,k7]
     clear x1 x2 x3 x4 v1 v2 v3 v4 k0 k1 k2 k3 k4 k5 k6 k7;obtain rfl:r= .ok ((x,y),i4):=by rw[<-HR.o,kW,eK h1,eK h2,eK h3,eK h4]
     go_wp2;go_region
     have A9:=((((((A8.setCell (a:=(aj w.heap.size 0)) (aE _) (Value.int IntKind.i64 (dV x.fst))).setCell (a:=(aj w.heap.size 1)) (aE _) (Value.string x.fst)).setCell (a:=(aj w.heap.size 2)) (aE _) (Value.int IntKind.i64 x.snd)).setCell (a:=(aj (w.heap.size+1) 0)) (bG _) (Value.int IntKind.i64 (dV y.fst))).setCell (a:=(aj (w.heap.size+1) 1)) (bG _) (Value.string y.fst)).setCell (a:=(aj (w.heap.size+1) 2)) (bG _) (Value.int IntKind.i64 y.snd)).drew;go_wp2;refine dR (v:= .tuple #[.agg #[aa (dV x.1),ag x.1,aa x.2],.agg #[aa (dV y.1),ag y.1,aa y.2]]) ?_ rfl ⟨rfl,?_,A9⟩;.simp[results,results258,go_sem, *]
     .exact A9.rd R R.blocks.1 R.blocks.2 R7.lt
end
def dX (w:aw)(b:Nat)(cs:aq)(T:TypeId):Prop:=w.heap[b]?=some (.cells cs T (0,0))
def dU {a b c:aw}(h:Below a.heap.size a b)(k:Below b.heap.size b c):Below a.heap.size a c:=
 h.J ⟨k.os,k.tape,k.output,k.size,λi hi=>k.block i (aI hi h.size)⟩
def dX.new (w:aw)(cs:aq)(T:TypeId):dX (w.alloc (.cells cs T)) w.heap.size cs T:=heap_alloc_new w _
def dX.lt {w:aw}{b:Nat}{cs:aq}{T:TypeId}(h:dX w b cs T):b<w.heap.size:=by
 unfold dX at h;by_cases hb:b<w.heap.size;.exact hb
 .rw[cI Vc]at h;cases h
def d8 (w:aw)(cs:aq)(T:TypeId):ak w (w.alloc (Obj.cells cs T))/\dX (w.alloc (Obj.cells cs T)) w.heap.size cs T:=⟨(Below.refl _ _).alloc (aE _) _,dX.new w cs T⟩
def dX.alloc {w:aw}{b:Nat}{cs:aq}{T:TypeId}(h:dX w b cs T)(o:Obj):dX (w.alloc o) b cs T:=(Below.l w o b h.lt).J h
def dX.G {w w1:aw}{n b:Nat}{cs:aq}{T:TypeId}(h:dX w b cs T)(hb:Below n w w1)(hn:b<n):dX w1 b cs T:=(hb.block b hn).J h
def dX.adv_ {w w1:aw}{n rb j b:Nat}{cs:aq}{T:TypeId}(h:dX w b cs T)(ha:jr n rb w w1 j)(hn:b<n)(hne:b≠rb):dX w1 b cs T:=by
 unfold dX at*;rw[Below.block ha b hn,Go.Proofs.YtfebdimolnobaaaGreatDoor.De,dW,dO (λe=>hne e.sy)];exact h
def dX.set {w:aw}{b:Nat}{cs:aq}{T:TypeId}(h:dX w b cs T)(off:Nat)(v:Value):dX (w.setCell (aj b off) v) b (cs.setIfInBounds off v) T:=by
 unfold dX at*;rw[dW,dP rfl,h];rfl
def dX.other {w:aw}{b:Nat}{cs:aq}{T:TypeId}(h:dX w b cs T){c:Nat}(off:Nat)(v:Value)(hne:c≠b):dX (w.setCell (aj c off) v) b cs T:=by
 unfold dX at*;rw[dW,dO hne,h]
def dX.drew {w:aw}{b:Nat}{cs:aq}{T:TypeId}(h:dX w b cs T):dX w.drew b cs T:=h
def dX.grown {w w1:aw}{row:Option Nat}{b:Nat}{cs:aq}{T:TypeId}(h:dX w b cs T)(hg:w.grownBy w1 row)(hne:some b≠row):dX w1 b cs T:=(hg.block b h.lt hne).J h
def dX.cell {w:aw}{b:Nat}{cs:aq}{T:TypeId}(h:dX w b cs T)(off:Nat):w.cell? (aj b off)=cs[off]?:=by
 unfold dX at h;simp[World.cell?,h]
def dX.I {w:aw}{b:Nat}{cs:aq}{T:TypeId}(h:dX w b cs T):(∀off,w.cell? (aj b off)=cs[off]?)/\(∀off,w.frozen? (aj b off)=false):=by
 refine⟨h.cell,λoff=> ?_⟩;unfold dX at h;simp[World.frozen?,h]
def jr.sets {w w':aw}{n rb j:Nat}(h:jr n rb w w' j){b:Nat}(hb:n<=b):∀(vs:ay) (o:Nat),jr n rb w (w'.setCells b o vs) j
 | [],o=>h
 |v::vs,o=>by
  have:=jr.sets (h.setCell (a:=(aj b o)) hb v) hb vs (o+1);simpa [World.setCells]using this
def dX.sets_other {w:aw}{b:Nat}{cs:aq}{T:TypeId}(h:dX w b cs T){c:Nat}(hne:c≠b):∀(vs:ay) (o:Nat),dX (w.setCells c o vs) b cs T
 | [],o=>h
 |v::vs,o=>by
  have:=dX.sets_other (h.other o v hne) hne vs (o+1);simpa [World.setCells]using this
def dX.sets {w:aw}{b:Nat}{T:TypeId}:∀(vs pre old post:ay),dX w b (pre++old++post).toArray T->vs.length=old.length->dX (w.setCells b pre.length vs) b (pre++vs++post).toArray T
 | [],pre,old,post,h,hl=>by
  have:old= []:=bE hl.sy;subst this
  simpa [World.setCells]using h
 |v::vs,pre,[],post,h,hl=>by simp at hl
 |v::vs,pre,o::old,post,h,hl=>by
  have h1:=h.set pre.length v;have e:((pre++o::old++post).toArray).setIfInBounds pre.length v=((pre++ [v])++old++post).toArray:=(by simp[List.set_append_right]);rw[e]at h1;have:=dX.sets vs (pre++ [v]) old post h1 (by simpa using hl);simpa [World.setCells]using this
def dX.sets_all {w:aw}{b:Nat}{cs:aq}{T:TypeId}(h:dX w b cs T)(vs:ay)(hl:vs.length=cs.size):dX (w.setCells b 0 vs) b vs.toArray T:=by
 have:=dX.sets vs [] cs.toList [] (w:=w) (b:=b) (T:=T) (by simpa using h) (by simpa using hl);simpa using this
def el {fn:Func}{p:Tmp}{ty:TypeId}{b:Nat}{cs:aq}{fs:Array Field}(h:fn.results= #[.cell p ty])(tmps:aq)(W:aw)(hp:tmps.getD p undef=ah b)(K:dX W b cs ty)
  (hu:prog.underlying ty=some (.struct fs)) (hi:(prog.info? ty).map (·.size)=some cs.size):
  (results fn tmps).run prog W= .ok (.agg cs) W:=by
 have hl:=run_loadVar_row (P:=prog) W b ty ty cs (0,0) _ K hu rfl hi;have Vp:tmps[p]?.getD undef=ah b:=by simpa using hp
 simp only[results,h];simp[Vp,asAddr,hl]
section
attribute [local go_sem] jQ jR jS
def NQ:Option W->ay
 |some x=>xq x
 |none=> [aa 0,U7,aa 0]
def sF (f:eU):ay:=aa f.form::(NQ f.key++xq f.type++xq f.name++xq f.num)
def Ta (w:aw)(rb wb:Nat)(ws:List W)(i:Nat)(form:Int)(R:Rd w rb wb ws i):
  Calls prog 341 #[ah rb,aa form] w (rE w rb wb ws (fX ws form i) λf _ e=>e= .returned (.agg (sF f).toArray)):=by
 have⟨B0,K0⟩:=d8 w #[aa 0,aa 0,U7,aa 0,aa 0,U7,aa 0,aa 0,U7,aa 0,aa 0,U7,aa 0] 211;have R0:=R.alloc (am #[aa 0,aa 0,U7,aa 0,aa 0,U7,aa 0,aa 0,U7,aa 0,aa 0,U7,aa 0] 211);have n1:¬w.heap.size=rb:=by have:=R.blocks;omega
 have n3:¬rb=w.heap.size:=by have:=R.blocks;omega
 have A0:=jr.oB R.next B0;generalize hr:fX ws form i=r;have HR:Hid (fX ws form i=r):=hr;clear hr;go_in
 go_wp2_with fail;refine(Tq _ rb wb ws i R0).V ?_
 cases h1:pJ ws i with
 |error p=>
  rintro e w1 ⟨rfl,j,A1⟩;obtain rfl:r= .error p:=by rw[<-HR.o,fX,gi h1]
  unfold dY;go_wp2
  exact⟨rfl,rfl,j,A0.J A1 Vd⟩
 |ok q=>
  obtain⟨x,i1⟩:=q;rintro e w1 ⟨rfl,R1,A1⟩;have z1:w.heap.size<w1.heap.size:=by have:=A1.size;simp at this;omega
  have n5:¬w1.heap.size=rb:=by have:=R.blocks;omega
  have n6:¬rb=w1.heap.size:=Vc;have n7:¬w1.heap.size=w.heap.size:=Vc;have n8:¬w.heap.size=w1.heap.size:=Vc;have K1:=K0.adv_ A1 Vd n1;have A2:=A0.J A1 Vd;clear A1 R0;go_wp2_with fail;refine(Tr _ rb wb ws i1 (R1.alloc _)).V ?_
  cases h2:kW ws i1 with
  |error p=>
   rintro e w2 ⟨rfl,j,A3⟩;obtain rfl:r= .error p:=by rw[<-HR.o,fX,eK h1,gi h2]
   unfold dY;go_wp2
   exact⟨rfl,rfl,j,(A2.alloc (aE _) _).J A3 Ve⟩
  |ok q=>
   obtain⟨y,i2⟩:=q;rintro e w2 ⟨rfl,R3,A3⟩;have z2:w1.heap.size<w2.heap.size:=by have:=A3.size;simp at this;omega
   have K2:=(K1.alloc _).adv_ A3 Ve n1;have J2:=(dX.new _ _ _).adv_ A3 Vd n5;have A4:=(A2.alloc (aE _) _).J A3 Ve;have⟨k1,k2⟩:=K2.I;have⟨j1,j2⟩:=J2.I;obtain rfl:r= .ok (⟨form,none,x,y.1,y.2⟩,i2):=by rw[<-HR.o,fX,eK h1,eK h2]
   clear R1 K1 A3 A2;go_wp2;have A5:=(A4.sets (b:=w1.heap.size) Vc (xq y.1++xq y.2) 7).sets (b:=w.heap.size) (aE _) (sF ⟨form,none,x,y.1,y.2⟩) 0;have K5:=(K2.sets_other (c:=w1.heap.size) n7 (xq y.1++xq y.2) 7).sets_all (sF ⟨form,none,x,y.1,y.2⟩) rfl;refine dR (el results341 _ _ rfl K5 underlying211 Vh) rfl ⟨rfl,?_,A5⟩;exact A5.rd R R.blocks.1 R.blocks.2 R3.lt
def Ut (w:aw)(rb wb:Nat)(ws:List W)(i:Nat)(R:Rd w rb wb ws i):
  Calls prog 340 #[ah rb] w (rE w rb wb ws (nN ws i) λf _ e=>e= .returned (.agg (sF f).toArray)):=by
 have A0:jr w.heap.size rb w ((w.alloc (am #[aa 0,aa 0,U7,aa 0,aa 0,U7,aa 0,aa 0,U7,aa 0,aa 0,U7,aa 0] 211)).alloc (am #[aa 4,aa 0,U7,aa 0,aa 0,U7,aa 0,aa 0,U7,aa 0,aa 0,U7,aa 0] 211)) i:=jr.oB R.next ((Vb w _).alloc Vd _);have R0:=(R.alloc (am #[aa 0,aa 0,U7,aa 0,aa 0,U7,aa 0,aa 0,U7,aa 0,aa 0,U7,aa 0] 211)).alloc (am #[aa 4,aa 0,U7,aa 0,aa 0,U7,aa 0,aa 0,U7,aa 0,aa 0,U7,aa 0] 211);have K0:=(dX.new w #[aa 0,aa 0,U7,aa 0,aa 0,U7,aa 0,aa 0,U7,aa 0,aa 0,U7,aa 0] 211).alloc (am #[aa 4,aa 0,U7,aa 0,aa 0,U7,aa 0,aa 0,U7,aa 0,aa 0,U7,aa 0] 211);have J0:dX ((w.U5 #[aa 0,aa 0,U7,aa 0,aa 0,U7,aa 0,aa 0,U7,aa 0,aa 0,U7,aa 0] 211).U5 #[aa 4,aa 0,U7,aa 0,aa 0,U7,aa 0,aa 0,U7,aa 0,aa 0,U7,aa 0] 211) (w.heap.size+1) #[aa 4,aa 0,U7,aa 0,aa 0,U7,aa 0,aa 0,U7,aa 0,aa 0,U7,aa 0] 211:=(by have:=dX.new (w.U5 #[aa 0,aa 0,U7,aa 0,aa 0,U7,aa 0,aa 0,U7,aa 0,aa 0,U7,aa 0] 211) #[aa 4,aa 0,U7,aa 0,aa 0,U7,aa 0,aa 0,U7,aa 0,aa 0,U7,aa 0] 211;simpa using this);have n1:¬w.heap.size=rb:=by have:=R.blocks;omega
 have n2:¬w.heap.size+1=rb:=by have:=R.blocks;omega
 have n3:¬rb=w.heap.size:=Vc;have n4:¬rb=w.heap.size+1:=Vc;have z0:w.heap.size+1<((w.alloc (am #[aa 0,aa 0,U7,aa 0,aa 0,U7,aa 0,aa 0,U7,aa 0,aa 0,U7,aa 0] 211)).alloc (am #[aa 4,aa 0,U7,aa 0,aa 0,U7,aa 0,aa 0,U7,aa 0,aa 0,U7,aa 0] 211)).heap.size:=Vd;generalize hr:nN ws i=r;have HR:Hid (nN ws i=r):=hr;clear hr;go_in
 have⟨k1,k2⟩:=K0.I;have⟨j1,j2⟩:=J0.I;go_wp2_with fail;clear k1 k2 j1 j2;refine(Fh _ rb wb ws i _ [109,97,112] R0 Vg Vf).V ?_
 cases h1:gu ws [109,97,112] i with
 |error p=>
  rintro e w1 ⟨rfl,j,A⟩;obtain rfl:r= .error p:=by rw[<-HR.o,nN,gi h1]
  unfold dY;go_wp2
  exact⟨rfl,rfl,j,A0.J A Vc⟩
 |ok q=>
  obtain⟨_,i1⟩:=q;rintro e w1 ⟨rfl,R1,A⟩;have z1:w.heap.size+1<w1.heap.size:=aI z0 A.size;have K1:=K0.adv_ A Vc n1;have J1:=J0.adv_ A z0 n2;have A1:=A0.J A Vc;clear A R0 K0 J0 A0 z0;have⟨k1,k2⟩:=K1.I;have⟨j1,j2⟩:=J1.I;go_wp2_with fail;clear k1 k2 j1 j2;refine(Fh _ rb wb ws i1 _ [60] R1 Vg Vf).V ?_
  cases h2:gu ws [60] i1 with
  |error p=>
   rintro e w2 ⟨rfl,j,A⟩;obtain rfl:r= .error p:=by rw[<-HR.o,nN,eK h1,gi h2]
   unfold dY;go_wp2
   exact⟨rfl,rfl,j,A1.J A Vc⟩
  |ok q=>
   obtain⟨_,i2⟩:=q;rintro e w2 ⟨rfl,R2,A⟩;have z2:w.heap.size+1<w2.heap.size:=aI z1 A.size;have K2:=K1.adv_ A Vc n1;have J2:=J1.adv_ A z1 n2;have A2:=A1.J A Vc;clear A R1 K1 J1 A1 z1;have⟨k1,k2⟩:=K2.I;have⟨j1,j2⟩:=J2.I;go_wp2_with fail;clear k1 k2 j1 j2;refine(Tq _ rb wb ws i2 R2).V ?_
   cases h3:pJ ws i2 with
   |error p=>
    rintro e w3 ⟨rfl,j,A⟩;obtain rfl:r= .error p:=by rw[<-HR.o,nN,eK h1,eK h2,gi h3]
    unfold dY;go_wp2
    exact⟨rfl,rfl,j,A2.J A Vc⟩
   |ok q=>
    obtain⟨k,i3⟩:=q;rintro e w3 ⟨rfl,R3,A⟩;have z3:w.heap.size+1<w3.heap.size:=aI z2 A.size;have K3:=K2.adv_ A Vc n1;have J3:=J2.adv_ A z2 n2;have A3:=A2.J A Vc;clear A R2 K2 J2 A2 z2;have Vp:=A3.sets (b:=w.heap.size+1) Vc [aa (dV k.1),ag k.1,aa k.2] 1;have Vt:=Vp.rd R R.blocks.1 R.blocks.2 R3.lt;have Vu:=K3.sets_other (c:=w.heap.size+1) Vc [aa (dV k.1),ag k.1,aa k.2] 1;have Vv:dX (w3.setCells (w.heap.size+1) 1 [aa (dV k.1),ag k.1,aa k.2]) (w.heap.size+1) #[aa 4,aa (dV k.1),ag k.1,aa k.2,aa 0,U7,aa 0,aa 0,U7,aa 0,aa 0,U7,aa 0] 211:=dX.sets [aa (dV k.1),ag k.1,aa k.2] [aa 4] [aa 0,U7,aa 0] [aa 0,U7,aa 0,aa 0,U7,aa 0,aa 0,U7,aa 0] J3 rfl;have Vr:w.heap.size+1<(w3.setCells (w.heap.size+1) 1 [aa (dV k.1),ag k.1,aa k.2]).heap.size:=by simpa [World.setCells,World.setCell]using z3
    have⟨k1,k2⟩:=K3.I;have⟨j1,j2⟩:=J3.I;clear A3 R3 K3 z3;go_wp2_with fail;clear k1 k2 j1 j2 J3;refine(Fh _ rb wb ws i3 _ [44] Vt Vg Vf).V ?_
    cases h4:gu ws [44] i3 with
    |error p=>
     rintro e w4 ⟨rfl,j,A⟩;obtain rfl:r= .error p:=by rw[<-HR.o,nN,eK h1,eK h2,eK h3,gi h4]
     unfold dY;go_wp2
     exact⟨rfl,rfl,j,Vp.J A Vc⟩
    |ok q=>
     obtain⟨_,i4⟩:=q;rintro e w4 ⟨rfl,R4,A⟩;have z4:w.heap.size+1<w4.heap.size:=aI Vr A.size;have K4:=Vu.adv_ A Vc n1;have J4:=Vv.adv_ A Vr n2;have A4:=Vp.J A Vc;clear A Vt Vu Vv Vp Vr;have⟨k1,k2⟩:=K4.I;have⟨j1,j2⟩:=J4.I;go_wp2_with fail;clear k1 k2 j1 j2;refine(Tq _ rb wb ws i4 R4).V ?_
     cases h5:pJ ws i4 with
     |error p=>
      rintro e w5 ⟨rfl,j,A⟩;obtain rfl:r= .error p:=by rw[<-HR.o,nN,eK h1,eK h2,eK h3,eK h4,gi h5]
      unfold dY;go_wp2
      exact⟨rfl,rfl,j,A4.J A Vc⟩
     |ok q=>
      obtain⟨t,i5⟩:=q;rintro e w5 ⟨rfl,R5,A⟩;have z5:w.heap.size+1<w5.heap.size:=aI z4 A.size;have K5:=K4.adv_ A Vc n1;have J5:=J4.adv_ A z4 n2;have A5:=A4.J A Vc;clear A R4 K4 J4 A4 z4;have Vq:=A5.sets (b:=w.heap.size+1) Vc [aa (dV t.1),ag t.1,aa t.2] 4;have Vw:=Vq.rd R R.blocks.1 R.blocks.2 R5.lt;have Vx:=K5.sets_other (c:=w.heap.size+1) Vc [aa (dV t.1),ag t.1,aa t.2] 4;have Vy:dX (w5.setCells (w.heap.size+1) 4 [aa (dV t.1),ag t.1,aa t.2]) (w.heap.size+1) #[aa 4,aa (dV k.1),ag k.1,aa k.2,aa (dV t.1),ag t.1,aa t.2,aa 0,U7,aa 0,aa 0,U7,aa 0] 211:=dX.sets [aa (dV t.1),ag t.1,aa t.2] [aa 4,aa (dV k.1),ag k.1,aa k.2] [aa 0,U7,aa 0] [aa 0,U7,aa 0,aa 0,U7,aa 0] J5 rfl;have Vs:w.heap.size+1<(w5.setCells (w.heap.size+1) 4 [aa (dV t.1),ag t.1,aa t.2]).heap.size:=by simpa [World.setCells,World.setCell]using z5
      have⟨k1,k2⟩:=K5.I;have⟨j1,j2⟩:=J5.I;clear A5 R5 K5 z5;go_wp2_with fail;clear k1 k2 j1 j2 J5;refine(Fh _ rb wb ws i5 _ [62] Vw Vg Vf).V ?_
      cases h6:gu ws [62] i5 with
      |error p=>
       rintro e w6 ⟨rfl,j,A⟩;obtain rfl:r= .error p:=by rw[<-HR.o,nN,eK h1,eK h2,eK h3,eK h4,eK h5,gi h6]
       unfold dY;go_wp2
       exact⟨rfl,rfl,j,Vq.J A Vc⟩
      |ok q=>
       obtain⟨_,i6⟩:=q;rintro e w6 ⟨rfl,R6,A⟩;have z6:w.heap.size+1<w6.heap.size:=aI Vs A.size;have K6:=Vx.adv_ A Vc n1;have J6:=Vy.adv_ A Vs n2;have A6:=Vq.J A Vc;clear A Vw Vx Vy Vq Vs;have⟨k1,k2⟩:=K6.I;have⟨j1,j2⟩:=J6.I;go_wp2_with fail;clear k1 k2 j1 j2;refine(Tr _ rb wb ws i6 R6).V ?_
       cases h7:kW ws i6 with
       |error p=>
        rintro e w7 ⟨rfl,j,A⟩;obtain rfl:r= .error p:=by rw[<-HR.o,nN,eK h1,eK h2,eK h3,eK h4,eK h5,eK h6,gi h7]
        unfold dY;go_wp2
        exact⟨rfl,rfl,j,A6.J A Vc⟩
       |ok q=>
        obtain⟨y,i7⟩:=q;rintro e w7 ⟨rfl,R7,A⟩;have z7:w.heap.size+1<w7.heap.size:=aI z6 A.size;have K7:=K6.adv_ A Vc n1;have J7:=J6.adv_ A z6 n2;have A7:=A6.J A Vc;clear A R6 K6 J6 A6 z6;have Vz:=A7.sets (b:=w.heap.size+1) Vc [aa (dV y.1.1),ag y.1.1,aa y.1.2,aa (dV y.2.1),ag y.2.1,aa y.2.2] 7;have VA:=Vz.rd R R.blocks.1 R.blocks.2 R7.lt;have VB:=K7.sets_other (c:=w.heap.size+1) Vc [aa (dV y.1.1),ag y.1.1,aa y.1.2,aa (dV y.2.1),ag y.2.1,aa y.2.2] 7;have J7s:dX (w7.setCells (w.heap.size+1) 7 [aa (dV y.1.1),ag y.1.1,aa y.1.2,aa (dV y.2.1),ag y.2.1,aa y.2.2]) (w.heap.size+1) #[aa 4,aa (dV k.1),ag k.1,aa k.2,aa (dV t.1),ag t.1,aa t.2,aa (dV y.1.1),ag y.1.1,aa y.1.2,aa (dV y.2.1),ag y.2.1,aa y.2.2] 211:=dX.sets [aa (dV y.1.1),ag y.1.1,aa y.1.2,aa (dV y.2.1),ag y.2.1,aa y.2.2] [aa 4,aa (dV k.1),ag k.1,aa k.2,aa (dV t.1),ag t.1,aa t.2] [aa 0,U7,aa 0,aa 0,U7,aa 0] [] J7 rfl;have z7s:w.heap.size+1<(w7.setCells (w.heap.size+1) 7 [aa (dV y.1.1),ag y.1.1,aa y.1.2,aa (dV y.2.1),ag y.2.1,aa y.2.2]).heap.size:=by simpa [World.setCells,World.setCell]using z7
        have⟨k1,k2⟩:=K7.I;have⟨j1,j2⟩:=J7.I;obtain rfl:r= .ok (⟨4,some k,t,y.1,y.2⟩,i7):=by rw[<-HR.o,nN,eK h1,eK h2,eK h3,eK h4,eK h5,eK h6,eK h7]
        go_wp2;have A9:=Vz.sets (b:=w.heap.size) (aE _) (sF ⟨4,some k,t,y.1,y.2⟩) 0;have K9:=VB.sets_all (sF ⟨4,some k,t,y.1,y.2⟩) rfl;refine dR (el results340 _ _ rfl K9 underlying211 Vh) rfl ⟨rfl,?_,A9⟩;exact A9.rd R R.blocks.1 R.blocks.2 VA.lt
end
section
variable {w:aw} {i base k m j:Nat} {ws:List W} {T:TypeId} {v:Value} {xs:ay} {form:Int}
attribute [local go_sem] jQ jR jS
theorem Ts (w:aw)(v0 v1 v2 v3 v4 v5 v6 v7 v8 v9 v10 v11 v12:Value):
  Calls prog 339 #[.agg #[v0,v1,v2,v3,v4,v5,v6,v7,v8,v9,v10,v11,v12]] w λe w'=>∃fv,e= .returned (.agg #[aa 0,U7,aa 0,fv])/\w'.ownsRow w.heap.size 211 13 fv 1 [v0,v1,v2,v3,v4,v5,v6,v7,v8,v9,v10,v11,v12]/\ak w w':=by
 go_in
 go_wp2;have K:dX (((w.U5 #[v0,v1,v2,v3,v4,v5,v6,v7,v8,v9,v10,v11,v12] 211).U5 #[aa 0,U7,aa 0,U9 (w.heap.size+1+1) 1 1] 208).U5 #[v0,v1,v2,v3,v4,v5,v6,v7,v8,v9,v10,v11,v12] 211) (w.heap.size+1) #[aa 0,U7,aa 0,U9 (w.heap.size+1+1) 1 1] 208:=(by have:=(dX.new (w.U5 #[v0,v1,v2,v3,v4,v5,v6,v7,v8,v9,v10,v11,v12] 211) #[aa 0,U7,aa 0,U9 (w.heap.size+1+1) 1 1] 208).alloc (am #[v0,v1,v2,v3,v4,v5,v6,v7,v8,v9,v10,v11,v12] 211);simpa using this);refine dR (el results339 _ _ rfl K underlying208 Vh) rfl ⟨_,rfl,⟨rfl,.inr ⟨w.heap.size+1+1,1,#[v0,v1,v2,v3,v4,v5,v6,v7,v8,v9,v10,v11,v12],rfl,Vc,?_,Vc,Vj,rfl,rfl⟩⟩,?_⟩;.have:=dX.new ((w.U5 #[v0,v1,v2,v3,v4,v5,v6,v7,v8,v9,v10,v11,v12] 211).U5 #[aa 0,U7,aa 0,U9 (w.heap.size+1+1) 1 1] 208) #[v0,v1,v2,v3,v4,v5,v6,v7,v8,v9,v10,v11,v12] 211;simpa [dX]using this
 .exact(((Below.refl _ _).alloc (aE _) _).alloc Vd _).alloc Ve _
theorem Uu (w:aw)(f:eU):
  U8 339 #[.agg (sF f).toArray] w λe w'=>∃fv,e= .returned (.agg #[aa 0,U7,aa 0,fv])/\w'.ownsRow w.heap.size 211 13 fv 1 (sF f)/\ak w w':=by
 obtain⟨form,key,ty,nm,nu⟩:=f;cases key<;>exact Ts w _ _ _ _ _ _ _ _ _ _ _ _ _
theorem Rd.drew {rb wb:Nat}(R:Rd w rb wb ws i):Rd w.drew rb wb ws i:=
 R.G (Va w).drew R.blocks.1 R.blocks.2
def js (rb:Nat)(w:aw):Nat:=
 match w.cell? (aj rb 1)with
 |some v=>(intOf v).toNat
 |none=>0
theorem Rd.nextOf {rb wb:Nat}(R:Rd w rb wb ws i):Go.Proofs.YtfebdimolnobaaaGreatDoor.js rb w=i:=by
 simp[Go.Proofs.YtfebdimolnobaaaGreatDoor.js,R.next,intOf]
theorem eX {w1:aw}(hb:ak w w1)(h:w.ownsRow base T k v m xs):w1.ownsRow base T k v m xs:=by
 refine⟨h.1,?_⟩;rcases h.2 with h2|⟨g,cap,Vp,h2,h3,h4,h5⟩;.exact .inl h2
 .exact .inr ⟨g,cap,Vp,h2,h3,(hb.block g (dX.lt h4)).J h4,h5⟩
theorem jU {w1:aw}{n rb:Nat}(ha:jr n rb w w1 j)(hn:w.heap.size<=n)(hrb:rb<base)(h:w.ownsRow base T k v m xs):w1.ownsRow base T k v m xs:=by
 refine⟨h.1,?_⟩;rcases h.2 with h2|⟨g,cap,Vp,h2,h3,h4,h5⟩;.exact .inl h2
 .exact .inr ⟨g,cap,Vp,h2,h3,dX.adv_ h4 ha (aI (dX.lt h4) hn) Vc,h5⟩
theorem pd (h:w.ownsRow base T k v m xs):w.drew.ownsRow base T k v m xs:=h
theorem ph {lo:Nat}(h:w.ownsRow base T k v m xs)(hl:lo<=base):w.ownsRow lo T k v m xs:=by
 refine⟨h.1,?_⟩;rcases h.2 with h2|⟨g,cap,Vp,h2,h3,h4,h5⟩;.exact .inl h2
 .exact .inr ⟨g,cap,Vp,h2,aM hl h3,h4,h5⟩
theorem j9 {lo:Nat}(h:w.ownsRow base T k v m xs){b:Nat}(hb:b<base)(hl:lo<=base)(vs:ay)(o:Nat):(w.setCells b o vs).ownsRow lo T k v m xs:=by
 refine⟨h.1,?_⟩;rcases h.2 with h2|⟨g,cap,Vp,h2,h3,h4,h5⟩;.exact .inl h2
 .exact .inr ⟨g,cap,Vp,h2,aM hl h3,dX.sets_other (b:=g) h4 Vc vs o,h5⟩
theorem d5 (h:w.ownsRow base T k v m xs):∃a n c,v= .slice a n c:=by
 rcases h.2 with⟨h2,_⟩|⟨g,cap,Vp,h2,h3⟩;.exact⟨_,_,_,h2⟩
 .exact⟨_,_,_,h2⟩
theorem NR (f:eU):(sF f).length=13:=by
 obtain⟨form,key,ty,nm,nu⟩:=f;cases key<;>rfl
theorem Tryz.info211:(prog.info? 211).map (λi=>(i.zero,i.size,i.bytes))=some (some (.agg #[aa 0,aa 0,U7,aa 0,aa 0,U7,aa 0,aa 0,U7,aa 0,aa 0,U7,aa 0]),13,136):=Vh
theorem rW {f:eU}(h:fX ws form i= .ok (f,j)):sF f= [aa form,aa 0,U7,aa 0,aa (dV f.type.1),ag f.type.1,aa f.type.2,aa (dV f.name.1),ag f.name.1,aa f.name.2,aa (dV f.num.1),ag f.num.1,aa f.num.2]:=by
 unfold fX at h;have⟨t,i1,h1,h⟩:=d6 h;have⟨nm,i2,h2,h⟩:=d6 h;simp at h;obtain⟨rfl,rfl⟩:=h;rfl
theorem NS (w:aw)(rb wb:Nat)(ws:List W)(i:Nat)(form:Int)(R:Rd w rb wb ws i):
  U8 341 #[ah rb,aa form] w (rE w rb wb ws (fX ws form i) λf _ e=>e= .returned (.agg #[aa form,aa 0,U7,aa 0,aa (dV f.type.1),ag f.type.1,aa f.type.2,aa (dV f.name.1),ag f.name.1,aa f.name.2,aa (dV f.num.1),ag f.num.1,aa f.num.2])):=by
 refine(Ta w rb wb ws i form R).V λe w' h=> ?_
 cases hf:fX ws form i with
 |error p=>rw[hf]at h;exact h
 |ok q=>
  obtain⟨f,j⟩:=q;rw[hf]at h;obtain⟨h1,h2⟩:=h;exact⟨by rw[h1,rW hf],h2⟩
end
section
variable {P:Program} {ops:Array Oper} {Q:Exit->Act->aw->Prop} {md:Region.Mode} {S:aw->Prop} (i:Nat) {oi:Oper} {fuel:Nat} {listed:Array Bool} {a:Act} {w:aw}
attribute [local go_sem] jQ jR jS
open Vo
theorem ie (v:Value)(hi:ops[i]?=some oi)
  (hc:(Region.noSelect ops&&(Region.free md ops listed i&&(Region.ready md ops listed).contains i))=true) (hQ:∀c a w,Q (.panic c) (a.put oi.dst v) w->Q (.panic c) a w) (hy:YieldsIf P ops S oi v a) (hS:S w)
  (h:wpAnyH P md ops Q S fuel (listed.setIfInBounds i true) (a.put oi.dst v) w):wpAnyH P md ops Q S (fuel+1) listed a w:=by
 rw[aQ,aQ]at hc;exact wpAnyH_take hi hc.1 hc.2.1 hc.2.2 hQ hy hS h
theorem U1 (v:Value)(hS:S w)(h:wpAnyH P md ops Q S fuel (listed.setIfInBounds i true) (a.put oi.dst v) w)(hi:ops[i]?=some oi:=by rfl)
  (hc:(Region.noSelect ops&&(Region.free md ops listed i&&(Region.ready md ops listed).contains i))=true:=by kernel_rfl) (hQ:∀c a w,Q (.panic c) (a.put oi.dst v) w->Q (.panic c) a w:=by exact λ_ _ _ h=>h) (hy:YieldsIf P ops S oi v a:=by exact .inl ⟨rfl,λw ⟨s0,s1,s2⟩=>Vn⟩):wpAnyH P md ops Q S (fuel+1) listed a w:=ie i v hi hc hQ hy hS h
theorem U2 (v:Value)(hS:S w)(h:wpAnyH P md ops Q S fuel (listed.setIfInBounds i true) (a.put oi.dst v) w)(hi:ops[i]?=some oi:=by rfl)
  (hc:(Region.noSelect ops&&(Region.free md ops listed i&&(Region.ready md ops listed).contains i))=true:=by kernel_rfl) (hQ:∀c a w,Q (.panic c) (a.put oi.dst v) w->Q (.panic c) a w:=by exact λ_ _ _ h=>h) (hy:YieldsIf P ops S oi v a:=by exact .inl ⟨rfl,λw ⟨sc,s0,s1,s2⟩=>Vn⟩):wpAnyH P md ops Q S (fuel+1) listed a w:=ie i v hi hc hQ hy hS h
theorem U3 (v:Value)(hS:S w)(h:wpAnyH P md ops Q S fuel (listed.setIfInBounds i true) (a.put oi.dst v) w)(hi:ops[i]?=some oi:=by rfl)
  (hc:(Region.noSelect ops&&(Region.free md ops listed i&&(Region.ready md ops listed).contains i))=true:=by kernel_rfl) (hQ:∀c a w,Q (.panic c) (a.put oi.dst v) w->Q (.panic c) a w:=by exact λ_ _ _ h=>h) (hy:YieldsIf P ops S oi v a:=by exact .inr ⟨rfl,rfl⟩):wpAnyH P md ops Q S (fuel+1) listed a w:=ie i v hi hc hQ hy hS h
theorem Uv (w:aw)(rb wb:Nat)(ws:List W)(i:Nat)(R:Rd w rb wb ws i):
  Calls prog 338 #[ah rb] w (rE w rb wb ws (jg ws i) λp w' e=>∃fv,e= .returned (.agg ((NQ p.oneof++ [fv]).toArray))/\w'.ownsRow w.heap.size 211 13 fv p.fields.length (p.fields.flatMap sF)):=by
 have⟨i0,Vz,VA,VB,VC⟩:=info_parts Tryz.info211;have A0:jr w.heap.size rb w (w.U5 #[aa 0,U7,aa 0,ai] 208) i:=jr.oB R.next (Vb w _);have R0:=R.alloc (am #[aa 0,U7,aa 0,ai] 208);have K0:=dX.new w #[aa 0,U7,aa 0,ai] 208;have n1:¬w.heap.size=rb:=by have:=R.blocks;omega
 have n3:¬rb=w.heap.size:=Vc;have z0:w.heap.size<(w.alloc (am #[aa 0,U7,aa 0,ai] 208)).heap.size:=Vd;generalize hr:jg ws i=r;have HR:Hid (jg ws i=r):=hr;clear hr;go_in
 go_wp2_with fail;refine(Fh _ rb wb ws i _ [111,110,101,111,102] R0 Vg Vf).V ?_
 cases h1:gu ws [111,110,101,111,102] i with
 |error p=>
  rintro e w1 ⟨rfl,j,A⟩;obtain rfl:r= .error p:=by rw[<-HR.o,jg,gi h1]
  unfold dY;go_wp2
  exact⟨rfl,rfl,j,A0.J A Vc⟩
 |ok q=>
  obtain⟨_,i1⟩:=q;rintro e w1 ⟨rfl,R1,A⟩;have z1:w.heap.size<w1.heap.size:=aI z0 A.size;have K1:=K0.adv_ A z0 n1;have A1:=A0.J A Vc;clear A R0 K0 A0 z0;go_wp2_with fail;refine(R9 _ rb wb ws i1 1 R1 Vf).V ?_
  cases h2:kM ws 1 i1 with
  |error p=>
   rintro e w2 ⟨rfl,j,A⟩;obtain rfl:r= .error p:=by rw[<-HR.o,jg,eK h1,gi h2]
   unfold dY;go_wp2
   exact⟨rfl,rfl,j,A1.J A Vc⟩
  |ok q=>
   obtain⟨x,i2⟩:=q;rintro e w2 ⟨rfl,R2,A⟩;have z2:w.heap.size<w2.heap.size:=aI z1 A.size;have K2:=(K1.adv_ A z1 n1).alloc (am #[aa (dV x.1),ag x.1,aa x.2,ai] 208);have J2:=dX.new w2 #[aa (dV x.1),ag x.1,aa x.2,ai] 208;have A2:=(A1.J A Vc).alloc (aE _) (am #[aa (dV x.1),ag x.1,aa x.2,ai] 208);have R3:=R2.alloc (am #[aa (dV x.1),ag x.1,aa x.2,ai] 208);have z3:w2.heap.size<(w2.alloc (am #[aa (dV x.1),ag x.1,aa x.2,ai] 208)).heap.size:=Vd;have n5:¬w2.heap.size=rb:=by have:=R.blocks;omega
   have n6:¬w2.heap.size=w.heap.size:=Vc;clear A R1 K1 A1 z1;go_wp2_with fail;refine(Fh _ rb wb ws i2 _ [123] R3 Vg Vf).V ?_
   cases h3:gu ws [123] i2 with
   |error p=>
    rintro e w3 ⟨rfl,j,A⟩;obtain rfl:r= .error p:=by rw[<-HR.o,jg,eK h1,eK h2,gi h3]
    unfold dY;go_wp2
    exact⟨rfl,rfl,j,A2.J A Vc⟩
   |ok q=>
    obtain⟨_,i3⟩:=q;rintro e w3 ⟨rfl,R4,A⟩;have z4:w2.heap.size<w3.heap.size:=aI z3 A.size;have K4:=K2.adv_ A Vc n1;have J4:=J2.adv_ A z3 n5;have A4:=A2.J A Vc;clear A R2 R3 K2 J2 A2 z3;go_wp2_with fail;have j3:=J4.cell 3
    cases h4:fX ws 3 i3 with
    |error p=>
     obtain rfl:r= .error p:=by rw[<-HR.o,jg,eK h1,eK h2,eK h3,gi h4]
     refine wp_region_held_drew (S:=λw'=>w'.cell? (aj w2.heap.size 3)=some (ai)) Vh (by simpa using j3) (λhHeld=> ?_);refine ie 0 (.pointer (some (aj w2.heap.size 3))) rfl Vh (λ_ _ _ h=>h) (Or.inl ⟨Vi,λw Vs=>by dsimp only at Vs;go_simp⟩) hHeld ?_;refine ie 1 (ai) rfl Vh (λ_ _ _ h=>h) (Or.inl ⟨Vi,λw Vs=>by dsimp only at Vs;go_simp⟩) hHeld ?_;refine ie 2 (ah rb) rfl Vh (λ_ _ _ h=>h) (Or.inl ⟨Vi,λw Vs=>by dsimp only at Vs;go_simp⟩) hHeld ?_;simp only[Act.put,U6];refine wpAnyH_ready (rs:= [3]) Vh Vd (AllReadyH.cons rfl (λK hK=> ?_) AllReadyH.nil);clear hK;go_simp;refine(NS _ rb wb ws i3 3 R4.drew).V ?_;rw[h4];rintro e w4 ⟨rfl,j,A⟩
     exact⟨rfl,rfl,j,A4.drew.J A Ve⟩
    |ok q=>
     obtain⟨f,i4⟩:=q;have HF:Hid (sF f=_):=rW h4;obtain⟨M,HM⟩:∃M,Hid (nO [f] (gI (gk ws [125]) (fX ws 3) ws.length i4)=M):=⟨_,rfl⟩;have Vx:Hid ((gM M λl i=>gM (gu ws [125] i) λ_ i=> .ok (⟨some x,l⟩,i))=r):=(by have:=HR.o;rw[jg,eK h1,eK h2,eK h3,eK h4,HM.o]at this;exact this);clear HR h1 h2 h3;go_cut []from 11 to 17 (λwr=>∃(n k:Nat) (fs:List eU) (fv:Value),fs.length<=k/\ws.length-k<=n/\Hid (nO fs (gI (gk ws [125]) (fX ws 3) n k)=M)/\Rd wr rb wb ws k/\jr w.heap.size rb w wr k/\dX wr w.heap.size #[aa 0,U7,aa 0,ai] 208/\dX wr w2.heap.size #[aa (dV x.1),ag x.1,aa x.2,fv] 208/\wr.ownsRow (w2.heap.size+1) 211 13 fv fs.length (fs.flatMap sF)/\w2.heap.size<wr.heap.size)
     case first=>
      have J:=J4;have RR:=R4;have HO:Hid (some w2.heap.size≠(Value.slice none 0 0).ownBlock):=by simp[Hid,Value.ownBlock]
      go_region_law (first|(refine step_append_lies _ Vi _ _ _ Vi (w2.heap.size+1) 211 i0 _ 13 136 underlying206 Vz VA VB VC rfl Vc (ai) 0 [] Vi (br _ _ _ _) (aj w4.heap.size 0) 1 1 [_,_,_,_,_,_,_,_,_,_,_,_,_] Vi Vi (bz (t:=211) (fr:=(0,0)) (heap_alloc_new w4 _)) Vk Vc Vj Vc (by have:=A.size;simp at this⊢;omega) (w4.heap.size+1) Vd ?_;intro gg cap w5 Vt Vp VH VI;have⟨x1,x2⟩:=(((J.drew.adv_ A Ve n5).alloc _).grown Vp HO.o).I)|(go_simp;go_at_call 341;refine(NS _ rb wb ws i3 3 RR.drew).V ?_;rw[h4];rintro e w4 ⟨rfl,R5,A⟩;have⟨y1,y2⟩:=(J.drew.adv_ A Ve n5).I;have⟨y3,y4,y5,y6⟩:=gT (w:=w4) (b:=w2.heap.size) (by have:=A.size;simp at this;omega)))
      all_goals
       go_wp2;go_meet
       case rel=>
        go_light;have VD:w3.heap.size<=w4.heap.size:=by have:=A.size;simpa using this
        have A6:=((((A4.drew.J A Ve).alloc (aE _) _).grown Vp (aE _) (λk hk=>by simp[Value.ownBlock]at hk))).setCell (a:=(aj w2.heap.size 3)) Ve (U9 gg (0+1) cap);have hlt2:i3<i4:=lJ _ _ _ _ _ h4;refine⟨ws.length,i4,[f],U9 gg (0+1) cap,Ve,Vc,HM,A6.rd R R.blocks.1 R.blocks.2 R5.lt,A6,?_,?_,?_,?_⟩;.exact(((K4.drew.adv_ A Ve n1).alloc _).grown Vp (by simp[Value.ownBlock])).other 3 _ n6
        .exact(((J4.drew.adv_ A Ve n5).alloc _).grown Vp (by simp[Value.ownBlock])).set 3 _
        .have:=ownsRow_setCell_below Vt (a:=(aj w2.heap.size 3)) Vd (U9 gg (0+1) cap);simpa [HF.o]using this
        .have:=Vp.size;simp[World.setCell]at this⊢;omega
     case rest=>
      clear J4 R4 K4 A4 z4 j3 h4 HF HM;go_wp2;go_loopw [20] (λ_ wr=>∃(n k:Nat) (fs:List eU) (fv:Value),fs.length<=k/\ws.length-k<=n/\Hid (nO fs (gI (gk ws [125]) (fX ws 3) n k)=M)/\Rd wr rb wb ws k/\jr w.heap.size rb w wr k/\dX wr w.heap.size #[aa 0,U7,aa 0,ai] 208/\dX wr w2.heap.size #[aa (dV x.1),ag x.1,aa x.2,fv] 208/\wr.ownsRow (w2.heap.size+1) 211 13 fv fs.length (fs.flatMap sF)/\w2.heap.size<wr.heap.size) (λ_ wr=>ws.length-js rb wr)
      case atStart=>exact hcut
      case round=>
       clear hcut;obtain⟨n,k,fs,fv,hfl,hn,HP,RR,AA,KK,J,Vu,hz⟩:=hrel;have hk:=RR.lt;have hfew:=RR.few;have Vy:=RR.nextOf;have HN:Hid (js rb wr=k):=Vy;clear Vy;have⟨y,hy⟩:=RR.word;cases hs:(y.1.toList== [125])
       .have Vw:gk ws [125] k=false:=by unfold gk;simp only[hy,hs]
        have HY:Hid (ws[k]?=some y):=hy;clear hy;go_wp2_with fail;refine(NC _ rb wb ws k y _ RR HY.o).V ?_;rintro e w3 ⟨rfl,Vr⟩;rw[show(ByteArray.mk #[125]).toList= [125]from by decide+kernel];have R3:=RR.G Vr RR.blocks.1 RR.blocks.2;have A3:=AA.G Vr AA.size;have K3:=KK.G Vr KK.lt;have J3:=J.G Vr J.lt;have Vq:w3.ownsRow (w2.heap.size+1) 211 13 fv fs.length (fs.flatMap sF):=eX Vr Vu;have VE:w2.heap.size<w3.heap.size:=aI hz Vr.size;have HO:Hid (some w2.heap.size≠fv.ownBlock):=(by intro e;have:=(Vq.lt _ e.sy).1;omega);clear RR AA KK J Vu hz Vr;go_wp2_with fail;have j3:=J3.cell 3
        cases h4:fX ws 3 k with
        |error p=>
         obtain rfl:r= .error p:=(by rw[<-Vx.o,<-HP.o,qP Vw Vc h4];rfl);refine wp_region_held_drew (S:=λw'=>w'.cell? (aj w2.heap.size 3)=some fv) Vh (by simpa using j3) (λhHeld=> ?_);refine ie 0 (.pointer (some (aj w2.heap.size 3))) rfl Vh (λ_ _ _ h=>h) (Or.inl ⟨Vi,λw Vs=>by dsimp only at Vs;go_simp⟩) hHeld ?_;refine ie 1 fv rfl Vh (λ_ _ _ h=>h) (Or.inl ⟨Vi,λw Vs=>by dsimp only at Vs;go_simp⟩) hHeld ?_;refine ie 2 (ah rb) rfl Vh (λ_ _ _ h=>h) (Or.inl ⟨Vi,λw Vs=>by dsimp only at Vs;go_simp⟩) hHeld ?_;simp only[Act.put,U6];refine wpAnyH_ready (rs:= [3]) Vh Vd (AllReadyH.cons rfl (λK hK=> ?_) AllReadyH.nil);clear hK;go_simp;refine(NS _ rb wb ws k 3 R3.drew).V ?_;rw[h4];rintro e w4 ⟨rfl,j,A⟩
         exact⟨rfl,rfl,j,A3.drew.J A (by have:=A3.size;simp;omega)⟩
        |ok q=>
         obtain⟨f,k1⟩:=q;have HF:Hid (sF f=_):=rW h4;have hk1:k<k1:=lJ _ _ _ _ _ h4;have VF:Hid (nO (fs++ [f]) (gI (gk ws [125]) (fX ws 3) (n-1) k1)=M):=(by rw[<-HP.o,sK fs Vw Vc h4];exact rfl);have J:=J3;have RR:=R3;go_region_law (first|(refine step_append_lies _ Vi _ _ _ Vi (w2.heap.size+1) 211 i0 _ 13 136 underlying206 Vz VA VB VC rfl Vc fv fs.length (fs.flatMap sF) Vi ((jU A (aE _) (by have:=R.blocks;omega) (pd Vq)).alloc _) (aj w4.heap.size 0) 1 1 [_,_,_,_,_,_,_,_,_,_,_,_,_] Vi Vi (bz (t:=211) (fr:=(0,0)) (heap_alloc_new w4 _)) Vk Vc Vj Vc (by have:=A.size;simp at this⊢;omega) (w4.heap.size+1) Vd ?_;intro gg cap w5 Vt Vp VH VI;have⟨x1,x2⟩:=(((J.drew.adv_ A Ve n5).alloc _).grown Vp HO.o).I)|(go_simp;go_at_call 341;refine(NS _ rb wb ws k 3 RR.drew).V ?_;rw[h4];rintro e w4 ⟨rfl,R5,A⟩;have⟨y1,y2⟩:=(J.drew.adv_ A Ve n5).I;have⟨y3,y4,y5,y6⟩:=gT (w:=w4) (b:=w2.heap.size) (by have:=A.size;simp at this;omega)))
         all_goals
          go_wp2;go_roundw
          case rel=>
           go_light;have VD:w3.heap.size<=w4.heap.size:=by have:=A.size;simpa using this
           have VG:=Vp.size;have A6:=((((A3.drew.J A (by have:=A3.size;simp;omega)).alloc (aE _) _).grown Vp (aE _) (λj hj=>by have:=(Vq.lt j hj).1;omega))).setCell (a:=(aj w2.heap.size 3)) Ve (U9 gg (fs.length+1) cap);refine⟨n-1,k1,fs++ [f],U9 gg (fs.length+1) cap,Ve,Vc,VF,A6.rd R R.blocks.1 R.blocks.2 R5.lt,A6,?_,?_,?_,?_⟩;.exact(((K3.drew.adv_ A Ve n1).alloc _).grown Vp (λe=>by have:=(Vq.lt _ e.sy).1;omega)).other 3 _ n6
           .exact(((J3.drew.adv_ A Ve n5).alloc _).grown Vp HO.o).set 3 _
           .have:=ownsRow_setCell_below Vt (a:=(aj w2.heap.size 3)) Vd (U9 gg (fs.length+1) cap);simpa [HF.o]using this
           .simp[World.setCell]at VG⊢;omega
          case measure=>
           go_light;have A6:=((((A3.drew.J A (by have:=A3.size;simp;omega)).alloc (aE _) _).grown Vp (aE _) (λj hj=>by have:=(Vq.lt j hj).1;omega))).setCell (a:=(aj w2.heap.size 3)) Ve (U9 gg (fs.length+1) cap);have R6:=A6.rd R R.blocks.1 R.blocks.2 R5.lt;have h6:=R6.lt;rw[R6.nextOf,HN.o];omega
       .have Vw:gk ws [125] k=true:=by unfold gk;simp only[hy,hs]
        have h5:gu ws [125] k= .ok ((),k+1):=by unfold gu;simp only[hy,hs];rfl
        have HY:Hid (ws[k]?=some y):=hy;clear hy;obtain rfl:r= .ok (⟨some x,fs⟩,k+1):=(by rw[<-Vx.o,<-HP.o,o9 Vw];simp only[nO,gM,h5,bW]);go_wp2_with fail;refine(NC _ rb wb ws k y _ RR HY.o).V ?_;rintro e w3 ⟨rfl,Vr⟩;rw[show(ByteArray.mk #[125]).toList= [125]from by decide+kernel];have R3:=RR.G Vr RR.blocks.1 RR.blocks.2;have A3:=AA.G Vr AA.size;have K3:=KK.G Vr KK.lt;have J3:=J.G Vr J.lt;have Vq:w3.ownsRow (w2.heap.size+1) 211 13 fv fs.length (fs.flatMap sF):=eX Vr Vu;have VE:w2.heap.size<w3.heap.size:=aI hz Vr.size;clear RR AA KK J Vu hz Vr;go_wp2_with fail;refine(Fh _ rb wb ws k _ [125] R3 Vg Vf).V ?_;rw[h5];rintro e w4 ⟨rfl,R4,A⟩;have K4:=K3.adv_ A Vc n1;have J4:=J3.adv_ A Vc n5;have A4:=A3.J A A3.size;have Vv:w4.ownsRow (w2.heap.size+1) 211 13 fv fs.length (fs.flatMap sF):=jU A (aE _) (by have:=R.blocks;omega) Vq;obtain⟨fa,fn,fc,rfl⟩:=d5 Vv;have⟨k1,k2⟩:=K4.I;have⟨j1,j2⟩:=J4.I;go_wp2;have A9:=A4.sets (b:=w.heap.size) (aE _) [aa (dV x.1),ag x.1,aa x.2,.slice fa fn fc] 0;have K9:=K4.sets_all [aa (dV x.1),ag x.1,aa x.2,.slice fa fn fc] rfl;refine dR (el results338 _ _ rfl K9 underlying208 Vh) rfl ⟨⟨_,rfl,?_⟩,?_,A9⟩;.exact j9 (lo:=w.heap.size) Vv (b:=w.heap.size) (Nat.lt_succ_of_lt z2) (Nat.le_succ_of_le (cq z2)) [aa (dV x.1),ag x.1,aa x.2,.slice fa fn fc] 0
        .exact A9.rd R R.blocks.1 R.blocks.2 R4.lt
end
section
attribute [local go_sem] jQ jR jS
def mU:Option W->Int
 |some x=>dV x.1
 |none=>0
def jK:Option W->au
 |some x=>x.1
 |none=>⟨#[]⟩
def nS:Option W->Nat
 |some x=>x.2
 |none=>0
abbrev FC (f:eU):aq:= #[aa f.form,aa (mU f.key),ag (jK f.key),aa (nS f.key),aa (dV f.type.1),ag f.type.1,aa f.type.2,aa (dV f.name.1),ag f.name.1,aa f.name.2,aa (dV f.num.1),ag f.num.1,aa f.num.2]
abbrev FO (f:eU):Obj:=Obj.cells (FC f) 211
def NT (o:Option W):NQ o= [aa (mU o),ag (jK o),aa (nS o)]:=by cases o<;>rfl
def GP (w:aw)(p:fI)(w':aw)(e:Ending):Prop:=
 ∃fa fn fc,e= .returned (.agg #[aa (mU p.oneof),ag (jK p.oneof),aa (nS p.oneof),.slice fa fn fc])/\w'.ownsRow w.heap.size 211 13 (.slice fa fn fc) p.fields.length (p.fields.flatMap sF)
def Tt (w:aw)(rb wb:Nat)(ws:List W)(i:Nat)(R:Rd w rb wb ws i):
  U8 338 #[ah rb] w (rE w rb wb ws (jg ws i) (GP w)):=by
 refine(Uv w rb wb ws i R).V λe w' h=> ?_
 cases hf:jg ws i with
 |error p=>rw[hf]at h;exact h
 |ok q=>
  obtain⟨p,j⟩:=q;rw[hf]at h;obtain⟨⟨fv,h1,h3⟩,h2⟩:=h;obtain⟨fa,fn,fc,rfl⟩:=d5 h3;exact⟨⟨fa,fn,fc,by rw[h1,NT];rfl,h3⟩,h2⟩
def xt {ws:List W}{i:Nat}{x:W}(s:ap)(h:ws[i]?=some x):gk ws s i=(x.1.toList==s):=by unfold gk;simp only[h]
abbrev PZ:aq:= #[aa 0,U7,aa 0,ai]
def Uc (w:aw)(rb wb:Nat)(ws:List W)(i:Nat)(R:Rd w rb wb ws i):
  Calls prog 259 #[ah rb] w (rE w rb wb ws (kA ws i) (GP w)):=by
 have⟨x,hx⟩:=R.word;have HX:Hid (ws[i]?=some x):=hx;have A0:jr w.heap.size rb w (w.alloc (Obj.cells PZ 208)) i:=jr.oB R.next (Vb w _);have R0:=R.alloc (Obj.cells PZ 208);have K0:=dX.new w PZ 208;have n1:¬w.heap.size=rb:=by have:=R.blocks;omega
 have n3:¬rb=w.heap.size:=Vc;have z0:w.heap.size<(w.alloc (Obj.cells PZ 208)).heap.size:=Vd;obtain⟨r,HR⟩:∃r,Hid (kA ws i=r):=⟨_,rfl⟩;rw[HR.o];have hp:kA ws i=r:=HR.o;unfold kA at hp;simp only[xt _ hx]at hp;have HP:Hid _:=hp;have hz:∀s:ap,(x.1.toList==s)=true->0<s.length->0<x.1.size:=λs h hl=>sI h hl
 have HZ:Hid _:=hz;clear hx hp hz;go_in
 go_wp2_with fail;refine(Ny _ rb wb ws i x R0 HX.o).V ?_;rintro e w1 ⟨rfl,Vs⟩;have R1:=R0.G Vs R0.blocks.1 R0.blocks.2;have A1:=A0.G Vs (cq z0);have K1:=K0.G Vs z0;have z1:w.heap.size<w1.heap.size:=aI z0 Vs.size;clear R0 A0 K0 z0 Vs
 cases t0:(x.1.toList== [111,110,101,111,102])with
 |true=>
  have HO:Hid (jg ws i=r):=by have:=HP.o;rw[t0]at this;exact this
  go_wp2_with fail;refine(Tt _ rb wb ws i R1).V ?_
  cases h1:jg ws i with
  |error p=>
   rintro e w2 ⟨rfl,j,A⟩;obtain rfl:r= .error p:=HO.o.sy.J h1;unfold dY;go_wp2
   exact⟨rfl,rfl,j,A1.J A Vc⟩
  |ok q=>
   obtain⟨p,i1⟩:=q;rintro e w2 ⟨⟨fa,fn,fc,rfl,Vp⟩,R2,A⟩;obtain rfl:r= .ok (p,i1):=HO.o.sy.J h1;have K9:=K1.adv_ A z1 n1;have A9:=A1.J A Vc;have⟨k1,k2⟩:=K9.I;go_wp2;have Vq:=A9.sets (b:=w.heap.size) (aE _) [aa (mU p.oneof),ag (jK p.oneof),aa (nS p.oneof),.slice fa fn fc] 0;have Vt:=K9.sets_all [aa (mU p.oneof),ag (jK p.oneof),aa (nS p.oneof),.slice fa fn fc] rfl;refine dR (el results259 _ _ rfl Vt underlying208 Vh) rfl ⟨⟨fa,fn,fc,rfl,?_⟩,?_,Vq⟩;.exact j9 (lo:=w.heap.size) Vp (b:=w.heap.size) z1 (cq z1) [aa (mU p.oneof),ag (jK p.oneof),aa (nS p.oneof),.slice fa fn fc] 0
   .exact Vq.rd R R.blocks.1 R.blocks.2 R2.lt
 |false=>
  rw[t0]at HP
  have hc:(x.1.toList== [109,97,112])=true\/((x.1.toList== [109,97,112])=false/\(x.1.toList== [114,101,112,101,97,116,101,100])=true)\/((x.1.toList== [109,97,112])=false/\(x.1.toList== [114,101,112,101,97,116,101,100])=false/\(x.1.toList== [111,112,116,105,111,110,97,108])=true)\/((x.1.toList== [109,97,112])=false/\(x.1.toList== [114,101,112,101,97,116,101,100])=false/\(x.1.toList== [111,112,116,105,111,110,97,108])=false):=by
   generalize(x.1.toList== [109,97,112])=a;generalize(x.1.toList== [114,101,112,101,97,116,101,100])=b;generalize(x.1.toList== [111,112,116,105,111,110,97,108])=c
   revert a b c;decide
  rcases hc with t1|⟨t1,t2⟩|⟨t1,t2,t3⟩|⟨t1,t2,t3⟩;have HA:Hid (mw (nN ws i)=r):=by have:=HP.o;rw[t1]at this;exact this
  have H:=Ut _ rb wb ws i R1;generalize nN ws i=X at*;go_wp2_with fail;refine H.V ?_;rotate_left;have HA:Hid (mw (fX ws 2 (i+1))=r):=by have:=HP.o;rw[t1,t2]at this;exact this
  go_wp2_with fail;refine(Sg _ rb wb ws i x R1 HX.o (HZ.o _ t2 Vf)).V ?_;rintro e w2 ⟨rfl,R2,A⟩;replace K1:=K1.adv_ A z1 n1;replace A1:=A1.J A Vc;replace z1:w.heap.size<w2.heap.size:=aI z1 A.size;clear A R1;have H:=Ta _ rb wb ws (i+1) 2 R2;generalize fX ws 2 (i+1)=X at*;go_wp2_with fail;refine H.V ?_;rotate_left;have HA:Hid (mw (fX ws 1 (i+1))=r):=by have:=HP.o;rw[t1,t2,t3]at this;exact this
  go_wp2_with fail;refine(Sg _ rb wb ws i x R1 HX.o (HZ.o _ t3 Vf)).V ?_;rintro e w2 ⟨rfl,R2,A⟩;replace K1:=K1.adv_ A z1 n1;replace A1:=A1.J A Vc;replace z1:w.heap.size<w2.heap.size:=aI z1 A.size;clear A R1;have H:=Ta _ rb wb ws (i+1) 1 R2;generalize fX ws 1 (i+1)=X at*;go_wp2_with fail;refine H.V ?_;rotate_left;have HA:Hid (mw (fX ws 0 i)=r):=by have:=HP.o;rw[t1,t2,t3]at this;exact this
  have H:=Ta _ rb wb ws i 0 R1;generalize fX ws 0 i=X at*;go_wp2_with fail;refine H.V ?_
  all_goals
   clear H;rcases X with p|⟨f,i1⟩;.rintro e w3 ⟨rfl,j,A⟩;obtain rfl:r= .error p:=HA.o.sy;unfold dY;go_wp2;exact⟨rfl,rfl,j,A1.J A Vc⟩
   .rintro e w3 ⟨rfl,R3,A⟩;obtain rfl:r= .ok (⟨none,[f]⟩,i1):=HA.o.sy;have K3:=K1.adv_ A z1 n1;have A3:=A1.J A Vc;have z3:w.heap.size<w3.heap.size:=aI z1 A.size;clear A;go_wp2_with fail;refine(Uu _ f).V ?_;rintro e w4 ⟨fv,rfl,Vp,Vu⟩;obtain⟨fa,fn,fc,rfl⟩:=d5 Vp;have Vr:w4.ownsRow w3.heap.size 211 13 (.slice fa fn fc) [f].length ([f].flatMap sF):=by simpa using Vp
    have K9:=K3.G Vu z3;have A9:=A3.G Vu (cq z3);have⟨k1,k2⟩:=K9.I;go_wp2;have Vq:=A9.sets (b:=w.heap.size) (aE _) [aa 0,U7,aa 0,.slice fa fn fc] 0;have Vt:=K9.sets_all [aa 0,U7,aa 0,.slice fa fn fc] rfl;refine dR (el results259 _ _ rfl Vt underlying208 Vh) rfl ⟨⟨fa,fn,fc,rfl,?_⟩,?_,Vq⟩;.exact j9 (lo:=w.heap.size) Vr (b:=w.heap.size) z3 (cq z3) [aa 0,U7,aa 0,.slice fa fn fc] 0
    .exact Vq.rd R R.blocks.1 R.blocks.2 R3.lt
end
section
variable {w w':aw} {base k n:Nat} {T:TypeId} {v:Value} {xs:ay} {S S':ax} {b:d7} {a:aC}
def Fd (x:W×W):ay:=xq x.1++xq x.2
def eO (w:aw)(S:ax)(T:TypeId)(k:Nat)(v:Value)(n:Nat)(xs:ay):Prop:=
 w.ownsRow 0 T k v n xs/\∀b,v.ownBlock=some b->S b
theorem ew (h:w.ownsRow base T k v n xs)(hk:∀b,v.ownBlock=some b->w'.heap[b]?=w.heap[b]?):w'.ownsRow base T k v n xs:=by
 refine⟨h.1,?_⟩;rcases h.2 with h2|⟨g,cap,Vp,rfl,h3,h4,h5⟩;.exact .inl h2
 .exact .inr ⟨g,cap,Vp,rfl,h3,(hk g rfl).J h4,h5⟩
theorem eO.O (h:eO w S T k v n xs)(hk:∀b,S b->b<w.heap.size->w'.heap[b]?=w.heap[b]?):eO w' S T k v n xs:=
 ⟨ew h.1 λb hb=>hk b (h.2 b hb) (h.1.lt b hb).2,h.2⟩
theorem eO.V (h:eO w S T k v n xs)(hs:∀b,S b->b<w.heap.size->S' b):eO w S' T k v n xs:=
 ⟨h.1,λb hb=>hs b (h.2 b hb) (h.1.lt b hb).2⟩
theorem eO.of (h:w.ownsRow base T k v n xs):eO w (λb=>base<=b) T k v n xs:=
 ⟨ph h (aP _),λb hb=>(h.lt b hb).1⟩
def fL (w:aw)(S:ax):ay->List fI->Prop
 |cs,[]=>cs= []
 |cs,p::ps=>∃fa fn fc rest,cs=aa (mU p.oneof)::ag (jK p.oneof)::aa (nS p.oneof):: .slice fa fn fc::rest/\
   eO w S 211 13 (.slice fa fn fc) p.fields.length (p.fields.flatMap sF)/\fL w S rest ps
theorem fL.O (hk:∀b,S b->b<w.heap.size->w'.heap[b]?=w.heap[b]?):∀{ps:List fI} {cs:ay},fL w S cs ps->fL w' S cs ps
 | [],_,h=>h
 |_::_,_,⟨fa,fn,fc,rest,h1,h2,h3⟩=>⟨fa,fn,fc,rest,h1,h2.O hk,fL.O hk h3⟩
theorem fL.V (hs:∀b,S b->b<w.heap.size->S' b):∀{ps:List fI} {cs:ay},fL w S cs ps->fL w S' cs ps
 | [],_,h=>h
 |_::_,_,⟨fa,fn,fc,rest,h1,h2,h3⟩=>⟨fa,fn,fc,rest,h1,h2.V hs,fL.V hs h3⟩
theorem fL.snoc {p:fI}{fa:aC}{fn fc:Nat}(h2:eO w S 211 13 (.slice fa fn fc) p.fields.length (p.fields.flatMap sF)):∀{ps:List fI} {cs:ay},fL w S cs ps->
   fL w S (cs++ [aa (mU p.oneof),ag (jK p.oneof),aa (nS p.oneof),.slice fa fn fc]) (ps++ [p])
 | [],cs,h=>by
  obtain rfl:cs= []:=h
  exact⟨fa,fn,fc,[],rfl,h2,rfl⟩
 |_::_,cs,⟨ga,gn,gc,rest,h1,h3,h4⟩=>by
  subst h1;exact⟨ga,gn,gc,_,rfl,h3,fL.snoc h2 h4⟩
def ka (w:aw)(S:ax)(b:d7)(pv vv:Value):Prop:=
 ∃pcs,eO w S 208 4 pv b.parts.length pcs/\fL w S pcs b.parts/\eO w S 302 6 vv b.values.length (b.values.flatMap Fd)
theorem ka.O {pv vv:Value}(hk:∀b,S b->b<w.heap.size->w'.heap[b]?=w.heap[b]?):ka w S b pv vv->ka w' S b pv vv
 |⟨pcs,h1,h2,h3⟩=>⟨pcs,h1.O hk,h2.O hk,h3.O hk⟩
theorem ka.V {pv vv:Value}(hs:∀b,S b->b<w.heap.size->S' b):ka w S b pv vv->ka w S' b pv vv
 |⟨pcs,h1,h2,h3⟩=>⟨pcs,h1.V hs,h2.V hs,h3.V hs⟩
def ft (w:aw)(S:ax):ay->List d7->Prop
 |cs,[]=>cs= []
 |cs,b::bs=>∃pa pn pc va vn vc rest,cs= .bool b.enum::aa (dV b.name.1)::ag b.name.1::aa b.name.2:: .slice pa pn pc:: .slice va vn vc::rest/\
   ka w S b (.slice pa pn pc) (.slice va vn vc)/\ft w S rest bs
theorem ft.O (hk:∀b,S b->b<w.heap.size->w'.heap[b]?=w.heap[b]?):∀{bs:List d7} {cs:ay},ft w S cs bs->ft w' S cs bs
 | [],_,h=>h
 |_::_,_,⟨pa,pn,pc,va,vn,vc,rest,h1,h2,h3⟩=>⟨pa,pn,pc,va,vn,vc,rest,h1,h2.O hk,ft.O hk h3⟩
theorem ft.V (hs:∀b,S b->b<w.heap.size->S' b):∀{bs:List d7} {cs:ay},ft w S cs bs->ft w S' cs bs
 | [],_,h=>h
 |_::_,_,⟨pa,pn,pc,va,vn,vc,rest,h1,h2,h3⟩=>⟨pa,pn,pc,va,vn,vc,rest,h1,h2.V hs,ft.V hs h3⟩
theorem ft.snoc {pa va:aC}{pn pc vn vc:Nat}(h2:ka w S b (.slice pa pn pc) (.slice va vn vc)):∀{bs:List d7} {cs:ay},ft w S cs bs->
   ft w S (cs++ [.bool b.enum,aa (dV b.name.1),ag b.name.1,aa b.name.2,.slice pa pn pc,.slice va vn vc]) (bs++ [b])
 | [],cs,h=>by
  obtain rfl:cs= []:=h
  exact⟨pa,pn,pc,va,vn,vc,[],rfl,h2,rfl⟩
 |_::_,cs,⟨qa,qn,qc,ra,rn,rc,rest,h1,h3,h4⟩=>by
  subst h1;exact⟨qa,qn,qc,ra,rn,rc,_,rfl,h3,ft.snoc h2 h4⟩
def p6 (w:aw)(b:d7)(w':aw)(e:Ending):Prop:=
 ∃pa pn pc va vn vc,e= .returned (.agg #[.bool b.enum,aa (dV b.name.1),ag b.name.1,aa b.name.2,.slice pa pn pc,.slice va vn vc])/\
  ka w' (λx=>w.heap.size<=x) b (.slice pa pn pc) (.slice va vn vc)
def NU (w:aw)(bs:List d7)(w':aw)(e:Ending):Prop:=
 ∃a n c cs,e= .returned (.agg #[.slice a n c])/\eO w' (λx=>w.heap.size<=x) 152 6 (.slice a n c) bs.length cs/\ft w' (λx=>w.heap.size<=x) cs bs
theorem Tryz.info302:(prog.info? 302).map (λi=>(i.zero,i.size,i.bytes))=some (some (.agg #[aa 0,U7,aa 0,aa 0,U7,aa 0]),6,64):=Vh
theorem Tryz.info208:(prog.info? 208).map (λi=>(i.zero,i.size,i.bytes))=some (some (.agg #[aa 0,U7,aa 0,ai]),4,56):=Vh
theorem Tryz.info152:(prog.info? 152).map (λi=>(i.zero,i.size,i.bytes))=some (some (.agg #[.bool false,aa 0,U7,aa 0,ai,ai]),6,88):=Vh
theorem fh {m:Nat}{c:Nat}(h:w.ownsRow base T k (.slice a n c) m xs):n=m:=by
 rcases h.2 with⟨h1,h2⟩|⟨g,cap,Vp,h1,h2⟩;.cases h1;exact h2.sy
 .cases h1;rfl
theorem iz {m:Nat}(h:w.ownsRow base T k v m xs):∃a c,v= .slice a m c:=by
 obtain⟨a,n,c,rfl⟩:=d5 h;rw[fh h];exact⟨a,c,rfl⟩
theorem eH {m:Nat}{c:Nat}(h:w.ownsRow base T k (.slice a n c) m xs)(hm:0<m):
  ∃g,a=some (aj g 0)/\base<=g/\g<w.heap.size/\∀w':aw,w'.heap[g]?=w.heap[g]?->∀j u,xs[j]?=some u->w'.cell? (aj g j)=some u:=by
 rcases h.2 with⟨h1,h2⟩|⟨g,cap,Vp,h1,h2,h3,h4,h5,h6,h7⟩;.omega
 .cases h1;refine⟨g,rfl,h2,dX.lt h3,λw' hw j u hj=> ?_⟩;have hb:dX w' g Vp T:=hw.J h3;rw[hb.cell];rw[<-h7,List.getElem?_take]at hj;split at hj;.rw[<-bO];exact hj
  .simp at hj
def fS (l:aA):ay:=l.map Value.string
theorem im {a b:aw}(h:Below n a b)(k:Nat):Below n a (b.drewN k):=h.J ⟨rfl,rfl,rfl,aE _,λ_ _=>rfl⟩
theorem Tryz.info9:(prog.info? 9).map (λi=>(i.zero,i.size,i.bytes))=some (some (U7),1,16):=Vh
theorem fY {α:Type}(f:α->ay)(k:Nat)(hk:∀x,(f x).length=k):∀(l:List α) (i:Nat) (x:α),l[i]?=some x->∀j,j<k->(l.flatMap f)[i*k+j]?=(f x)[j]?
 | [],i,x,h,j,hj=>by simp at h
 |y::l,0,x,h,j,hj=>by
  simp at h;subst h
  rw[bt,Nat.zero_mul,Nat.zero_add,cA (by rw[hk];exact hj)]
 |y::l,i+1,x,h,j,hj=>by
  rw[bt,cj (by rw[hk,Nat.succ_mul];omega),hk];have:=fY f k hk l i x (by simpa using h) j hj;rw[<-this];congr 1;rw[Nat.succ_mul];omega
def ig (k:Int)(s:au):Bool:=k==3&&(!(s.toList== [102,108,111,97,116])&&(!(s.toList== [100,111,117,98,108,101])&& !(s.toList== [98,121,116,101,115])))
end
end Go.Proofs.YtfebdimolnobaaaGreatDoor
