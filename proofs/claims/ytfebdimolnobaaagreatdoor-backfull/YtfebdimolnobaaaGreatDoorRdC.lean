import Derived.Test.YtfebdimolnobaaaGreatDoorAl
import Derived.Deep.RegionHeld3
import Derived.Deep.RegionLaw
import Derived.Deep.CutRange
import Derived.Deep.Light
import Derived.Deep.Draws
import Derived.Maps.OwnSet
import Derived.Maps.OwnOps
import Derived.Shelf.Pu.ParseUintPublic10
import Derived.BigQuiet
import Derived.Shelf.SlSortCmp.WholeK
set_option maxRecDepth 100000
set_option maxHeartbeats 8000000
set_option linter.all false
namespace Go.Proofs.YtfebdimolnobaaaGreatDoor
open Go.RowKit Go.Proofs.Tryz
section
attribute [local go_sem] jS jT jU
def rW {α:Type}(w:aw)(rb wb:Nat)(ws:List W)(r:oF α)(b:α->aw->Ending->Prop)(e:Ending)(w':aw):Prop:=
 match r with
 | .ok (a,j)=>b a w' e/\Rd w' rb wb ws j/\jD w.heap.size rb w w' j
 | .error p=>e=d5 2 p/\∃j,jD w.heap.size rb w w' j
def Rd.word {w:aw}{rb wb i:Nat}{ws:List W}(R:Rd w rb wb ws i):∃x,ws[i]?=some x:=⟨_,aO R.lt⟩
def Sq (w:aw)(rb wb:Nat)(ws:List W)(i:Nat)(k:Int)(R:Rd w rb wb ws i)(b:k≠4):
  Vq 257 #[ah rb,aa k] w (rW w rb wb ws (kO ws k i) λx _ e=>e= .returned (.agg #[aa (dX x.1),ag x.1,aa x.2])):=by
 have⟨x,a⟩:=R.word;unfold kO;simp only[a];by_cases h:dX x.1=k;.rw[dR (by simpa using h)];exact(QF w rb wb ws i x k R a (by simp[h]) (sJ (by rw[h];exact b))).V λe w' h=>h
 .rw[dQ (by simpa using h)];exact(QG w rb wb ws i x k R a (by simpa using h)).V λe w' h=>⟨h.1,_,h.2⟩
def Fk (w:aw)(rb wb:Nat)(ws:List W)(i:Nat)(s:au)(l:ap)(R:Rd w rb wb ws i)(b:s.toList=l)(c:0<l.length):
  Vq 256 #[ah rb,ag s] w (rW w rb wb ws (gw ws l i) λ_ _ e=>e= .returned (.tuple #[])):=by
 have⟨x,a⟩:=R.word;unfold gw;simp only[a];by_cases h:(x.1.toList==l)=true;.rw[dR h];exact(QD w rb wb ws i x s R a (by rw[b];exact h) (sK h c)).V λe w' h=>h
 .rw[dQ h];exact(QE w rb wb ws i x s R a (by rw[b];simpa using h)).V λe w' h=>⟨h.1,_,h.2⟩
def lT {n rb:Nat}{w w1:aw}{j b:Nat}(h:jD n rb w w1 j)(d:b<n)(c:b≠rb):(∀off,w1.cell? (aj b off)=w.cell? (aj b off))/\(∀off,w1.frozen? (aj b off)=w.frozen? (aj b off)):=
 ⟨λoff=>h.cell (a:=(aj b off)) d c,λoff=>(Below.frozen h (p:=(aj b off)) d).J (World.frozen?_setCell _ _ _ _)⟩
def TI (w:aw)(rb wb:Nat)(ws:List W)(i:Nat)(R:Rd w rb wb ws i):
  Calls prog 401 #[ah rb] w (rW w rb wb ws (pN ws i) λx _ e=>e= .returned (.agg #[aa (dX x.1),ag x.1,aa x.2])):=by
 have⟨x,g⟩:=R.word;have m:Hid (ws[i]?=some x):=g;have r:=(Vs w).alloc (aE _) (am #[Value.int IntKind.i64 0,Value.string {data:= #[]},Value.int IntKind.i64 0] 148);have u:¬w.heap.size=rb:=by have:=R.blocks;omega
 unfold pN;simp only[g];cases h:(dX x.1==3)
 .have t:kO ws 1 i=if dX x.1==1 then .ok (x,i+1)else .error x.2:=by unfold kO;simp only[g]
  have s:=Hid.o (p:=(Bool.false||(dX x.1==1))=(dX x.1==1)) (by simp[Hid]);rw[s];have y:Hid (kO ws 1 i=if dX x.1==1 then .ok (x,i+1)else .error x.2):=t;clear g t s;go_in
  go_wp2_with fail;refine(NO _ rb wb ws i x (R.alloc _) m.o).V ?_;rintro e w1 ⟨rfl,c⟩;have n:=(R.alloc _).G c (R.alloc _).blocks.1 (R.alloc _).blocks.2;have k:=jD.oB R.next (r.J (c.V Vw));have q:w.heap.size<w1.heap.size:=by have:=c.size;simp at this;omega
  have⟨A,B⟩:=qO c (b:=w.heap.size) Vw;go_wp2_with fail;refine(Sq _ rb wb ws i 1 n Vy).V ?_;rw[y.o];cases h1:(dX x.1==1);.rintro e w2 ⟨rfl,j,d⟩;unfold d5;go_wp2;exact⟨rfl,rfl,j,k.J d Vv⟩
  .rintro e w2 ⟨rfl,o,d⟩;have⟨u1,u2⟩:=lT d (b:=w.heap.size) q u;have l:=k.J d Vv;go_wp2;have f:=((l.setCell (a:=(aj w.heap.size 0)) (aE _) (Value.int IntKind.i64 (dX x.fst))).setCell (a:=(aj w.heap.size 1)) (aE _) (Value.string x.fst)).setCell (a:=(aj w.heap.size 2)) (aE _) (Value.int IntKind.i64 x.snd);refine dU (v:= .agg #[aa (dX x.1),ag x.1,aa x.2]) ?_ rfl ⟨rfl,?_,f⟩;.simp[results,results401,go_sem, *]
   .exact f.rd R R.blocks.1 R.blocks.2 o.lt
 .have z:0<x.1.size:=sJ (by simp at h;omega);clear g;go_in
  go_wp2_with fail;refine(NO _ rb wb ws i x (R.alloc _) m.o).V ?_;rintro e w1 ⟨rfl,c⟩;have n:=(R.alloc _).G c (R.alloc _).blocks.1 (R.alloc _).blocks.2;have k:=jD.oB R.next (r.J (c.V Vw));have q:w.heap.size<w1.heap.size:=by have:=c.size;simp at this;omega
  have⟨A,B⟩:=qO c (b:=w.heap.size) Vw;go_wp2_with fail;refine(Sx _ rb wb ws i x n m.o z).V ?_;rintro e w2 ⟨rfl,o,d⟩;have⟨u1,u2⟩:=lT d (b:=w.heap.size) q u;have l:=k.J d Vv;go_wp2;have f:=((l.setCell (a:=(aj w.heap.size 0)) (aE _) (Value.int IntKind.i64 (dX x.fst))).setCell (a:=(aj w.heap.size 1)) (aE _) (Value.string x.fst)).setCell (a:=(aj w.heap.size 2)) (aE _) (Value.int IntKind.i64 x.snd);refine dU (v:= .agg #[aa (dX x.1),ag x.1,aa x.2]) ?_ rfl ⟨rfl,?_,f⟩;.simp[results,results401,go_sem, *]
  .exact f.rd R R.blocks.1 R.blocks.2 o.lt
def gk {α β:Type}{r:oF α}{f:α->Nat->oF β}{p:Nat}(h:r= .error p):gP r f= .error p:=by rw[h];rfl
def eO {α β:Type}{r:oF α}{f:α->Nat->oF β}{a:α}{j:Nat}(h:r= .ok (a,j)):gP r f=f a j:=by rw[h];rfl
def TJ (w:aw)(rb wb:Nat)(ws:List W)(i:Nat)(R:Rd w rb wb ws i):
  Calls prog 258 #[ah rb] w (rW w rb wb ws (kY ws i) λx _ e=>e= .returned (.tuple #[.agg #[aa (dX x.1.1),ag x.1.1,aa x.1.2],.agg #[aa (dX x.2.1),ag x.2.1,aa x.2.2]])):=by
 have Y:=((Vs w).alloc (aE _) (am #[Value.int IntKind.i64 0,Value.string {data:= #[]},Value.int IntKind.i64 0] 148)).alloc Vw (am #[Value.int IntKind.i64 0,Value.string {data:= #[]},Value.int IntKind.i64 0] 148);have l:¬w.heap.size=rb:=by have:=R.blocks;omega
 have m:¬w.heap.size+1=rb:=by have:=R.blocks;omega
 have a:¬rb=w.heap.size:=by have:=R.blocks;omega
 have a:¬rb=w.heap.size+1:=by have:=R.blocks;omega
 have Z:=(R.alloc (am #[Value.int IntKind.i64 0,Value.string {data:= #[]},Value.int IntKind.i64 0] 148)).alloc (am #[Value.int IntKind.i64 0,Value.string {data:= #[]},Value.int IntKind.i64 0] 148);have D:=jD.oB R.next Y;generalize hr:kY ws i=r;have k:Hid (kY ws i=r):=hr;go_in
 go_wp2_with fail;refine(Sq _ rb wb ws i 1 Z Vy).V ?_
 cases h1:kO ws 1 i with
 |error p=>
  rintro e w1 ⟨rfl,j,d⟩;obtain rfl:r= .error p:=by rw[<-k.o,kY,gk h1]
  unfold d5;go_wp2
  exact⟨rfl,rfl,j,D.J d Vx⟩
 |ok q=>
  obtain⟨x,G⟩:=q;rintro e w1 ⟨rfl,c,d⟩;have a:w.heap.size+1<w1.heap.size:=by have:=d.size;simp at this;omega
  have⟨B,g⟩:=lT d (b:=w.heap.size) Vx l;have⟨C,h⟩:=lT d (b:=w.heap.size+1) Vw m;have u:=((((D.J d Vx).setCell (a:=(aj w.heap.size 0)) (aE _) (Value.int IntKind.i64 (dX x.fst))).setCell (a:=(aj w.heap.size 1)) (aE _) (Value.string x.fst)).setCell (a:=(aj w.heap.size 2)) (aE _) (Value.int IntKind.i64 x.snd));have d:=u.rd R R.blocks.1 R.blocks.2 c.lt;go_wp2_with fail;refine(Fk _ rb wb ws G _ [61] d Vz Vy).V ?_
  cases h2:gw ws [61] G with
  |error p=>
   rintro e w2 ⟨rfl,j,f⟩;obtain rfl:r= .error p:=by rw[<-k.o,kY,eO h1,gk h2]
   unfold d5;go_wp2
   exact⟨rfl,rfl,j,u.J f Vx⟩
  |ok q=>
   obtain⟨_,H⟩:=q;rintro e w2 ⟨rfl,c,f⟩;have d:w.heap.size+1<w2.heap.size:=by have:=f.size;simp at this;omega
   have⟨s1,s2⟩:=lT f (b:=w.heap.size) Vx l;have⟨A,d⟩:=lT f (b:=w.heap.size+1) Vx m;have E:=u.J f Vx;have J:w2.cell? (aj w.heap.size 0)=some (aa (dX x.1)):=by simp[go_sem,s1,B]
   have K:w2.cell? (aj w.heap.size 1)=some (ag x.1):=by simp[go_sem,s1,B]
   have L:w2.cell? (aj w.heap.size 2)=some (aa x.2):=by simp[go_sem,s1,B]
   have M:∀off,w2.frozen? (aj w.heap.size off)=false:=by simp[go_sem,s2,g]
   have N:∀off,w2.frozen? (aj (w.heap.size+1) off)=false:=by simp[go_sem,d,h]
   have O:w2.cell? (aj (w.heap.size+1) 0)=some (aa 0):=by simp[go_sem,A,C]
   have P:w2.cell? (aj (w.heap.size+1) 1)=some (Vp):=by simp[go_sem,A,C]
   have Q:w2.cell? (aj (w.heap.size+1) 2)=some (aa 0):=by simp[go_sem,A,C]
   go_wp2_with fail;refine(Sq _ rb wb ws H 2 c Vy).V ?_
   cases h3:kO ws 2 H with
   |error p=>
    rintro e w3 ⟨rfl,j,g⟩;obtain rfl:r= .error p:=by rw[<-k.o,kY,eO h1,eO h2,gk h3]
    unfold d5;go_wp2
    exact⟨rfl,rfl,j,E.J g Vv⟩
   |ok q=>
    obtain⟨y,I⟩:=q;rintro e w3 ⟨rfl,c,g⟩;have d:w.heap.size+1<w3.heap.size:=by have:=g.size;omega
    have⟨n,S⟩:=lT g (b:=w.heap.size) Vv l;have⟨o,T⟩:=lT g (b:=w.heap.size+1) Vv m;have z:=((((E.J g Vv).setCell (a:=(aj (w.heap.size+1) 0)) (bH _) (Value.int IntKind.i64 (dX y.fst))).setCell (a:=(aj (w.heap.size+1) 1)) (bH _) (Value.string y.fst)).setCell (a:=(aj (w.heap.size+1) 2)) (bH _) (Value.int IntKind.i64 y.snd));have d:=z.rd R R.blocks.1 R.blocks.2 c.lt;go_wp2_with fail;refine(Fk _ rb wb ws I _ [59] d Vz Vy).V ?_
    cases h4:gw ws [59] I with
    |error p=>
     rintro e c ⟨rfl,j,h⟩;obtain rfl:r= .error p:=by rw[<-k.o,kY,eO h1,eO h2,eO h3,gk h4]
     unfold d5;go_wp2
     exact⟨rfl,rfl,j,z.J h Vx⟩
    |ok q=>
     obtain⟨_,f⟩:=q;rintro e c ⟨rfl,d,h⟩;have g:w.heap.size+1<c.heap.size:=by have:=h.size;simp at this;omega
     have⟨s,U⟩:=lT h (b:=w.heap.size) Vx l;have⟨t,V⟩:=lT h (b:=w.heap.size+1) Vx m;have X:=z.J h Vx;have b:c.cell? (aj w.heap.size 0)=some (aa (dX x.1)):=by simp[go_sem,s,n,J]
     have b:c.cell? (aj w.heap.size 1)=some (ag x.1):=by simp[go_sem,s,n,K]
     have b:c.cell? (aj w.heap.size 2)=some (aa x.2):=by simp[go_sem,s,n,L]
     have b:∀off,c.frozen? (aj w.heap.size off)=false:=by simp[go_sem,U,S,M]
     have b:∀off,c.frozen? (aj (w.heap.size+1) off)=false:=by simp[go_sem,V,T,N]
     have b:c.cell? (aj (w.heap.size+1) 0)=some (aa (dX y.1)):=by simp[go_sem,t,o,O]
     have b:c.cell? (aj (w.heap.size+1) 1)=some (ag y.1):=by simp[go_sem,t,o,P]
     have b:c.cell? (aj (w.heap.size+1) 2)=some (aa y.2):=by simp[go_sem,t,o,Q]
     clear s U t V n S o T J K L M N O P Q;obtain rfl:r= .ok ((x,y),f):=by rw[<-k.o,kY,eO h1,eO h2,eO h3,eO h4]
     go_wp2;go_region
     have F:=((((((X.setCell (a:=(aj w.heap.size 0)) (aE _) (Value.int IntKind.i64 (dX x.fst))).setCell (a:=(aj w.heap.size 1)) (aE _) (Value.string x.fst)).setCell (a:=(aj w.heap.size 2)) (aE _) (Value.int IntKind.i64 x.snd)).setCell (a:=(aj (w.heap.size+1) 0)) (bH _) (Value.int IntKind.i64 (dX y.fst))).setCell (a:=(aj (w.heap.size+1) 1)) (bH _) (Value.string y.fst)).setCell (a:=(aj (w.heap.size+1) 2)) (bH _) (Value.int IntKind.i64 y.snd)).drew;go_wp2;refine dU (v:= .tuple #[.agg #[aa (dX x.1),ag x.1,aa x.2],.agg #[aa (dX y.1),ag y.1,aa y.2]]) ?_ rfl ⟨rfl,?_,F⟩;.simp[results,results258,go_sem, *]
     .exact F.rd R R.blocks.1 R.blocks.2 d.lt
end
def dZ (w:aw)(b:Nat)(cs:aq)(T:TypeId):Prop:=w.heap[b]?=some (.cells cs T (0,0))
def dW {a b c:aw}(h:Below a.heap.size a b)(k:Below b.heap.size b c):Below a.heap.size a c:=
 h.J ⟨k.os,k.tape,k.output,k.size,λi d=>k.block i (aI d h.size)⟩
def dZ.new (w:aw)(cs:aq)(T:TypeId):dZ (w.alloc (.cells cs T)) w.heap.size cs T:=heap_alloc_new w _
def dZ.lt {w:aw}{b:Nat}{cs:aq}{T:TypeId}(h:dZ w b cs T):b<w.heap.size:=by
 unfold dZ at h;by_cases hb:b<w.heap.size;.exact hb
 .rw[cL Vv]at h;cases h
def ec (w:aw)(cs:aq)(T:TypeId):ak w (w.alloc (Obj.cells cs T))/\dZ (w.alloc (Obj.cells cs T)) w.heap.size cs T:=⟨(Below.refl _ _).alloc (aE _) _,dZ.new w cs T⟩
def dZ.alloc {w:aw}{b:Nat}{cs:aq}{T:TypeId}(h:dZ w b cs T)(o:Obj):dZ (w.alloc o) b cs T:=(Below.l w o b h.lt).J h
def dZ.G {w w1:aw}{n b:Nat}{cs:aq}{T:TypeId}(h:dZ w b cs T)(a:Below n w w1)(c:b<n):dZ w1 b cs T:=(a.block b c).J h
def dZ.adv_ {w w1:aw}{n rb j b:Nat}{cs:aq}{T:TypeId}(h:dZ w b cs T)(c:jD n rb w w1 j)(d:b<n)(a:b≠rb):dZ w1 b cs T:=by
 unfold dZ at*;rw[Below.block c b d,Go.Proofs.YtfebdimolnobaaaGreatDoor.Dh,dY,dQ (λe=>a e.sy)];exact h
def dZ.set {w:aw}{b:Nat}{cs:aq}{T:TypeId}(h:dZ w b cs T)(off:Nat)(v:Value):dZ (w.setCell (aj b off) v) b (cs.setIfInBounds off v) T:=by
 unfold dZ at*;rw[dY,dR rfl,h];rfl
def dZ.other {w:aw}{b:Nat}{cs:aq}{T:TypeId}(h:dZ w b cs T){c:Nat}(off:Nat)(v:Value)(a:c≠b):dZ (w.setCell (aj c off) v) b cs T:=by
 unfold dZ at*;rw[dY,dQ a,h]
def dZ.drew {w:aw}{b:Nat}{cs:aq}{T:TypeId}(h:dZ w b cs T):dZ w.drew b cs T:=h
def dZ.grown {w w1:aw}{row:Option Nat}{b:Nat}{cs:aq}{T:TypeId}(h:dZ w b cs T)(c:w.grownBy w1 row)(a:some b≠row):dZ w1 b cs T:=(c.block b h.lt a).J h
def dZ.cell {w:aw}{b:Nat}{cs:aq}{T:TypeId}(h:dZ w b cs T)(off:Nat):w.cell? (aj b off)=cs[off]?:=by
 unfold dZ at h;simp[World.cell?,h]
def dZ.I {w:aw}{b:Nat}{cs:aq}{T:TypeId}(h:dZ w b cs T):(∀off,w.cell? (aj b off)=cs[off]?)/\(∀off,w.frozen? (aj b off)=false):=by
 refine⟨h.cell,λoff=> ?_⟩;unfold dZ at h;simp[World.frozen?,h]
def jD.sets {w w':aw}{n rb j:Nat}(h:jD n rb w w' j){b:Nat}(c:n<=b):∀(vs:ay) (o:Nat),jD n rb w (w'.setCells b o vs) j
 | [],o=>h
 |v::vs,o=>by
  have:=jD.sets (h.setCell (a:=(aj b o)) c v) c vs (o+1);simpa [World.setCells]using this
def dZ.sets_other {w:aw}{b:Nat}{cs:aq}{T:TypeId}(h:dZ w b cs T){c:Nat}(a:c≠b):∀(vs:ay) (o:Nat),dZ (w.setCells c o vs) b cs T
 | [],o=>h
 |v::vs,o=>by
  have:=dZ.sets_other (h.other o v a) a vs (o+1);simpa [World.setCells]using this
def dZ.sets {w:aw}{b:Nat}{T:TypeId}:∀(vs pre old post:ay),dZ w b (pre++old++post).toArray T->vs.length=old.length->dZ (w.setCells b pre.length vs) b (pre++vs++post).toArray T
 | [],pre,old,post,h,hl=>by
  have:old= []:=bF hl.sy;subst this
  simpa [World.setCells]using h
 |v::vs,pre,[],post,h,hl=>by simp at hl
 |v::vs,pre,o::old,post,h,hl=>by
  have a:=h.set pre.length v;have e:((pre++o::old++post).toArray).setIfInBounds pre.length v=((pre++ [v])++old++post).toArray:=(by simp[List.set_append_right]);rw[e]at a;have:=dZ.sets vs (pre++ [v]) old post a (by simpa using hl);simpa [World.setCells]using this
def dZ.sets_all {w:aw}{b:Nat}{cs:aq}{T:TypeId}(h:dZ w b cs T)(vs:ay)(a:vs.length=cs.size):dZ (w.setCells b 0 vs) b vs.toArray T:=by
 have:=dZ.sets vs [] cs.toList [] (w:=w) (b:=b) (T:=T) (by simpa using h) (by simpa using a);simpa using this
def ew {fn:Func}{p:Tmp}{ty:TypeId}{b:Nat}{cs:aq}{fs:Array Field}(h:fn.results= #[.cell p ty])(tmps:aq)(W:aw)(e:tmps.getD p undef=ah b)(K:dZ W b cs ty)
  (f:prog.underlying ty=some (.struct fs)) (c:(prog.info? ty).map (·.size)=some cs.size):
  (results fn tmps).run prog W= .ok (.agg cs) W:=by
 have d:=run_loadVar_row (P:=prog) W b ty ty cs (0,0) _ K f rfl c;have a:tmps[p]?.getD undef=ah b:=by simpa using e
 simp only[results,h];simp[a,asAddr,d]
section
attribute [local go_sem] jS jT jU
def N5:Option W->ay
 |some x=>xw x
 |none=> [aa 0,Vp,aa 0]
def sH (f:eW):ay:=aa f.form::(N5 f.key++xw f.type++xw f.name++xw f.num)
def Ts (w:aw)(rb wb:Nat)(ws:List W)(i:Nat)(form:Int)(R:Rd w rb wb ws i):
  Calls prog 341 #[ah rb,aa form] w (rW w rb wb ws (fZ ws form i) λf _ e=>e= .returned (.agg (sH f).toArray)):=by
 have⟨z,B⟩:=ec w #[aa 0,aa 0,Vp,aa 0,aa 0,Vp,aa 0,aa 0,Vp,aa 0,aa 0,Vp,aa 0] 211;have o:=R.alloc (am #[aa 0,aa 0,Vp,aa 0,aa 0,Vp,aa 0,aa 0,Vp,aa 0,aa 0,Vp,aa 0] 211);have u:¬w.heap.size=rb:=by have:=R.blocks;omega
 have L:¬rb=w.heap.size:=by have:=R.blocks;omega
 have k:=jD.oB R.next z;generalize hr:fZ ws form i=r;have h:Hid (fZ ws form i=r):=hr;clear hr;go_in
 go_wp2_with fail;refine(TI _ rb wb ws i o).V ?_
 cases h1:pN ws i with
 |error p=>
  rintro e w1 ⟨rfl,j,d⟩;obtain rfl:r= .error p:=by rw[<-h.o,fZ,gk h1]
  unfold d5;go_wp2
  exact⟨rfl,rfl,j,k.J d Vw⟩
 |ok q=>
  obtain⟨x,t⟩:=q;rintro e w1 ⟨rfl,s,d⟩;have O:w.heap.size<w1.heap.size:=by have:=d.size;simp at this;omega
  have F:¬w1.heap.size=rb:=by have:=R.blocks;omega
  have M:¬rb=w1.heap.size:=Vv;have G:¬w1.heap.size=w.heap.size:=Vv;have N:¬w.heap.size=w1.heap.size:=Vv;have m:=B.adv_ d Vw u;have g:=k.J d Vw;clear d o;go_wp2_with fail;refine(TJ _ rb wb ws t (s.alloc _)).V ?_
  cases h2:kY ws t with
  |error p=>
   rintro e w2 ⟨rfl,j,a⟩;obtain rfl:r= .error p:=by rw[<-h.o,fZ,eO h1,gk h2]
   unfold d5;go_wp2
   exact⟨rfl,rfl,j,(g.alloc (aE _) _).J a Vx⟩
  |ok q=>
   obtain⟨y,E⟩:=q;rintro e w2 ⟨rfl,D,a⟩;have P:w1.heap.size<w2.heap.size:=by have:=a.size;simp at this;omega
   have n:=(m.alloc _).adv_ a Vx u;have A:=(dZ.new _ _ _).adv_ a Vw F;have v:=(g.alloc (aE _) _).J a Vx;have⟨J,K⟩:=n.I;have⟨H,I⟩:=A.I;obtain rfl:r= .ok (⟨form,none,x,y.1,y.2⟩,E):=by rw[<-h.o,fZ,eO h1,eO h2]
   clear s m a g;go_wp2;have l:=(v.sets (b:=w1.heap.size) Vv (xw y.1++xw y.2) 7).sets (b:=w.heap.size) (aE _) (sH ⟨form,none,x,y.1,y.2⟩) 0;have C:=(n.sets_other (c:=w1.heap.size) G (xw y.1++xw y.2) 7).sets_all (sH ⟨form,none,x,y.1,y.2⟩) rfl;refine dU (ew results341 _ _ rfl C underlying211 VA) rfl ⟨rfl,?_,l⟩;exact l.rd R R.blocks.1 R.blocks.2 D.lt
def UL (w:aw)(rb wb:Nat)(ws:List W)(i:Nat)(R:Rd w rb wb ws i):
  Calls prog 340 #[ah rb] w (rW w rb wb ws (nP ws i) λf _ e=>e= .returned (.agg (sH f).toArray)):=by
 have x:jD w.heap.size rb w ((w.alloc (am #[aa 0,aa 0,Vp,aa 0,aa 0,Vp,aa 0,aa 0,Vp,aa 0,aa 0,Vp,aa 0] 211)).alloc (am #[aa 4,aa 0,Vp,aa 0,aa 0,Vp,aa 0,aa 0,Vp,aa 0,aa 0,Vp,aa 0] 211)) i:=jD.oB R.next ((Vt w _).alloc Vw _);have b:=(R.alloc (am #[aa 0,aa 0,Vp,aa 0,aa 0,Vp,aa 0,aa 0,Vp,aa 0,aa 0,Vp,aa 0] 211)).alloc (am #[aa 4,aa 0,Vp,aa 0,aa 0,Vp,aa 0,aa 0,Vp,aa 0,aa 0,Vp,aa 0] 211);have L:=(dZ.new w #[aa 0,aa 0,Vp,aa 0,aa 0,Vp,aa 0,aa 0,Vp,aa 0,aa 0,Vp,aa 0] 211).alloc (am #[aa 4,aa 0,Vp,aa 0,aa 0,Vp,aa 0,aa 0,Vp,aa 0,aa 0,Vp,aa 0] 211);have E:dZ ((w.Vn #[aa 0,aa 0,Vp,aa 0,aa 0,Vp,aa 0,aa 0,Vp,aa 0,aa 0,Vp,aa 0] 211).Vn #[aa 4,aa 0,Vp,aa 0,aa 0,Vp,aa 0,aa 0,Vp,aa 0,aa 0,Vp,aa 0] 211) (w.heap.size+1) #[aa 4,aa 0,Vp,aa 0,aa 0,Vp,aa 0,aa 0,Vp,aa 0,aa 0,Vp,aa 0] 211:=(by have:=dZ.new (w.Vn #[aa 0,aa 0,Vp,aa 0,aa 0,Vp,aa 0,aa 0,Vp,aa 0,aa 0,Vp,aa 0] 211) #[aa 4,aa 0,Vp,aa 0,aa 0,Vp,aa 0,aa 0,Vp,aa 0,aa 0,Vp,aa 0] 211;simpa using this);have m:¬w.heap.size=rb:=by have:=R.blocks;omega
 have n:¬w.heap.size+1=rb:=by have:=R.blocks;omega
 have a:¬rb=w.heap.size:=Vv;have a:¬rb=w.heap.size+1:=Vv;have V:w.heap.size+1<((w.alloc (am #[aa 0,aa 0,Vp,aa 0,aa 0,Vp,aa 0,aa 0,Vp,aa 0,aa 0,Vp,aa 0] 211)).alloc (am #[aa 4,aa 0,Vp,aa 0,aa 0,Vp,aa 0,aa 0,Vp,aa 0,aa 0,Vp,aa 0] 211)).heap.size:=Vw;generalize hr:nP ws i=r;have l:Hid (nP ws i=r):=hr;clear hr;go_in
 have⟨g,h⟩:=L.I;have⟨a,d⟩:=E.I;go_wp2_with fail;clear g h a d;refine(Fk _ rb wb ws i _ [109,97,112] b Vz Vy).V ?_
 cases h1:gw ws [109,97,112] i with
 |error p=>
  rintro e w1 ⟨rfl,j,A⟩;obtain rfl:r= .error p:=by rw[<-l.o,nP,gk h1]
  unfold d5;go_wp2
  exact⟨rfl,rfl,j,x.J A Vv⟩
 |ok q=>
  obtain⟨_,k⟩:=q;rintro e w1 ⟨rfl,c,A⟩;have X:w.heap.size+1<w1.heap.size:=aI V A.size;have M:=L.adv_ A Vv m;have F:=E.adv_ A V n;have z:=x.J A Vv;clear A b L E x V;have⟨g,h⟩:=M.I;have⟨a,d⟩:=F.I;go_wp2_with fail;clear g h a d;refine(Fk _ rb wb ws k _ [60] c Vz Vy).V ?_
  cases h2:gw ws [60] k with
  |error p=>
   rintro e w2 ⟨rfl,j,A⟩;obtain rfl:r= .error p:=by rw[<-l.o,nP,eO h1,gk h2]
   unfold d5;go_wp2
   exact⟨rfl,rfl,j,z.J A Vv⟩
  |ok q=>
   obtain⟨_,k⟩:=q;rintro e w2 ⟨rfl,b,A⟩;have Y:w.heap.size+1<w2.heap.size:=aI X A.size;have N:=M.adv_ A Vv m;have G:=F.adv_ A X n;have B:=z.J A Vv;clear A c M F z X;have⟨g,h⟩:=N.I;have⟨a,d⟩:=G.I;go_wp2_with fail;clear g h a d;refine(TI _ rb wb ws k b).V ?_
   cases h3:pN ws k with
   |error p=>
    rintro e w3 ⟨rfl,j,A⟩;obtain rfl:r= .error p:=by rw[<-l.o,nP,eO h1,eO h2,gk h3]
    unfold d5;go_wp2
    exact⟨rfl,rfl,j,B.J A Vv⟩
   |ok q=>
    obtain⟨k,y⟩:=q;rintro e w3 ⟨rfl,t,A⟩;have z:w.heap.size+1<w3.heap.size:=aI Y A.size;have O:=N.adv_ A Vv m;have H:=G.adv_ A Y n;have s:=B.J A Vv;clear A b N G B Y;have o:=s.sets (b:=w.heap.size+1) Vv [aa (dX k.1),ag k.1,aa k.2] 1;have u:=o.rd R R.blocks.1 R.blocks.2 t.lt;have v:=O.sets_other (c:=w.heap.size+1) Vv [aa (dX k.1),ag k.1,aa k.2] 1;have x:dZ (w3.setCells (w.heap.size+1) 1 [aa (dX k.1),ag k.1,aa k.2]) (w.heap.size+1) #[aa 4,aa (dX k.1),ag k.1,aa k.2,aa 0,Vp,aa 0,aa 0,Vp,aa 0,aa 0,Vp,aa 0] 211:=dZ.sets [aa (dX k.1),ag k.1,aa k.2] [aa 4] [aa 0,Vp,aa 0] [aa 0,Vp,aa 0,aa 0,Vp,aa 0,aa 0,Vp,aa 0] H rfl;have T:w.heap.size+1<(w3.setCells (w.heap.size+1) 1 [aa (dX k.1),ag k.1,aa k.2]).heap.size:=by simpa [World.setCells,World.setCell]using z
    have⟨g,h⟩:=O.I;have⟨a,d⟩:=H.I;clear s t O z;go_wp2_with fail;clear g h a d H;refine(Fk _ rb wb ws y _ [44] u Vz Vy).V ?_
    cases h4:gw ws [44] y with
    |error p=>
     rintro e y ⟨rfl,j,A⟩;obtain rfl:r= .error p:=by rw[<-l.o,nP,eO h1,eO h2,eO h3,gk h4]
     unfold d5;go_wp2
     exact⟨rfl,rfl,j,o.J A Vv⟩
    |ok q=>
     obtain⟨_,t⟩:=q;rintro e y ⟨rfl,s,A⟩;have Z:w.heap.size+1<y.heap.size:=aI T A.size;have P:=v.adv_ A Vv m;have I:=x.adv_ A T n;have C:=o.J A Vv;clear A u v x o T;have⟨g,h⟩:=P.I;have⟨a,d⟩:=I.I;go_wp2_with fail;clear g h a d;refine(TI _ rb wb ws t s).V ?_
     cases h5:pN ws t with
     |error p=>
      rintro e u ⟨rfl,j,A⟩;obtain rfl:r= .error p:=by rw[<-l.o,nP,eO h1,eO h2,eO h3,eO h4,gk h5]
      unfold d5;go_wp2
      exact⟨rfl,rfl,j,C.J A Vv⟩
     |ok q=>
      obtain⟨t,B⟩:=q;rintro e u ⟨rfl,v,A⟩;have D:w.heap.size+1<u.heap.size:=aI Z A.size;have Q:=P.adv_ A Vv m;have J:=I.adv_ A Z n;have o:=C.J A Vv;clear A s P I C Z;have s:=o.sets (b:=w.heap.size+1) Vv [aa (dX t.1),ag t.1,aa t.2] 4;have x:=s.rd R R.blocks.1 R.blocks.2 v.lt;have y:=Q.sets_other (c:=w.heap.size+1) Vv [aa (dX t.1),ag t.1,aa t.2] 4;have z:dZ (u.setCells (w.heap.size+1) 4 [aa (dX t.1),ag t.1,aa t.2]) (w.heap.size+1) #[aa 4,aa (dX k.1),ag k.1,aa k.2,aa (dX t.1),ag t.1,aa t.2,aa 0,Vp,aa 0,aa 0,Vp,aa 0] 211:=dZ.sets [aa (dX t.1),ag t.1,aa t.2] [aa 4,aa (dX k.1),ag k.1,aa k.2] [aa 0,Vp,aa 0] [aa 0,Vp,aa 0,aa 0,Vp,aa 0] J rfl;have U:w.heap.size+1<(u.setCells (w.heap.size+1) 4 [aa (dX t.1),ag t.1,aa t.2]).heap.size:=by simpa [World.setCells,World.setCell]using D
      have⟨g,h⟩:=Q.I;have⟨a,d⟩:=J.I;clear o v Q D;go_wp2_with fail;clear g h a d J;refine(Fk _ rb wb ws B _ [62] x Vz Vy).V ?_
      cases h6:gw ws [62] B with
      |error p=>
       rintro e w6 ⟨rfl,j,A⟩;obtain rfl:r= .error p:=by rw[<-l.o,nP,eO h1,eO h2,eO h3,eO h4,eO h5,gk h6]
       unfold d5;go_wp2
       exact⟨rfl,rfl,j,s.J A Vv⟩
      |ok q=>
       obtain⟨_,v⟩:=q;rintro e w6 ⟨rfl,u,A⟩;have o:w.heap.size+1<w6.heap.size:=aI U A.size;have S:=y.adv_ A Vv m;have K:=z.adv_ A U n;have D:=s.J A Vv;clear A x y z s U;have⟨g,h⟩:=S.I;have⟨a,d⟩:=K.I;go_wp2_with fail;clear g h a d;refine(TJ _ rb wb ws v u).V ?_
       cases h7:kY ws v with
       |error p=>
        rintro e v ⟨rfl,j,A⟩;obtain rfl:r= .error p:=by rw[<-l.o,nP,eO h1,eO h2,eO h3,eO h4,eO h5,eO h6,gk h7]
        unfold d5;go_wp2
        exact⟨rfl,rfl,j,D.J A Vv⟩
       |ok q=>
        obtain⟨y,s⟩:=q;rintro e v ⟨rfl,q,A⟩;have x:w.heap.size+1<v.heap.size:=aI o A.size;have p:=S.adv_ A Vv m;have j:=K.adv_ A o n;have n:=D.J A Vv;clear A u S K D o;have m:=n.sets (b:=w.heap.size+1) Vv [aa (dX y.1.1),ag y.1.1,aa y.1.2,aa (dX y.2.1),ag y.2.1,aa y.2.2] 7;have n:=m.rd R R.blocks.1 R.blocks.2 q.lt;have o:=p.sets_other (c:=w.heap.size+1) Vv [aa (dX y.1.1),ag y.1.1,aa y.1.2,aa (dX y.2.1),ag y.2.1,aa y.2.2] 7;have c:dZ (v.setCells (w.heap.size+1) 7 [aa (dX y.1.1),ag y.1.1,aa y.1.2,aa (dX y.2.1),ag y.2.1,aa y.2.2]) (w.heap.size+1) #[aa 4,aa (dX k.1),ag k.1,aa k.2,aa (dX t.1),ag t.1,aa t.2,aa (dX y.1.1),ag y.1.1,aa y.1.2,aa (dX y.2.1),ag y.2.1,aa y.2.2] 211:=dZ.sets [aa (dX y.1.1),ag y.1.1,aa y.1.2,aa (dX y.2.1),ag y.2.1,aa y.2.2] [aa 4,aa (dX k.1),ag k.1,aa k.2,aa (dX t.1),ag t.1,aa t.2] [aa 0,Vp,aa 0,aa 0,Vp,aa 0] [] j rfl;have c:w.heap.size+1<(v.setCells (w.heap.size+1) 7 [aa (dX y.1.1),ag y.1.1,aa y.1.2,aa (dX y.2.1),ag y.2.1,aa y.2.2]).heap.size:=by simpa [World.setCells,World.setCell]using x
        have⟨g,h⟩:=p.I;have⟨a,d⟩:=j.I;obtain rfl:r= .ok (⟨4,some k,t,y.1,y.2⟩,s):=by rw[<-l.o,nP,eO h1,eO h2,eO h3,eO h4,eO h5,eO h6,eO h7]
        go_wp2;have a:=m.sets (b:=w.heap.size) (aE _) (sH ⟨4,some k,t,y.1,y.2⟩) 0;have b:=o.sets_all (sH ⟨4,some k,t,y.1,y.2⟩) rfl;refine dU (ew results340 _ _ rfl b underlying211 VA) rfl ⟨rfl,?_,a⟩;exact a.rd R R.blocks.1 R.blocks.2 n.lt
end
section
variable {w:aw} {i base k m j:Nat} {ws:List W} {T:TypeId} {v:Value} {xs:ay} {form:Int}
attribute [local go_sem] jS jT jU
theorem TK (w:aw)(v0 v1 v2 v3 v4 v5 v6 v7 v8 v9 v10 v11 v12:Value):
  Calls prog 339 #[.agg #[v0,v1,v2,v3,v4,v5,v6,v7,v8,v9,v10,v11,v12]] w λe w'=>∃fv,e= .returned (.agg #[aa 0,Vp,aa 0,fv])/\w'.ownsRow w.heap.size 211 13 fv 1 [v0,v1,v2,v3,v4,v5,v6,v7,v8,v9,v10,v11,v12]/\ak w w':=by
 go_in
 go_wp2;have K:dZ (((w.Vn #[v0,v1,v2,v3,v4,v5,v6,v7,v8,v9,v10,v11,v12] 211).Vn #[aa 0,Vp,aa 0,Vr (w.heap.size+1+1) 1 1] 208).Vn #[v0,v1,v2,v3,v4,v5,v6,v7,v8,v9,v10,v11,v12] 211) (w.heap.size+1) #[aa 0,Vp,aa 0,Vr (w.heap.size+1+1) 1 1] 208:=(by have:=(dZ.new (w.Vn #[v0,v1,v2,v3,v4,v5,v6,v7,v8,v9,v10,v11,v12] 211) #[aa 0,Vp,aa 0,Vr (w.heap.size+1+1) 1 1] 208).alloc (am #[v0,v1,v2,v3,v4,v5,v6,v7,v8,v9,v10,v11,v12] 211);simpa using this);refine dU (ew results339 _ _ rfl K underlying208 VA) rfl ⟨_,rfl,⟨rfl,.inr ⟨w.heap.size+1+1,1,#[v0,v1,v2,v3,v4,v5,v6,v7,v8,v9,v10,v11,v12],rfl,Vv,?_,Vv,VC,rfl,rfl⟩⟩,?_⟩;.have:=dZ.new ((w.Vn #[v0,v1,v2,v3,v4,v5,v6,v7,v8,v9,v10,v11,v12] 211).Vn #[aa 0,Vp,aa 0,Vr (w.heap.size+1+1) 1 1] 208) #[v0,v1,v2,v3,v4,v5,v6,v7,v8,v9,v10,v11,v12] 211;simpa [dZ]using this
 .exact(((Below.refl _ _).alloc (aE _) _).alloc Vw _).alloc Vx _
theorem UM (w:aw)(f:eW):
  Vq 339 #[.agg (sH f).toArray] w λe w'=>∃fv,e= .returned (.agg #[aa 0,Vp,aa 0,fv])/\w'.ownsRow w.heap.size 211 13 fv 1 (sH f)/\ak w w':=by
 obtain⟨form,key,b,nm,a⟩:=f;cases key<;>exact TK w _ _ _ _ _ _ _ _ _ _ _ _ _
theorem Rd.drew {rb wb:Nat}(R:Rd w rb wb ws i):Rd w.drew rb wb ws i:=
 R.G (Vs w).drew R.blocks.1 R.blocks.2
def jt (rb:Nat)(w:aw):Nat:=
 match w.cell? (aj rb 1)with
 |some v=>(intOf v).toNat
 |none=>0
theorem Rd.nextOf {rb wb:Nat}(R:Rd w rb wb ws i):Go.Proofs.YtfebdimolnobaaaGreatDoor.jt rb w=i:=by
 simp[Go.Proofs.YtfebdimolnobaaaGreatDoor.jt,R.next,intOf]
theorem eZ {w1:aw}(i:ak w w1)(h:w.ownsRow base T k v m xs):w1.ownsRow base T k v m xs:=by
 refine⟨h.1,?_⟩;rcases h.2 with b|⟨g,a,d,b,e,c,f⟩;.exact .inl b
 .exact .inr ⟨g,a,d,b,e,(i.block g (dZ.lt c)).J c,f⟩
theorem jW {w1:aw}{n rb:Nat}(i:jD n rb w w1 j)(p:w.heap.size<=n)(q:rb<base)(h:w.ownsRow base T k v m xs):w1.ownsRow base T k v m xs:=by
 refine⟨h.1,?_⟩;rcases h.2 with b|⟨g,a,d,b,e,c,f⟩;.exact .inl b
 .exact .inr ⟨g,a,d,b,e,dZ.adv_ c i (aI (dZ.lt c) p) Vv,f⟩
theorem pp (h:w.ownsRow base T k v m xs):w.drew.ownsRow base T k v m xs:=h
theorem pr {lo:Nat}(h:w.ownsRow base T k v m xs)(i:lo<=base):w.ownsRow lo T k v m xs:=by
 refine⟨h.1,?_⟩;rcases h.2 with b|⟨g,a,c,b,d,e,f⟩;.exact .inl b
 .exact .inr ⟨g,a,c,b,aM i d,e,f⟩
theorem kc {lo:Nat}(h:w.ownsRow base T k v m xs){b:Nat}(n:b<base)(j:lo<=base)(vs:ay)(o:Nat):(w.setCells b o vs).ownsRow lo T k v m xs:=by
 refine⟨h.1,?_⟩;rcases h.2 with c|⟨g,a,d,c,e,f,i⟩;.exact .inl c
 .exact .inr ⟨g,a,d,c,aM j e,dZ.sets_other (b:=g) f Vv vs o,i⟩
theorem d7 (h:w.ownsRow base T k v m xs):∃a n c,v= .slice a n c:=by
 rcases h.2 with⟨b,_⟩|⟨g,d,e,b,f⟩;.exact⟨_,_,_,b⟩
 .exact⟨_,_,_,b⟩
theorem Oa (f:eW):(sH f).length=13:=by
 obtain⟨form,key,b,nm,a⟩:=f;cases key<;>rfl
theorem Tryz.info211:(prog.info? 211).map (λi=>(i.zero,i.size,i.bytes))=some (some (.agg #[aa 0,aa 0,Vp,aa 0,aa 0,Vp,aa 0,aa 0,Vp,aa 0,aa 0,Vp,aa 0]),13,136):=VA
theorem rX {f:eW}(h:fZ ws form i= .ok (f,j)):sH f= [aa form,aa 0,Vp,aa 0,aa (dX f.type.1),ag f.type.1,aa f.type.2,aa (dX f.name.1),ag f.name.1,aa f.name.2,aa (dX f.num.1),ag f.num.1,aa f.num.2]:=by
 unfold fZ at h;have⟨t,c,a,h⟩:=d8 h;have⟨nm,d,b,h⟩:=d8 h;simp at h;obtain⟨rfl,rfl⟩:=h;rfl
theorem Ob (w:aw)(rb wb:Nat)(ws:List W)(i:Nat)(form:Int)(R:Rd w rb wb ws i):
  Vq 341 #[ah rb,aa form] w (rW w rb wb ws (fZ ws form i) λf _ e=>e= .returned (.agg #[aa form,aa 0,Vp,aa 0,aa (dX f.type.1),ag f.type.1,aa f.type.2,aa (dX f.name.1),ag f.name.1,aa f.name.2,aa (dX f.num.1),ag f.num.1,aa f.num.2])):=by
 refine(Ts w rb wb ws i form R).V λe w' h=> ?_
 cases hf:fZ ws form i with
 |error p=>rw[hf]at h;exact h
 |ok q=>
  obtain⟨f,j⟩:=q;rw[hf]at h;obtain⟨a,b⟩:=h;exact⟨by rw[a,rX hf],b⟩
end
section
variable {P:Program} {ops:Array Oper} {Q:Exit->Act->aw->Prop} {md:Region.Mode} {S:aw->Prop} (i:Nat) {oi:Oper} {fuel:Nat} {listed:Array Bool} {a:Act} {w:aw}
attribute [local go_sem] jS jT jU
open VH
theorem il (v:Value)(f:ops[i]?=some oi)
  (b:(Region.noSelect ops&&(Region.free md ops listed i&&(Region.ready md ops listed).contains i))=true) (d:∀c a w,Q (.panic c) (a.put oi.dst v) w->Q (.panic c) a w) (g:YieldsIf P ops S oi v a) (e:S w)
  (h:wpAnyH P md ops Q S fuel (listed.setIfInBounds i true) (a.put oi.dst v) w):wpAnyH P md ops Q S (fuel+1) listed a w:=by
 rw[aQ,aQ]at b;exact wpAnyH_take f b.1 b.2.1 b.2.2 d g e h
theorem Vj (v:Value)(d:S w)(h:wpAnyH P md ops Q S fuel (listed.setIfInBounds i true) (a.put oi.dst v) w)(f:ops[i]?=some oi:=by rfl)
  (e:(Region.noSelect ops&&(Region.free md ops listed i&&(Region.ready md ops listed).contains i))=true:=by kernel_rfl) (b:∀c a w,Q (.panic c) (a.put oi.dst v) w->Q (.panic c) a w:=by exact λ_ _ _ h=>h) (g:YieldsIf P ops S oi v a:=by exact .inl ⟨rfl,λw ⟨s0,s1,s2⟩=>VG⟩):wpAnyH P md ops Q S (fuel+1) listed a w:=il i v f e b g d h
theorem Vk (v:Value)(d:S w)(h:wpAnyH P md ops Q S fuel (listed.setIfInBounds i true) (a.put oi.dst v) w)(f:ops[i]?=some oi:=by rfl)
  (e:(Region.noSelect ops&&(Region.free md ops listed i&&(Region.ready md ops listed).contains i))=true:=by kernel_rfl) (b:∀c a w,Q (.panic c) (a.put oi.dst v) w->Q (.panic c) a w:=by exact λ_ _ _ h=>h) (g:YieldsIf P ops S oi v a:=by exact .inl ⟨rfl,λw ⟨sc,s0,s1,s2⟩=>VG⟩):wpAnyH P md ops Q S (fuel+1) listed a w:=il i v f e b g d h
theorem Vl (v:Value)(d:S w)(h:wpAnyH P md ops Q S fuel (listed.setIfInBounds i true) (a.put oi.dst v) w)(f:ops[i]?=some oi:=by rfl)
  (e:(Region.noSelect ops&&(Region.free md ops listed i&&(Region.ready md ops listed).contains i))=true:=by kernel_rfl) (b:∀c a w,Q (.panic c) (a.put oi.dst v) w->Q (.panic c) a w:=by exact λ_ _ _ h=>h) (g:YieldsIf P ops S oi v a:=by exact .inr ⟨rfl,rfl⟩):wpAnyH P md ops Q S (fuel+1) listed a w:=il i v f e b g d h
theorem UN (w:aw)(rb wb:Nat)(ws:List W)(i:Nat)(R:Rd w rb wb ws i):
  Calls prog 338 #[ah rb] w (rW w rb wb ws (jh ws i) λp w' e=>∃fv,e= .returned (.agg ((N5 p.oneof++ [fv]).toArray))/\w'.ownsRow w.heap.size 211 13 fv p.fields.length (p.fields.flatMap sH)):=by
 have⟨i0,VS,VT,VU,VV⟩:=info_parts Tryz.info211;have a:jD w.heap.size rb w (w.Vn #[aa 0,Vp,aa 0,ai] 208) i:=jD.oB R.next (Vt w _);have h:=R.alloc (am #[aa 0,Vp,aa 0,ai] 208);have f:=dZ.new w #[aa 0,Vp,aa 0,ai] 208;have L:¬w.heap.size=rb:=by have:=R.blocks;omega
 have b:¬rb=w.heap.size:=Vv;have c:w.heap.size<(w.alloc (am #[aa 0,Vp,aa 0,ai] 208)).heap.size:=Vw;generalize hr:jh ws i=r;have G:Hid (jh ws i=r):=hr;clear hr;go_in
 go_wp2_with fail;refine(Fk _ rb wb ws i _ [111,110,101,111,102] h Vz Vy).V ?_
 cases h1:gw ws [111,110,101,111,102] i with
 |error p=>
  rintro e w1 ⟨rfl,j,A⟩;obtain rfl:r= .error p:=by rw[<-G.o,jh,gk h1]
  unfold d5;go_wp2
  exact⟨rfl,rfl,j,a.J A Vv⟩
 |ok q=>
  obtain⟨_,l⟩:=q;rintro e w1 ⟨rfl,k,A⟩;have d:w.heap.size<w1.heap.size:=aI c A.size;have g:=f.adv_ A c L;have b:=a.J A Vv;clear A h f a c;go_wp2_with fail;refine(Sq _ rb wb ws l 1 k Vy).V ?_
  cases h2:kO ws 1 l with
  |error p=>
   rintro e w2 ⟨rfl,j,A⟩;obtain rfl:r= .error p:=by rw[<-G.o,jh,eO h1,gk h2]
   unfold d5;go_wp2
   exact⟨rfl,rfl,j,b.J A Vv⟩
  |ok q=>
   obtain⟨x,m⟩:=q;rintro e w2 ⟨rfl,l,A⟩;have z2:w.heap.size<w2.heap.size:=aI d A.size;have h:=(g.adv_ A d L).alloc (am #[aa (dX x.1),ag x.1,aa x.2,ai] 208);have f:=dZ.new w2 #[aa (dX x.1),ag x.1,aa x.2,ai] 208;have a:=(b.J A Vv).alloc (aE _) (am #[aa (dX x.1),ag x.1,aa x.2,ai] 208);have C:=l.alloc (am #[aa (dX x.1),ag x.1,aa x.2,ai] 208);have c:w2.heap.size<(w2.alloc (am #[aa (dX x.1),ag x.1,aa x.2,ai] 208)).heap.size:=Vw;have z:¬w2.heap.size=rb:=by have:=R.blocks;omega
   have n6:¬w2.heap.size=w.heap.size:=Vv;clear A k g b d;go_wp2_with fail;refine(Fk _ rb wb ws m _ [123] C Vz Vy).V ?_
   cases h3:gw ws [123] m with
   |error p=>
    rintro e w3 ⟨rfl,j,A⟩;obtain rfl:r= .error p:=by rw[<-G.o,jh,eO h1,eO h2,gk h3]
    unfold d5;go_wp2
    exact⟨rfl,rfl,j,a.J A Vv⟩
   |ok q=>
    obtain⟨_,g⟩:=q;rintro e w3 ⟨rfl,Q,A⟩;have E:w2.heap.size<w3.heap.size:=aI c A.size;have P:=h.adv_ A Vv L;have H:=f.adv_ A c z;have N:=a.J A Vv;clear A l C h f a c;go_wp2_with fail;have j3:=H.cell 3
    cases h4:fZ ws 3 g with
    |error p=>
     obtain rfl:r= .error p:=by rw[<-G.o,jh,eO h1,eO h2,eO h3,gk h4]
     refine wp_region_held_drew (S:=λw'=>w'.cell? (aj w2.heap.size 3)=some (ai)) VA (by simpa using j3) (λhHeld=> ?_);refine il 0 (.pointer (some (aj w2.heap.size 3))) rfl VA (λ_ _ _ h=>h) (Or.inl ⟨VB,λw s=>by dsimp only at s;go_simp⟩) hHeld ?_;refine il 1 (ai) rfl VA (λ_ _ _ h=>h) (Or.inl ⟨VB,λw s=>by dsimp only at s;go_simp⟩) hHeld ?_;refine il 2 (ah rb) rfl VA (λ_ _ _ h=>h) (Or.inl ⟨VB,λw s=>by dsimp only at s;go_simp⟩) hHeld ?_;simp only[Act.put,Vo];refine wpAnyH_ready (rs:= [3]) VA Vw (AllReadyH.cons rfl (λK hK=> ?_) AllReadyH.nil);clear hK;go_simp;refine(Ob _ rb wb ws g 3 Q.drew).V ?_;rw[h4];rintro e m ⟨rfl,j,A⟩
     exact⟨rfl,rfl,j,N.drew.J A Vx⟩
    |ok q=>
     obtain⟨f,y⟩:=q;have T:Hid (sH f=_):=rX h4;obtain⟨M,u⟩:∃M,Hid (nQ [f] (gJ (gy ws [125]) (fZ ws 3) ws.length y)=M):=⟨_,rfl⟩;have VQ:Hid ((gP M λl i=>gP (gw ws [125] i) λ_ i=> .ok (⟨some x,l⟩,i))=r):=(by have:=G.o;rw[jh,eO h1,eO h2,eO h3,eO h4,u.o]at this;exact this);clear G h1 h2 h3;go_cut []from 11 to 17 (λwr=>∃(n k:Nat) (fs:List eW) (fv:Value),fs.length<=k/\ws.length-k<=n/\Hid (nQ fs (gJ (gy ws [125]) (fZ ws 3) n k)=M)/\Rd wr rb wb ws k/\jD w.heap.size rb w wr k/\dZ wr w.heap.size #[aa 0,Vp,aa 0,ai] 208/\dZ wr w2.heap.size #[aa (dX x.1),ag x.1,aa x.2,fv] 208/\wr.ownsRow (w2.heap.size+1) 211 13 fv fs.length (fs.flatMap sH)/\w2.heap.size<wr.heap.size)
     case first=>
      have J:=H;have c:=Q;have U:Hid (some w2.heap.size≠(Value.slice none 0 0).ownBlock):=by simp[Hid,Value.ownBlock]
      go_region_law (first|(refine step_append_lies _ VB _ _ _ VB (w2.heap.size+1) 211 i0 _ 13 136 underlying206 VS VT VU VV rfl Vv (ai) 0 [] VB (br _ _ _ _) (aj m.heap.size 0) 1 1 [_,_,_,_,_,_,_,_,_,_,_,_,_] VB VB (bz (t:=211) (fr:=(0,0)) (heap_alloc_new m _)) VD Vv VC Vv (by have:=A.size;simp at this⊢;omega) (m.heap.size+1) Vw ?_;intro v d w5 VM o V0 V7;have⟨x1,x2⟩:=(((J.drew.adv_ A Vx z).alloc _).grown o U.o).I)|(go_simp;go_at_call 341;refine(Ob _ rb wb ws g 3 c.drew).V ?_;rw[h4];rintro e m ⟨rfl,V,A⟩;have⟨y1,y2⟩:=(J.drew.adv_ A Vx z).I;have⟨y3,y4,y5,y6⟩:=gW (w:=m) (b:=w2.heap.size) (by have:=A.size;simp at this;omega)))
      all_goals
       go_wp2;go_meet
       case rel=>
        go_light;have VW:w3.heap.size<=m.heap.size:=by have:=A.size;simpa using this
        have B:=((((N.drew.J A Vx).alloc (aE _) _).grown o (aE _) (λk D=>by simp[Value.ownBlock]at D))).setCell (a:=(aj w2.heap.size 3)) Vx (Vr v (0+1) d);have l:g<y:=lL _ _ _ _ _ h4;refine⟨ws.length,y,[f],Vr v (0+1) d,Vx,Vv,u,B.rd R R.blocks.1 R.blocks.2 V.lt,B,?_,?_,?_,?_⟩;.exact(((P.drew.adv_ A Vx L).alloc _).grown o (by simp[Value.ownBlock])).other 3 _ n6
        .exact(((H.drew.adv_ A Vx z).alloc _).grown o (by simp[Value.ownBlock])).set 3 _
        .have:=ownsRow_setCell_below VM (a:=(aj w2.heap.size 3)) Vw (Vr v (0+1) d);simpa [T.o]using this
        .have:=o.size;simp[World.setCell]at this⊢;omega
     case rest=>
      clear H Q P N E j3 h4 T u;go_wp2;go_loopw [20] (λ_ wr=>∃(n k:Nat) (fs:List eW) (fv:Value),fs.length<=k/\ws.length-k<=n/\Hid (nQ fs (gJ (gy ws [125]) (fZ ws 3) n k)=M)/\Rd wr rb wb ws k/\jD w.heap.size rb w wr k/\dZ wr w.heap.size #[aa 0,Vp,aa 0,ai] 208/\dZ wr w2.heap.size #[aa (dX x.1),ag x.1,aa x.2,fv] 208/\wr.ownsRow (w2.heap.size+1) 211 13 fv fs.length (fs.flatMap sH)/\w2.heap.size<wr.heap.size) (λ_ wr=>ws.length-jt rb wr)
      case atStart=>exact hcut
      case round=>
       clear hcut;obtain⟨n,k,fs,fv,g,u,l,c,F,I,J,X,Z⟩:=hrel;have D:=c.lt;have g:=c.few;have g:=c.nextOf;have HN:Hid (jt rb wr=k):=g;clear g;have⟨y,E⟩:=c.word;cases hs:(y.1.toList== [125])
       .have Y:gy ws [125] k=false:=by unfold gy;simp only[E,hs]
        have G:Hid (ws[k]?=some y):=E;clear E;go_wp2_with fail;refine(N2 _ rb wb ws k y _ c G.o).V ?_;rintro e w3 ⟨rfl,g⟩;rw[show(ByteArray.mk #[125]).toList= [125]from by decide+kernel];have C:=c.G g c.blocks.1 c.blocks.2;have u:=F.G g F.size;have K3:=I.G g I.lt;have O:=J.G g J.lt;have D:w3.ownsRow (w2.heap.size+1) 211 13 fv fs.length (fs.flatMap sH):=eZ g X;have VX:w2.heap.size<w3.heap.size:=aI Z g.size;have U:Hid (some w2.heap.size≠fv.ownBlock):=(by intro e;have:=(D.lt _ e.sy).1;omega);clear c F I J X Z g;go_wp2_with fail;have j3:=O.cell 3
        cases h4:fZ ws 3 k with
        |error p=>
         obtain rfl:r= .error p:=(by rw[<-VQ.o,<-l.o,qQ Y Vv h4];rfl);refine wp_region_held_drew (S:=λw'=>w'.cell? (aj w2.heap.size 3)=some fv) VA (by simpa using j3) (λhHeld=> ?_);refine il 0 (.pointer (some (aj w2.heap.size 3))) rfl VA (λ_ _ _ h=>h) (Or.inl ⟨VB,λw s=>by dsimp only at s;go_simp⟩) hHeld ?_;refine il 1 fv rfl VA (λ_ _ _ h=>h) (Or.inl ⟨VB,λw s=>by dsimp only at s;go_simp⟩) hHeld ?_;refine il 2 (ah rb) rfl VA (λ_ _ _ h=>h) (Or.inl ⟨VB,λw s=>by dsimp only at s;go_simp⟩) hHeld ?_;simp only[Act.put,Vo];refine wpAnyH_ready (rs:= [3]) VA Vw (AllReadyH.cons rfl (λK hK=> ?_) AllReadyH.nil);clear hK;go_simp;refine(Ob _ rb wb ws k 3 C.drew).V ?_;rw[h4];rintro e m ⟨rfl,j,A⟩
         exact⟨rfl,rfl,j,u.drew.J A (by have:=u.size;simp;omega)⟩
        |ok q=>
         obtain⟨f,h⟩:=q;have T:Hid (sH f=_):=rX h4;have q:k<h:=lL _ _ _ _ _ h4;have s:Hid (nQ (fs++ [f]) (gJ (gy ws [125]) (fZ ws 3) (n-1) h)=M):=(by rw[<-l.o,sM fs Y Vv h4];exact rfl);have J:=O;have c:=C;go_region_law (first|(refine step_append_lies _ VB _ _ _ VB (w2.heap.size+1) 211 i0 _ 13 136 underlying206 VS VT VU VV rfl Vv fv fs.length (fs.flatMap sH) VB ((jW A (aE _) (by have:=R.blocks;omega) (pp D)).alloc _) (aj m.heap.size 0) 1 1 [_,_,_,_,_,_,_,_,_,_,_,_,_] VB VB (bz (t:=211) (fr:=(0,0)) (heap_alloc_new m _)) VD Vv VC Vv (by have:=A.size;simp at this⊢;omega) (m.heap.size+1) Vw ?_;intro v d w5 VM o V0 V7;have⟨x1,x2⟩:=(((J.drew.adv_ A Vx z).alloc _).grown o U.o).I)|(go_simp;go_at_call 341;refine(Ob _ rb wb ws k 3 c.drew).V ?_;rw[h4];rintro e m ⟨rfl,V,A⟩;have⟨y1,y2⟩:=(J.drew.adv_ A Vx z).I;have⟨y3,y4,y5,y6⟩:=gW (w:=m) (b:=w2.heap.size) (by have:=A.size;simp at this;omega)))
         all_goals
          go_wp2;go_roundw
          case rel=>
           go_light;have VW:w3.heap.size<=m.heap.size:=by have:=A.size;simpa using this
           have t:=o.size;have B:=((((u.drew.J A (by have:=u.size;simp;omega)).alloc (aE _) _).grown o (aE _) (λj q=>by have:=(D.lt j q).1;omega))).setCell (a:=(aj w2.heap.size 3)) Vx (Vr v (fs.length+1) d);refine⟨n-1,h,fs++ [f],Vr v (fs.length+1) d,Vx,Vv,s,B.rd R R.blocks.1 R.blocks.2 V.lt,B,?_,?_,?_,?_⟩;.exact(((K3.drew.adv_ A Vx L).alloc _).grown o (λe=>by have:=(D.lt _ e.sy).1;omega)).other 3 _ n6
           .exact(((O.drew.adv_ A Vx z).alloc _).grown o U.o).set 3 _
           .have:=ownsRow_setCell_below VM (a:=(aj w2.heap.size 3)) Vw (Vr v (fs.length+1) d);simpa [T.o]using this
           .simp[World.setCell]at t⊢;omega
          case measure=>
           go_light;have B:=((((u.drew.J A (by have:=u.size;simp;omega)).alloc (aE _) _).grown o (aE _) (λj q=>by have:=(D.lt j q).1;omega))).setCell (a:=(aj w2.heap.size 3)) Vx (Vr v (fs.length+1) d);have a:=B.rd R R.blocks.1 R.blocks.2 V.lt;have d:=a.lt;rw[a.nextOf,HN.o];omega
       .have Y:gy ws [125] k=true:=by unfold gy;simp only[E,hs]
        have a:gw ws [125] k= .ok ((),k+1):=by unfold gw;simp only[E,hs];rfl
        have G:Hid (ws[k]?=some y):=E;clear E;obtain rfl:r= .ok (⟨some x,fs⟩,k+1):=(by rw[<-VQ.o,<-l.o,po Y];simp only[nQ,gP,a,bV]);go_wp2_with fail;refine(N2 _ rb wb ws k y _ c G.o).V ?_;rintro e w3 ⟨rfl,g⟩;rw[show(ByteArray.mk #[125]).toList= [125]from by decide+kernel];have C:=c.G g c.blocks.1 c.blocks.2;have u:=F.G g F.size;have K3:=I.G g I.lt;have O:=J.G g J.lt;have D:w3.ownsRow (w2.heap.size+1) 211 13 fv fs.length (fs.flatMap sH):=eZ g X;have VX:w2.heap.size<w3.heap.size:=aI Z g.size;clear c F I J X Z g;go_wp2_with fail;refine(Fk _ rb wb ws k _ [125] C Vz Vy).V ?_;rw[a];rintro e m ⟨rfl,Q,A⟩;have P:=K3.adv_ A Vv L;have H:=O.adv_ A Vv z;have N:=u.J A u.size;have f:m.ownsRow (w2.heap.size+1) 211 13 fv fs.length (fs.flatMap sH):=jW A (aE _) (by have:=R.blocks;omega) D;obtain⟨a,fn,c,rfl⟩:=d7 f;have⟨h,d⟩:=P.I;have⟨d,g⟩:=H.I;go_wp2;have d:=N.sets (b:=w.heap.size) (aE _) [aa (dX x.1),ag x.1,aa x.2,.slice a fn c] 0;have g:=P.sets_all [aa (dX x.1),ag x.1,aa x.2,.slice a fn c] rfl;refine dU (ew results338 _ _ rfl g underlying208 VA) rfl ⟨⟨_,rfl,?_⟩,?_,d⟩;.exact kc (lo:=w.heap.size) f (b:=w.heap.size) (Nat.lt_succ_of_lt z2) (Nat.le_succ_of_le (cA z2)) [aa (dX x.1),ag x.1,aa x.2,.slice a fn c] 0
        .exact d.rd R R.blocks.1 R.blocks.2 Q.lt
end
section
attribute [local go_sem] jS jT jU
def mX:Option W->Int
 |some x=>dX x.1
 |none=>0
def jM:Option W->au
 |some x=>x.1
 |none=>⟨#[]⟩
def nU:Option W->Nat
 |some x=>x.2
 |none=>0
abbrev FC (f:eW):aq:= #[aa f.form,aa (mX f.key),ag (jM f.key),aa (nU f.key),aa (dX f.type.1),ag f.type.1,aa f.type.2,aa (dX f.name.1),ag f.name.1,aa f.name.2,aa (dX f.num.1),ag f.num.1,aa f.num.2]
abbrev FO (f:eW):Obj:=Obj.cells (FC f) 211
def Oc (o:Option W):N5 o= [aa (mX o),ag (jM o),aa (nU o)]:=by cases o<;>rfl
def GS (w:aw)(p:fK)(w':aw)(e:Ending):Prop:=
 ∃fa fn fc,e= .returned (.agg #[aa (mX p.oneof),ag (jM p.oneof),aa (nU p.oneof),.slice fa fn fc])/\w'.ownsRow w.heap.size 211 13 (.slice fa fn fc) p.fields.length (p.fields.flatMap sH)
def TL (w:aw)(rb wb:Nat)(ws:List W)(i:Nat)(R:Rd w rb wb ws i):
  Vq 338 #[ah rb] w (rW w rb wb ws (jh ws i) (GS w)):=by
 refine(UN w rb wb ws i R).V λe w' h=> ?_
 cases hf:jh ws i with
 |error p=>rw[hf]at h;exact h
 |ok q=>
  obtain⟨p,j⟩:=q;rw[hf]at h;obtain⟨⟨g,d,a⟩,f⟩:=h;obtain⟨b,fn,c,rfl⟩:=d7 a;exact⟨⟨b,fn,c,by rw[d,Oc];rfl,a⟩,f⟩
def Dr {ws:List W}{i:Nat}{x:W}(s:ap)(h:ws[i]?=some x):gy ws s i=(x.1.toList==s):=by unfold gy;simp only[h]
abbrev PZ:aq:= #[aa 0,Vp,aa 0,ai]
def Uv (w:aw)(rb wb:Nat)(ws:List W)(i:Nat)(R:Rd w rb wb ws i):
  Calls prog 259 #[ah rb] w (rW w rb wb ws (kB ws i) (GS w)):=by
 have⟨x,O⟩:=R.word;have M:Hid (ws[i]?=some x):=O;have Q:jD w.heap.size rb w (w.alloc (Obj.cells PZ 208)) i:=jD.oB R.next (Vt w _);have z:=R.alloc (Obj.cells PZ 208);have V:=dZ.new w PZ 208;have G:¬w.heap.size=rb:=by have:=R.blocks;omega
 have a:¬rb=w.heap.size:=Vv;have J:w.heap.size<(w.alloc (Obj.cells PZ 208)).heap.size:=Vw;obtain⟨r,T⟩:∃r,Hid (kB ws i=r):=⟨_,rfl⟩;rw[T.o];have F:kB ws i=r:=T.o;unfold kB at F;simp only[Dr _ O]at F;have o:Hid _:=F;have Z:∀s:ap,(x.1.toList==s)=true->0<s.length->0<x.1.size:=λs h a=>sK h a
 have U:Hid _:=Z;clear O F Z;go_in
 go_wp2_with fail;refine(NO _ rb wb ws i x z M.o).V ?_;rintro e w1 ⟨rfl,D⟩;have m:=z.G D z.blocks.1 z.blocks.2;have l:=Q.G D (cA J);have t:=V.G D J;have d:w.heap.size<w1.heap.size:=aI J D.size;clear z Q V J D
 cases t0:(x.1.toList== [111,110,101,111,102])with
 |true=>
  have S:Hid (jh ws i=r):=by have:=o.o;rw[t0]at this;exact this
  go_wp2_with fail;refine(TL _ rb wb ws i m).V ?_
  cases h1:jh ws i with
  |error p=>
   rintro e w2 ⟨rfl,j,A⟩;obtain rfl:r= .error p:=S.o.sy.J h1;unfold d5;go_wp2
   exact⟨rfl,rfl,j,l.J A Vv⟩
  |ok q=>
   obtain⟨p,P⟩:=q;rintro e w2 ⟨⟨g,fn,k,rfl,E⟩,B,A⟩;obtain rfl:r= .ok (p,P):=S.o.sy.J h1;have y:=t.adv_ A d G;have L:=l.J A Vv;have⟨q,s⟩:=y.I;go_wp2;have C:=L.sets (b:=w.heap.size) (aE _) [aa (mX p.oneof),ag (jM p.oneof),aa (nU p.oneof),.slice g fn k] 0;have N:=y.sets_all [aa (mX p.oneof),ag (jM p.oneof),aa (nU p.oneof),.slice g fn k] rfl;refine dU (ew results259 _ _ rfl N underlying208 VA) rfl ⟨⟨g,fn,k,rfl,?_⟩,?_,C⟩;.exact kc (lo:=w.heap.size) E (b:=w.heap.size) d (cA d) [aa (mX p.oneof),ag (jM p.oneof),aa (nU p.oneof),.slice g fn k] 0
   .exact C.rd R R.blocks.1 R.blocks.2 B.lt
 |false=>
  rw[t0]at o
  have f:(x.1.toList== [109,97,112])=true\/((x.1.toList== [109,97,112])=false/\(x.1.toList== [114,101,112,101,97,116,101,100])=true)\/((x.1.toList== [109,97,112])=false/\(x.1.toList== [114,101,112,101,97,116,101,100])=false/\(x.1.toList== [111,112,116,105,111,110,97,108])=true)\/((x.1.toList== [109,97,112])=false/\(x.1.toList== [114,101,112,101,97,116,101,100])=false/\(x.1.toList== [111,112,116,105,111,110,97,108])=false):=by
   generalize(x.1.toList== [109,97,112])=a;generalize(x.1.toList== [114,101,112,101,97,116,101,100])=b;generalize(x.1.toList== [111,112,116,105,111,110,97,108])=c
   revert a b c;decide
  rcases f with n|⟨n,u⟩|⟨n,u,I⟩|⟨n,u,I⟩;have v:Hid (mB (nP ws i)=r):=by have:=o.o;rw[n]at this;exact this
  have H:=UL _ rb wb ws i m;generalize nP ws i=X at*;go_wp2_with fail;refine H.V ?_;rotate_left;have v:Hid (mB (fZ ws 2 (i+1))=r):=by have:=o.o;rw[n,u]at this;exact this
  go_wp2_with fail;refine(Sx _ rb wb ws i x m M.o (U.o _ u Vy)).V ?_;rintro e w2 ⟨rfl,B,A⟩;replace t:=t.adv_ A d G;replace l:=l.J A Vv;replace d:w.heap.size<w2.heap.size:=aI d A.size;clear A m;have H:=Ts _ rb wb ws (i+1) 2 B;generalize fZ ws 2 (i+1)=X at*;go_wp2_with fail;refine H.V ?_;rotate_left;have v:Hid (mB (fZ ws 1 (i+1))=r):=by have:=o.o;rw[n,u,I]at this;exact this
  go_wp2_with fail;refine(Sx _ rb wb ws i x m M.o (U.o _ I Vy)).V ?_;rintro e w2 ⟨rfl,B,A⟩;replace t:=t.adv_ A d G;replace l:=l.J A Vv;replace d:w.heap.size<w2.heap.size:=aI d A.size;clear A m;have H:=Ts _ rb wb ws (i+1) 1 B;generalize fZ ws 1 (i+1)=X at*;go_wp2_with fail;refine H.V ?_;rotate_left;have v:Hid (mB (fZ ws 0 i)=r):=by have:=o.o;rw[n,u,I]at this;exact this
  have H:=Ts _ rb wb ws i 0 m;generalize fZ ws 0 i=X at*;go_wp2_with fail;refine H.V ?_
  all_goals
   clear H;rcases X with p|⟨f,P⟩;.rintro e w3 ⟨rfl,j,A⟩;obtain rfl:r= .error p:=v.o.sy;unfold d5;go_wp2;exact⟨rfl,rfl,j,l.J A Vv⟩
   .rintro e w3 ⟨rfl,h,A⟩;obtain rfl:r= .ok (⟨none,[f]⟩,P):=v.o.sy;have c:=t.adv_ A d G;have a:=l.J A Vv;have K:w.heap.size<w3.heap.size:=aI d A.size;clear A;go_wp2_with fail;refine(UM _ f).V ?_;rintro e j ⟨d,rfl,E,Y⟩;obtain⟨g,fn,k,rfl⟩:=d7 E;have d:j.ownsRow w3.heap.size 211 13 (.slice g fn k) [f].length ([f].flatMap sH):=by simpa using E
    have y:=c.G Y K;have L:=a.G Y (cA K);have⟨q,s⟩:=y.I;go_wp2;have C:=L.sets (b:=w.heap.size) (aE _) [aa 0,Vp,aa 0,.slice g fn k] 0;have N:=y.sets_all [aa 0,Vp,aa 0,.slice g fn k] rfl;refine dU (ew results259 _ _ rfl N underlying208 VA) rfl ⟨⟨g,fn,k,rfl,?_⟩,?_,C⟩;.exact kc (lo:=w.heap.size) d (b:=w.heap.size) K (cA K) [aa 0,Vp,aa 0,.slice g fn k] 0
    .exact C.rd R R.blocks.1 R.blocks.2 h.lt
end
section
variable {w w':aw} {base k n:Nat} {T:TypeId} {v:Value} {xs:ay} {S S':ax} {b:d9} {a:aC}
def Fg (x:W×W):ay:=xw x.1++xw x.2
def eP (w:aw)(S:ax)(T:TypeId)(k:Nat)(v:Value)(n:Nat)(xs:ay):Prop:=
 w.ownsRow 0 T k v n xs/\∀b,v.ownBlock=some b->S b
theorem eD (h:w.ownsRow base T k v n xs)(j:∀b,v.ownBlock=some b->w'.heap[b]?=w.heap[b]?):w'.ownsRow base T k v n xs:=by
 refine⟨h.1,?_⟩;rcases h.2 with d|⟨g,a,c,rfl,e,f,i⟩;.exact .inl d
 .exact .inr ⟨g,a,c,rfl,e,(j g rfl).J f,i⟩
theorem eP.O (h:eP w S T k v n xs)(c:∀b,S b->b<w.heap.size->w'.heap[b]?=w.heap[b]?):eP w' S T k v n xs:=
 ⟨eD h.1 λb a=>c b (h.2 b a) (h.1.lt b a).2,h.2⟩
theorem eP.V (h:eP w S T k v n xs)(c:∀b,S b->b<w.heap.size->S' b):eP w S' T k v n xs:=
 ⟨h.1,λb a=>c b (h.2 b a) (h.1.lt b a).2⟩
theorem eP.of (h:w.ownsRow base T k v n xs):eP w (λb=>base<=b) T k v n xs:=
 ⟨pr h (aP _),λb a=>(h.lt b a).1⟩
def fM (w:aw)(S:ax):ay->List fK->Prop
 |cs,[]=>cs= []
 |cs,p::ps=>∃fa fn fc rest,cs=aa (mX p.oneof)::ag (jM p.oneof)::aa (nU p.oneof):: .slice fa fn fc::rest/\
   eP w S 211 13 (.slice fa fn fc) p.fields.length (p.fields.flatMap sH)/\fM w S rest ps
theorem fM.O (a:∀b,S b->b<w.heap.size->w'.heap[b]?=w.heap[b]?):∀{ps:List fK} {cs:ay},fM w S cs ps->fM w' S cs ps
 | [],_,h=>h
 |_::_,_,⟨fa,fn,fc,rest,h1,h2,h3⟩=>⟨fa,fn,fc,rest,h1,h2.O a,fM.O a h3⟩
theorem fM.V (a:∀b,S b->b<w.heap.size->S' b):∀{ps:List fK} {cs:ay},fM w S cs ps->fM w S' cs ps
 | [],_,h=>h
 |_::_,_,⟨fa,fn,fc,rest,h1,h2,h3⟩=>⟨fa,fn,fc,rest,h1,h2.V a,fM.V a h3⟩
theorem fM.snoc {p:fK}{fa:aC}{fn fc:Nat}(a:eP w S 211 13 (.slice fa fn fc) p.fields.length (p.fields.flatMap sH)):∀{ps:List fK} {cs:ay},fM w S cs ps->
   fM w S (cs++ [aa (mX p.oneof),ag (jM p.oneof),aa (nU p.oneof),.slice fa fn fc]) (ps++ [p])
 | [],cs,h=>by
  obtain rfl:cs= []:=h
  exact⟨fa,fn,fc,[],rfl,a,rfl⟩
 |_::_,cs,⟨ga,gn,gc,rest,h1,h3,h4⟩=>by
  subst h1;exact⟨ga,gn,gc,_,rfl,h3,fM.snoc a h4⟩
def kI (w:aw)(S:ax)(b:d9)(pv vv:Value):Prop:=
 ∃pcs,eP w S 208 4 pv b.parts.length pcs/\fM w S pcs b.parts/\eP w S 302 6 vv b.values.length (b.values.flatMap Fg)
theorem kI.O {pv vv:Value}(a:∀b,S b->b<w.heap.size->w'.heap[b]?=w.heap[b]?):kI w S b pv vv->kI w' S b pv vv
 |⟨pcs,h1,h2,h3⟩=>⟨pcs,h1.O a,h2.O a,h3.O a⟩
theorem kI.V {pv vv:Value}(a:∀b,S b->b<w.heap.size->S' b):kI w S b pv vv->kI w S' b pv vv
 |⟨pcs,h1,h2,h3⟩=>⟨pcs,h1.V a,h2.V a,h3.V a⟩
def fx (w:aw)(S:ax):ay->List d9->Prop
 |cs,[]=>cs= []
 |cs,b::bs=>∃pa pn pc va vn vc rest,cs= .bool b.enum::aa (dX b.name.1)::ag b.name.1::aa b.name.2:: .slice pa pn pc:: .slice va vn vc::rest/\
   kI w S b (.slice pa pn pc) (.slice va vn vc)/\fx w S rest bs
theorem fx.O (a:∀b,S b->b<w.heap.size->w'.heap[b]?=w.heap[b]?):∀{bs:List d9} {cs:ay},fx w S cs bs->fx w' S cs bs
 | [],_,h=>h
 |_::_,_,⟨pa,pn,pc,va,vn,vc,rest,h1,h2,h3⟩=>⟨pa,pn,pc,va,vn,vc,rest,h1,h2.O a,fx.O a h3⟩
theorem fx.V (a:∀b,S b->b<w.heap.size->S' b):∀{bs:List d9} {cs:ay},fx w S cs bs->fx w S' cs bs
 | [],_,h=>h
 |_::_,_,⟨pa,pn,pc,va,vn,vc,rest,h1,h2,h3⟩=>⟨pa,pn,pc,va,vn,vc,rest,h1,h2.V a,fx.V a h3⟩
theorem fx.snoc {pa va:aC}{pn pc vn vc:Nat}(a:kI w S b (.slice pa pn pc) (.slice va vn vc)):∀{bs:List d9} {cs:ay},fx w S cs bs->
   fx w S (cs++ [.bool b.enum,aa (dX b.name.1),ag b.name.1,aa b.name.2,.slice pa pn pc,.slice va vn vc]) (bs++ [b])
 | [],cs,h=>by
  obtain rfl:cs= []:=h
  exact⟨pa,pn,pc,va,vn,vc,[],rfl,a,rfl⟩
 |_::_,cs,⟨qa,qn,qc,ra,rn,rc,rest,h1,h3,h4⟩=>by
  subst h1;exact⟨qa,qn,qc,ra,rn,rc,_,rfl,h3,fx.snoc a h4⟩
def sN (w:aw)(b:d9)(w':aw)(e:Ending):Prop:=
 ∃pa pn pc va vn vc,e= .returned (.agg #[.bool b.enum,aa (dX b.name.1),ag b.name.1,aa b.name.2,.slice pa pn pc,.slice va vn vc])/\
  kI w' (λx=>w.heap.size<=x) b (.slice pa pn pc) (.slice va vn vc)
def Oe (w:aw)(bs:List d9)(w':aw)(e:Ending):Prop:=
 ∃a n c cs,e= .returned (.agg #[.slice a n c])/\eP w' (λx=>w.heap.size<=x) 152 6 (.slice a n c) bs.length cs/\fx w' (λx=>w.heap.size<=x) cs bs
theorem Tryz.info302:(prog.info? 302).map (λi=>(i.zero,i.size,i.bytes))=some (some (.agg #[aa 0,Vp,aa 0,aa 0,Vp,aa 0]),6,64):=VA
theorem Tryz.info208:(prog.info? 208).map (λi=>(i.zero,i.size,i.bytes))=some (some (.agg #[aa 0,Vp,aa 0,ai]),4,56):=VA
theorem Tryz.info152:(prog.info? 152).map (λi=>(i.zero,i.size,i.bytes))=some (some (.agg #[.bool false,aa 0,Vp,aa 0,ai,ai]),6,88):=VA
theorem fj {m:Nat}{c:Nat}(h:w.ownsRow base T k (.slice a n c) m xs):n=m:=by
 rcases h.2 with⟨b,d⟩|⟨g,e,f,b,d⟩;.cases b;exact d.sy
 .cases b;rfl
theorem iB {m:Nat}(h:w.ownsRow base T k v m xs):∃a c,v= .slice a m c:=by
 obtain⟨a,n,c,rfl⟩:=d7 h;rw[fj h];exact⟨a,c,rfl⟩
theorem eJ {m:Nat}{c:Nat}(h:w.ownsRow base T k (.slice a n c) m xs)(hm:0<m):
  ∃g,a=some (aj g 0)/\base<=g/\g<w.heap.size/\∀w':aw,w'.heap[g]?=w.heap[g]?->∀j u,xs[j]?=some u->w'.cell? (aj g j)=some u:=by
 rcases h.2 with⟨d,e⟩|⟨g,l,i,d,e,f,r,s,t,o⟩;.omega
 .cases d;refine⟨g,rfl,e,dZ.lt f,λw' q j u b=> ?_⟩;have p:dZ w' g i T:=q.J f;rw[p.cell];rw[<-o,List.getElem?_take]at b;split at b;.rw[<-bS];exact b
  .simp at b
def fU (l:aA):ay:=l.map Value.string
theorem iu {a b:aw}(h:Below n a b)(k:Nat):Below n a (b.drewN k):=h.J ⟨rfl,rfl,rfl,aE _,λ_ _=>rfl⟩
theorem Tryz.info9:(prog.info? 9).map (λi=>(i.zero,i.size,i.bytes))=some (some (Vp),1,16):=VA
theorem gd {α:Type}(f:α->ay)(k:Nat)(a:∀x,(f x).length=k):∀(l:List α) (i:Nat) (x:α),l[i]?=some x->∀j,j<k->(l.flatMap f)[i*k+j]?=(f x)[j]?
 | [],i,x,h,j,hj=>by simp at h
 |y::l,0,x,h,j,hj=>by
  simp at h;subst h
  rw[bt,Nat.zero_mul,Nat.zero_add,cy (by rw[a];exact hj)]
 |y::l,i+1,x,h,j,hj=>by
  rw[bt,cj (by rw[a,Nat.succ_mul];omega),a];have:=gd f k a l i x (by simpa using h) j hj;rw[<-this];congr 1;rw[Nat.succ_mul];omega
def im (k:Int)(s:au):Bool:=k==3&&(!(s.toList== [102,108,111,97,116])&&(!(s.toList== [100,111,117,98,108,101])&& !(s.toList== [98,121,116,101,115])))
end
section
attribute [local go_sem] jS jT jU
open VH
def ji (w:aw){c:Nat}(b:Nat)(a:c≠b):∀(vs:ay) (o:Nat),(w.setCells c o vs).heap[b]?=w.heap[b]?
 | [],o=>rfl
 |v::vs,o=>by
  have:=ji (w.setCell (aj c o) v) b a vs (o+1);rw[dY,dQ a]at this;simpa [World.setCells]using this
def fM.appended {w w5:aw}{v:Value}{gg H b1 off:Nat}{u:Value}{cs:ay}{ps:List fK}(g:w.grownBy w5 v.ownBlock)(i:v.ownBlock=some gg\/gg=H)(hH:w.heap.size=H)
  (h:fM w (λb=>b1<b/\some b≠v.ownBlock) cs ps) {cap n:Nat}:fM (w5.setCell (aj b1 off) u) (λb=>b1<b/\some b≠(Value.slice (some (aj gg 0)) n cap).ownBlock) cs ps:=by
 have d:fM w (λb=>b1<b/\some b≠v.ownBlock/\some b≠some gg) cs ps:=h.V λb a c=>⟨a.1,a.2,λe=>by
  grind⟩
 have f:fM (w5.setCell (aj b1 off) u) (λb=>b1<b/\some b≠v.ownBlock/\some b≠some gg) cs ps:=fM.O (w:=w) (λb a c=>by
  rw[dY,dQ Vv]
  exact g.block b c a.2.1) d
 exact f.V λb a _=>⟨a.1,a.2.2⟩
def UO (w:aw)(rb wb:Nat)(ws:List W)(i:Nat)(R:Rd w rb wb ws i):
  Calls prog 177 #[ah rb] w (rW w rb wb ws (ij ws i) (sN w)):=by
 have⟨i0,Q,V9,Wb,Wd⟩:=info_parts Tryz.info208;have a:jD w.heap.size rb w (w.Vn #[.bool false,aa 0,Vp,aa 0,ai,ai] 152) i:=jD.oB R.next (Vt w _);have h:=R.alloc (am #[.bool false,aa 0,Vp,aa 0,ai,ai] 152);have f:=dZ.new w #[.bool false,aa 0,Vp,aa 0,ai,ai] 152;have N:¬w.heap.size=rb:=by have:=R.blocks;omega
 have b:¬rb=w.heap.size:=Vv;have c:w.heap.size<(w.alloc (am #[.bool false,aa 0,Vp,aa 0,ai,ai] 152)).heap.size:=Vw;generalize hr:ij ws i=r;have H:Hid (ij ws i=r):=hr;clear hr;go_in
 go_wp2_with fail;refine(Fk _ rb wb ws i _ [109,101,115,115,97,103,101] h Vz Vy).V ?_
 cases h1:gw ws [109,101,115,115,97,103,101] i with
 |error p=>
  rintro e w1 ⟨rfl,j,A⟩;obtain rfl:r= .error p:=by rw[<-H.o,ij,gk h1]
  unfold d5;go_wp2
  exact⟨rfl,rfl,j,a.J A Vv⟩
 |ok q=>
  obtain⟨_,l⟩:=q;rintro e w1 ⟨rfl,k,A⟩;have d:w.heap.size<w1.heap.size:=aI c A.size;have g:=f.adv_ A c N;have b:=a.J A Vv;clear A h f a c;go_wp2_with fail;refine(Sq _ rb wb ws l 1 k Vy).V ?_
  cases h2:kO ws 1 l with
  |error p=>
   rintro e w2 ⟨rfl,j,A⟩;obtain rfl:r= .error p:=by rw[<-H.o,ij,eO h1,gk h2]
   unfold d5;go_wp2
   exact⟨rfl,rfl,j,b.J A Vv⟩
  |ok q=>
   obtain⟨x,m⟩:=q;rintro e w2 ⟨rfl,l,A⟩;have z2:w.heap.size<w2.heap.size:=aI d A.size;have h:=(g.adv_ A d N).alloc (am #[.bool false,aa (dX x.1),ag x.1,aa x.2,ai,ai] 152);have f:=dZ.new w2 #[.bool false,aa (dX x.1),ag x.1,aa x.2,ai,ai] 152;have a:=(b.J A Vv).alloc (aE _) (am #[.bool false,aa (dX x.1),ag x.1,aa x.2,ai,ai] 152);have D:=l.alloc (am #[.bool false,aa (dX x.1),ag x.1,aa x.2,ai,ai] 152);have c:w2.heap.size<(w2.alloc (am #[.bool false,aa (dX x.1),ag x.1,aa x.2,ai,ai] 152)).heap.size:=Vw;have O:¬w2.heap.size=rb:=by have:=R.blocks;omega
   have n6:¬w2.heap.size=w.heap.size:=Vv;have n:rb<w2.heap.size:=by have:=R.blocks;omega
   clear A k g b d;go_wp2_with fail;refine(Fk _ rb wb ws m _ [123] D Vz Vy).V ?_
   cases h3:gw ws [123] m with
   |error p=>
    rintro e w3 ⟨rfl,j,A⟩;obtain rfl:r= .error p:=by rw[<-H.o,ij,eO h1,eO h2,gk h3]
    unfold d5;go_wp2
    exact⟨rfl,rfl,j,a.J A Vv⟩
   |ok q=>
    obtain⟨_,d⟩:=q;rintro e w3 ⟨rfl,U,A⟩;have o:w2.heap.size<w3.heap.size:=aI c A.size;have L:=h.adv_ A Vv N;have T:=f.adv_ A c O;have P:=a.J A Vv;clear A l D h f a c;obtain⟨M,a⟩:∃M,Hid (gJ (gy ws [125]) (kB ws) ws.length d=M):=⟨_,rfl⟩;have VX:Hid ((gP M λl i=>gP (gw ws [125] i) λ_ i=> .ok (⟨false,x,l,[]⟩,i))=r):=(by have:=H.o;rw[ij,eO h1,eO h2,eO h3,a.o]at this;exact this);clear H h1 h2 h3;go_wp2;go_loopw [13] (λ_ wr=>∃(n k:Nat) (c:List fK) (f:aC) (m g:Nat) (v:ay),c.length<=k/\ws.length-k<=n/\Hid (nQ c (gJ (gy ws [125]) (kB ws) n k)=M)/\Rd wr rb wb ws k/\jD w.heap.size rb w wr k/\dZ wr w.heap.size #[.bool false,aa 0,Vp,aa 0,ai,ai] 152/\dZ wr w2.heap.size #[.bool false,aa (dX x.1),ag x.1,aa x.2,.slice f m g,ai] 152/\wr.ownsRow (w2.heap.size+1) 208 4 (.slice f m g) c.length v/\fM wr (λb=>w2.heap.size<b/\some b≠(Value.slice f m g).ownBlock) v c/\w2.heap.size<wr.heap.size) (λ_ wr=>ws.length-jt rb wr)
    case atStart=>
     refine⟨ws.length,d,[],none,0,0,[],Vw,Vv,?_,U,P,L,T,br _ _ _ _,rfl,o⟩;rw[<-a.o];unfold Hid nQ gP;cases gJ (gy ws [125]) (kB ws) ws.length d<;>rfl
    case round=>
     clear T U L P o a;obtain⟨n,k,c,f,m,g,v,a,d,HP,o,F,G,J,V,Y,H⟩:=hrel;have a:=o.lt;have a:=o.few;have HN:Hid (jt rb wr=k):=o.nextOf;have⟨y,l⟩:=o.word;cases hs:(y.1.toList== [125])
     .have X:gy ws [125] k=false:=by unfold gy;grind
      have HY:Hid (ws[k]?=some y):=l;clear l;go_wp2_with fail;refine(N2 _ rb wb ws k y _ o HY.o).V ?_;rintro e w3 ⟨rfl,d⟩;rw[show(ByteArray.mk #[125]).toList= [125]from by decide+kernel];have D:=o.G d o.blocks.1 o.blocks.2;have z:=F.G d F.size;have K3:=G.G d G.lt;have I:=J.G d J.lt;have C:w3.ownsRow (w2.heap.size+1) 208 4 (.slice f m g) c.length v:=eZ d V;have VN:=Y.O (λb _ s=>d.block b s);have VY:w2.heap.size<w3.heap.size:=aI H d.size;have Z:Hid (some w2.heap.size≠(Value.slice f m g).ownBlock):=(by intro e;have:=(C.lt _ e.sy).1;omega);clear o F G J V Y H d;go_wp2_with fail;have a:=I.cell 4
      cases h4:kB ws k with
      |error p=>
       obtain rfl:r= .error p:=(by rw[<-VX.o,<-HP.o,qQ X Vv h4];rfl);refine wp_region_held_drew (S:=λw'=>w'.cell? (aj w2.heap.size 4)=some (.slice f m g)) VB (by simpa using a) (λhHeld=> ?_);refine il 0 (.pointer (some (aj w2.heap.size 4))) rfl VA (λ_ _ _ h=>h) (Or.inl ⟨VB,λw a=>VB⟩) hHeld ?_;refine il 1 (.slice f m g) rfl VA (λ_ _ _ h=>h) (Or.inl ⟨VB,λw a=>by dsimp only at a;go_simp⟩) hHeld ?_;refine il 2 (ah rb) rfl VA (λ_ _ _ h=>h) (Or.inl ⟨VB,λw a=>VB⟩) hHeld ?_;simp only[Act.put,Vo];refine wpAnyH_ready (rs:= [3]) VA Vw (AllReadyH.cons rfl (λK a=> ?_) AllReadyH.nil);clear a;go_simp;refine(Uv _ rb wb ws k D.drew).V ?_;rw[h4];rintro e u ⟨rfl,j,A⟩
       exact⟨rfl,rfl,j,z.drew.J A (by have:=z.size;simp;omega)⟩
      |ok q=>
       obtain⟨p,K⟩:=q;have a:k<K:=Dq _ _ _ _ h4;have S:Hid (nQ (c++ [p]) (gJ (gy ws [125]) (kB ws) (n-1) K)=M):=(by rw[<-HP.o,sM c X Vv h4];rfl);have J:=I;have o:=D;go_region_law (first|(refine step_append_lies _ VB _ _ _ VB (w2.heap.size+1) 208 i0 _ 4 56 underlying149 Q V9 Wb Wd rfl Vv (.slice f m g) c.length v VB ((jW A (aE _) Vv (pp C)).alloc _) (aj u.heap.size 0) 1 1 [_,_,_,_] VB VB (bz (t:=208) (fr:=(0,0)) (heap_alloc_new u _)) VD Vv VC Vv (by have:=A.size;simp at this⊢;omega) (u.heap.size+1) Vw ?_;intro h B q VP E VZ a;have⟨x1,x2⟩:=(((J.drew.adv_ A Vx O).alloc _).grown E Z.o).I)|(go_simp;go_at_call 259;refine(Uv _ rb wb ws k o.drew).V ?_;rw[h4];rintro e u ⟨⟨fa,fn,fc,rfl,VQ⟩,M,A⟩;have⟨y1,y2⟩:=(J.drew.adv_ A Vx O).I;have⟨y3,y4,y5,y6⟩:=gW (w:=u) (b:=w2.heap.size) (by have:=A.size;simp at this;omega)))
       all_goals
        go_wp2;go_roundw
        case rel=>
         go_light;have a:w3.heap.size<=u.heap.size:=by have:=A.size;simpa using this
         have t:=E.size;have Q:=((((z.drew.J A (by have:=z.size;simp;omega)).alloc (aE _) _).grown E (aE _) (λj q=>by have:=(C.lt j q).1;omega))).setCell (a:=(aj w2.heap.size 4)) (by grind) (Vr h (c.length+1) B);refine⟨n-1,K,c++ [p],some (aj h 0),c.length+1,B,v++ [aa (mX p.oneof),ag (jM p.oneof),aa (nU p.oneof),.slice fa fn fc],by grind,Vv,S,Q.rd R R.blocks.1 R.blocks.2 M.lt,Q,?_,?_,?_,?_,?_⟩;rotate_left 2;.have:=ownsRow_setCell_below VP (a:=(aj w2.heap.size 4)) Vw (Vr h (c.length+1) B);grind
         rotate_left 2;.exact(((K3.drew.adv_ A Vx N).alloc _).grown E (λe=>by have:=(C.lt _ e.sy).1;omega)).other 4 _ n6
         .exact(((I.drew.adv_ A Vx O).alloc _).grown E Z.o).set 4 _
         .refine fM.appended E VZ Vw ?_;refine fM.snoc ?_ ?_
          .refine((eP.of (VQ.alloc _)).V λb s Z=>⟨aI VY (by simpa using s),λe=> ?_⟩);have:=(C.lt b e.sy).2;have:w3.heap.size<=b:=by simpa using s
           omega
          .refine fM.O (w:=w3) (λb s Z=> ?_) VN;rw[Below.l _ _ _ Vv,Below.block A b (by simpa using Z),Dh,dY,dQ Vv];rfl
         .simp[World.setCell]at t⊢;omega
        case measure=>
         go_light;have Q:=((((z.drew.J A (by have:=z.size;simp;omega)).alloc (aE _) _).grown E (aE _) (λj q=>by have:=(C.lt j q).1;omega))).setCell (a:=(aj w2.heap.size 4)) (by grind) (Vr h (c.length+1) B);have a:=Q.rd R R.blocks.1 R.blocks.2 M.lt;have h:=a.lt;rw[a.nextOf,HN.o];omega
     .have X:gy ws [125] k=true:=by unfold gy;grind
      have a:gw ws [125] k= .ok ((),k+1):=by unfold gw;grind
      have HY:Hid (ws[k]?=some y):=l;clear l;obtain rfl:r= .ok (⟨false,x,c,[]⟩,k+1):=(by rw[<-VX.o,<-HP.o,po X];simp only[nQ,gP,a,bV]);go_wp2_with fail;refine(N2 _ rb wb ws k y _ o HY.o).V ?_;rintro e w3 ⟨rfl,d⟩;rw[show(ByteArray.mk #[125]).toList= [125]from by decide+kernel];have D:=o.G d o.blocks.1 o.blocks.2;have z:=F.G d F.size;have K3:=G.G d G.lt;have I:=J.G d J.lt;have C:w3.ownsRow (w2.heap.size+1) 208 4 (.slice f m g) c.length v:=eZ d V;have VN:=Y.O (λb _ s=>d.block b s);have VY:w2.heap.size<w3.heap.size:=aI H d.size;clear o F G J V Y H d;go_wp2_with fail;refine(Fk _ rb wb ws k _ [125] D Vz Vy).V ?_;rw[a];rintro e u ⟨rfl,U,A⟩;have L:=K3.adv_ A Vv N;have T:=I.adv_ A Vv O;have P:=z.J A z.size;have d:u.ownsRow (w2.heap.size+1) 208 4 (.slice f m g) c.length v:=jW A (aE _) Vv C
      have e:fM u (λb=>w2.heap.size<b/\some b≠(Value.slice f m g).ownBlock) v c:=fM.O (w:=w3) (λb s Z=>by
       rw[Below.block A b Z,Dh,dY,dQ Vv]) VN
      have⟨K,a⟩:=L.I;have⟨a,c⟩:=T.I;go_wp2;have a:=P.sets (b:=w.heap.size) (aE _) [.bool false,aa (dX x.1),ag x.1,aa x.2,.slice f m g,ai] 0;have c:=L.sets_all [.bool false,aa (dX x.1),ag x.1,aa x.2,.slice f m g,ai] rfl;refine dU (ew results177 _ _ rfl c underlying152 VB) rfl ⟨⟨f,m,g,none,0,0,rfl,v,?_,?_,?_⟩,?_,a⟩;.exact(eP.of (kc (lo:=w.heap.size) d (b:=w.heap.size) (Nat.lt_succ_of_lt z2) (Nat.le_succ_of_le (cA z2)) [.bool false,aa (dX x.1),ag x.1,aa x.2,.slice f m g,ai] 0))
      .have c:=(fM.O (w:=u) (w':=u.setCells w.heap.size 0 [.bool false,aa (dX x.1),ag x.1,aa x.2,.slice f m g,ai]) (λb s _=>ji _ _ Vv _ _) e);exact c.V (λb s _=>cA (Nat.lt_trans z2 s.1))
      .exact⟨br _ _ _ _,λb s=>by cases s⟩
      .exact a.rd R R.blocks.1 R.blocks.2 U.lt
def UP (w:aw)(rb wb:Nat)(ws:List W)(i:Nat)(R:Rd w rb wb ws i):
  Calls prog 176 #[ah rb] w (rW w rb wb ws (lX ws i) (sN w)):=by
 have⟨i0,VT,VU,VV,VW⟩:=info_parts Tryz.info302;have S:jD w.heap.size rb w (w.Vn #[.bool false,aa 0,Vp,aa 0,ai,ai] 152) i:=jD.oB R.next (Vt w _);have d:=R.alloc (am #[.bool false,aa 0,Vp,aa 0,ai,ai] 152);have c:=dZ.new w #[.bool false,aa 0,Vp,aa 0,ai,ai] 152;have I:¬w.heap.size=rb:=by have:=R.blocks;omega
 have a:¬rb=w.heap.size:=Vv;have a:w.heap.size<(w.alloc (am #[.bool false,aa 0,Vp,aa 0,ai,ai] 152)).heap.size:=Vw;generalize hr:lX ws i=r;have G:Hid (lX ws i=r):=hr;clear hr;go_in
 go_wp2_with fail;refine(Fk _ rb wb ws i _ [101,110,117,109] d Vz Vy).V ?_
 cases h1:gw ws [101,110,117,109] i with
 |error p=>
  rintro e w1 ⟨rfl,j,A⟩;obtain rfl:r= .error p:=by rw[<-G.o,lX,gk h1]
  unfold d5;go_wp2
  exact⟨rfl,rfl,j,S.J A Vv⟩
 |ok q=>
  obtain⟨_,g⟩:=q;rintro e w1 ⟨rfl,h,A⟩;have b:w.heap.size<w1.heap.size:=aI a A.size;have f:=c.adv_ A a I;have T:=S.J A Vv;clear A d c S a;go_wp2_with fail;refine(Sq _ rb wb ws g 1 h Vy).V ?_
  cases h2:kO ws 1 g with
  |error p=>
   rintro e w2 ⟨rfl,j,A⟩;obtain rfl:r= .error p:=by rw[<-G.o,lX,eO h1,gk h2]
   unfold d5;go_wp2
   exact⟨rfl,rfl,j,T.J A Vv⟩
  |ok q=>
   obtain⟨x,a⟩:=q;rintro e w2 ⟨rfl,k,A⟩;have z2:w.heap.size<w2.heap.size:=aI b A.size;have g:=(f.adv_ A b I).alloc (am #[.bool true,aa (dX x.1),ag x.1,aa x.2,ai,ai] 152);have d:=dZ.new w2 #[.bool true,aa (dX x.1),ag x.1,aa x.2,ai,ai] 152;have U:=(T.J A Vv).alloc (aE _) (am #[.bool true,aa (dX x.1),ag x.1,aa x.2,ai,ai] 152);have E:=k.alloc (am #[.bool true,aa (dX x.1),ag x.1,aa x.2,ai,ai] 152);have c:w2.heap.size<(w2.alloc (am #[.bool true,aa (dX x.1),ag x.1,aa x.2,ai,ai] 152)).heap.size:=Vw;have S:¬w2.heap.size=rb:=by have:=R.blocks;omega
   have n6:¬w2.heap.size=w.heap.size:=Vv;have l:rb<w2.heap.size:=by have:=R.blocks;omega
   clear A h f T b;go_wp2_with fail;refine(Fk _ rb wb ws a _ [123] E Vz Vy).V ?_
   cases h3:gw ws [123] a with
   |error p=>
    rintro e w3 ⟨rfl,j,A⟩;obtain rfl:r= .error p:=by rw[<-G.o,lX,eO h1,eO h2,gk h3]
    unfold d5;go_wp2
    exact⟨rfl,rfl,j,U.J A Vv⟩
   |ok q=>
    obtain⟨_,a⟩:=q;rintro e w3 ⟨rfl,K,A⟩;have b:w2.heap.size<w3.heap.size:=aI c A.size;have v:=g.adv_ A Vv I;have o:=d.adv_ A c S;have B:=U.J A Vv;clear A k E g d U c;obtain⟨M,V⟩:∃M,Hid (gJ (gy ws [125]) (kY ws) ws.length a=M):=⟨_,rfl⟩;have T:Hid ((gP M λl i=>gP (gw ws [125] i) λ_ i=> .ok (⟨true,x,[],l⟩,i))=r):=(by have:=G.o;rw[lX,eO h1,eO h2,eO h3,V.o]at this;exact this);clear G h1 h2 h3;go_wp2;go_loopw [15] (λ_ wr=>∃(n k:Nat) (vs:List (W×W)) (f:aC) (h g:Nat),vs.length<=k/\ws.length-k<=n/\Hid (nQ vs (gJ (gy ws [125]) (kY ws) n k)=M)/\Rd wr rb wb ws k/\jD w.heap.size rb w wr k/\dZ wr w.heap.size #[.bool false,aa 0,Vp,aa 0,ai,ai] 152/\dZ wr w2.heap.size #[.bool true,aa (dX x.1),ag x.1,aa x.2,ai,.slice f h g] 152/\wr.ownsRow (w2.heap.size+1) 302 6 (.slice f h g) vs.length (vs.flatMap Fg)/\w2.heap.size<wr.heap.size) (λ_ wr=>ws.length-jt rb wr)
    case atStart=>
     refine⟨ws.length,a,[],none,0,0,Vw,Vv,?_,K,B,v,o,br _ _ _ _,b⟩;rw[<-V.o];unfold Hid nQ gP;cases gJ (gy ws [125]) (kY ws) ws.length a<;>rfl
    case round=>
     clear o K v B b V;obtain⟨n,k,vs,f,h,g,a,b,X,d,C,D,J,L,P⟩:=hrel;have a:=d.lt;have a:=d.few;have U:Hid (jt rb wr=k):=d.nextOf;have⟨y,O⟩:=d.word;cases hs:(y.1.toList== [125])
     .have N:gy ws [125] k=false:=by unfold gy;grind
      have Y:Hid (ws[k]?=some y):=O;clear O;go_wp2_with fail;refine(N2 _ rb wb ws k y _ d Y.o).V ?_;rintro e w3 ⟨rfl,c⟩;rw[show(ByteArray.mk #[125]).toList= [125]from by decide+kernel];have E:=d.G c d.blocks.1 d.blocks.2;have s:=C.G c C.size;have b:=D.G c D.lt;have Z:=J.G c J.lt;have F:w3.ownsRow (w2.heap.size+1) 302 6 (.slice f h g) vs.length (vs.flatMap Fg):=eZ c L;have VQ:w2.heap.size<w3.heap.size:=aI P c.size;have G:Hid (some w2.heap.size≠(Value.slice f h g).ownBlock):=(by intro e;have:=(F.lt _ e.sy).1;omega);clear d C D J L P c;go_wp2_with fail;refine(TJ _ rb wb ws k E).V ?_
      cases h4:kY ws k with
      |error p=>
       rintro e m ⟨rfl,j,A⟩;obtain rfl:r= .error p:=(by rw[<-T.o,<-X.o,qQ N Vv h4];rfl);unfold d5;go_wp2
       exact⟨rfl,rfl,j,s.J A s.size⟩
      |ok q=>
       obtain⟨q,Q⟩:=q;rintro e m ⟨rfl,V,A⟩;have a:k<Q:=wD _ _ _ _ h4;have VR:Hid (nQ (vs++ [q]) (gJ (gy ws [125]) (kY ws) (n-1) Q)=M):=(by rw[<-X.o,sM vs N Vv h4];rfl);have a:w3.heap.size<=m.heap.size:=A.size;have B:=(((s.J A s.size).alloc (aE _) (am #[aa (dX q.1.1),ag q.1.1,aa q.1.2] 148)).alloc (aE _) (am #[aa (dX q.2.1),ag q.2.1,aa q.2.2] 148));have v:=((b.adv_ A Vv I).alloc (am #[aa (dX q.1.1),ag q.1.1,aa q.1.2] 148)).alloc (am #[aa (dX q.2.1),ag q.2.1,aa q.2.2] 148);have o:=((Z.adv_ A Vv S).alloc (am #[aa (dX q.1.1),ag q.1.1,aa q.1.2] 148)).alloc (am #[aa (dX q.2.1),ag q.2.1,aa q.2.2] 148);have l:((m.Vn #[aa (dX q.1.1),ag q.1.1,aa q.1.2] 148).Vn #[aa (dX q.2.1),ag q.2.1,aa q.2.2] 148).ownsRow (w2.heap.size+1) 302 6 (.slice f h g) vs.length (vs.flatMap Fg):=((jW A (aE _) Vv F).alloc _).alloc _;have a:Hid (∀j u,[aa (dX q.1.1),ag q.1.1,aa q.1.2,aa (dX q.2.1),ag q.2.1,aa q.2.2][j]?=some u->(((m.Vn #[aa (dX q.1.1),ag q.1.1,aa q.1.2] 148).Vn #[aa (dX q.2.1),ag q.2.1,aa q.2.2] 148).Vn #[aa (dX q.1.1),ag q.1.1,aa q.1.2,aa (dX q.2.1),ag q.2.1,aa q.2.2] 302).cell? (((aj (m.heap.size+1+1) 0):Addr).add j)=some u):=(by have:=bz (cs:= #[aa (dX q.1.1),ag q.1.1,aa q.1.2,aa (dX q.2.1),ag q.2.1,aa q.2.2]) (t:=302) (fr:=(0,0)) (heap_alloc_new ((m.Vn #[aa (dX q.1.1),ag q.1.1,aa q.1.2] 148).Vn #[aa (dX q.2.1),ag q.2.1,aa q.2.2] 148) (am #[aa (dX q.1.1),ag q.1.1,aa q.1.2,aa (dX q.2.1),ag q.2.1,aa q.2.2] 302));simp only[ci]at this;exact this);have⟨j1,j2⟩:=o.I;have⟨p,t⟩:=(o.alloc (am #[aa (dX q.1.1),ag q.1.1,aa q.1.2,aa (dX q.2.1),ag q.2.1,aa q.2.2] 302)).I;go_wp2_with (first|(at_builtin;refine wpList_append_lies _ rfl _ _ _ rfl (w2.heap.size+1) 302 i0 _ 6 64 underlying150 VT VU VV VW rfl Vv (.slice f h g) vs.length (vs.flatMap Fg) rfl (l.alloc _) (aj (m.heap.size+1+1) 0) 1 1 [aa (dX q.1.1),ag q.1.1,aa q.1.2,aa (dX q.2.1),ag q.2.1,aa q.2.2] rfl rfl a.o ?h1 ?hm ?h63 ?hby ?hba (m.heap.size+1+1+1) ?hH ?_;rotate_right;intro p z w5 M H t hlt;have⟨x1,x2⟩:=((o.alloc _).grown H G.o).I))
       case h1=>intro u a;simp at a;rcases a with rfl|rfl|rfl|rfl|rfl|rfl<;>rfl
       case hm=>omega
       case h63=>unfold maxLen;omega
       case hby=>omega
       case hba=>simp;omega
       case hH=>simp
       have u:=H.size;have t:=((B.alloc (aE _) _).grown H (aE _) (λj hj=>by have:=(F.lt j hj).1;omega)).setCell (a:=(aj w2.heap.size 5)) (by grind) (Vr p (vs.length+1) z);have j:=t.rd R R.blocks.1 R.blocks.2 V.lt;refine⟨⟨n-1,Q,vs++ [q],some (aj p 0),vs.length+1,z,by grind,Vv,VR,j,t,?_,?_,?_,?_⟩,?_⟩;.exact((v.alloc _).grown H (λe=>by have:=(F.lt _ e.sy).1;omega)).other 5 _ n6
       .exact((o.alloc _).grown H G.o).set 5 _
       .have:=ownsRow_setCell_below M (a:=(aj w2.heap.size 5)) Vw (Vr p (vs.length+1) z);simpa [Fg,xw]using this
       .simp[World.setCell]at u⊢;omega
       .have a:=j.lt;rw[j.nextOf,U.o];omega
     .have N:gy ws [125] k=true:=by unfold gy;grind
      have a:gw ws [125] k= .ok ((),k+1):=by unfold gw;grind
      have Y:Hid (ws[k]?=some y):=O;clear O;obtain rfl:r= .ok (⟨true,x,[],vs⟩,k+1):=(by rw[<-T.o,<-X.o,po N];simp only[nQ,gP,a,bV]);go_wp2_with fail;refine(N2 _ rb wb ws k y _ d Y.o).V ?_;rintro e w3 ⟨rfl,c⟩;rw[show(ByteArray.mk #[125]).toList= [125]from by decide+kernel];have E:=d.G c d.blocks.1 d.blocks.2;have s:=C.G c C.size;have b:=D.G c D.lt;have Z:=J.G c J.lt;have F:w3.ownsRow (w2.heap.size+1) 302 6 (.slice f h g) vs.length (vs.flatMap Fg):=eZ c L;have VQ:w2.heap.size<w3.heap.size:=aI P c.size;clear d C D J L P c;go_wp2_with fail;refine(Fk _ rb wb ws k _ [125] E Vz Vy).V ?_;rw[a];rintro e m ⟨rfl,K,A⟩;have v:=b.adv_ A Vv I;have o:=Z.adv_ A Vv S;have B:=s.J A s.size;have l:m.ownsRow (w2.heap.size+1) 302 6 (.slice f h g) vs.length (vs.flatMap Fg):=jW A (aE _) Vv F;have⟨Q,a⟩:=v.I;have⟨j1,j2⟩:=o.I;go_wp2;have a:=B.sets (b:=w.heap.size) (aE _) [.bool true,aa (dX x.1),ag x.1,aa x.2,ai,.slice f h g] 0;have c:=v.sets_all [.bool true,aa (dX x.1),ag x.1,aa x.2,ai,.slice f h g] rfl;refine dU (ew results176 _ _ rfl c underlying152 VB) rfl ⟨⟨none,0,0,f,h,g,rfl,[],?_,?_,?_⟩,?_,a⟩;.exact⟨br _ _ _ _,λb c=>by cases c⟩
      .rfl
      .exact(eP.of (kc (lo:=w.heap.size) l (b:=w.heap.size) (Nat.lt_succ_of_lt z2) (Nat.le_succ_of_le (cA z2)) [.bool true,aa (dX x.1),ag x.1,aa x.2,ai,.slice f h g] 0))
      .exact a.rd R R.blocks.1 R.blocks.2 K.lt
def Sy (g:Bool)(w:aw)(rb wb:Nat)(ws:List W)(i:Nat)(R:Rd w rb wb ws i)(P:gy ws [101,110,117,109] i=g):
  Calls prog 119 #[ah rb] w (rW w rb wb ws (cond g (lX ws i) (ij ws i)) (sN w)):=by
 have⟨x,u⟩:=R.word;have H:Hid (ws[i]?=some x):=u;rw[Dr _ u]at P;have v:jD w.heap.size rb w (w.Vn #[.bool false,aa 0,Vp,aa 0,ai,ai] 152) i:=jD.oB R.next (Vt w _);have a:=R.alloc (am #[.bool false,aa 0,Vp,aa 0,ai,ai] 152);have C:=dZ.new w #[.bool false,aa 0,Vp,aa 0,ai,ai] 152;have O:¬w.heap.size=rb:=by have:=R.blocks;omega
 have o:w.heap.size<(w.alloc (am #[.bool false,aa 0,Vp,aa 0,ai,ai] 152)).heap.size:=Vw;generalize hr:cond g (lX ws i) (ij ws i)=r;obtain⟨z,s⟩:∃z,Hid (r=z):=⟨_,rfl⟩;have B:Hid (cond g (lX ws i) (ij ws i)=z):=hr.J s.o;clear hr u;cases g
 all_goals
  go_in
  go_wp2_with fail;refine(N2 _ rb wb ws i x _ a H.o).V ?_;rintro e w1 ⟨rfl,d⟩;rw[show(ByteArray.mk #[101,110,117,109]).toList= [101,110,117,109]from by decide+kernel];have E:=a.G d a.blocks.1 a.blocks.2;have y:=v.G d (cA o);have I:=C.G d o;have Q:w.heap.size<w1.heap.size:=aI o d.size;clear a v C o d;go_wp2_with fail
  first
   |(refine(UO _ rb wb ws i E).V ?_;rw[show ij ws i=z from B.o])
   |(refine(UP _ rb wb ws i E).V ?_;rw[show lX ws i=z from B.o])
  cases z with
  |error p=>
   rintro e w2 ⟨rfl,j,A⟩;obtain rfl:r= .error p:=s.o;unfold d5;go_wp2
   exact⟨rfl,rfl,j,y.J A Vv⟩
  |ok q=>
   obtain⟨b,N⟩:=q;rintro e w2 ⟨⟨f,k,h,l,n,m,rfl,M⟩,J,A⟩;obtain rfl:r= .ok (b,N):=s.o;have D:=I.adv_ A Q O;have G:=y.J A Vv;have⟨S,T⟩:=D.I;go_wp2;have F:=G.sets (b:=w.heap.size) (aE _) [.bool b.enum,aa (dX b.name.1),ag b.name.1,aa b.name.2,.slice f k h,.slice l n m] 0;have K:=D.sets_all [.bool b.enum,aa (dX b.name.1),ag b.name.1,aa b.name.2,.slice f k h,.slice l n m] rfl;refine dU (ew results119 _ _ rfl K underlying152 VA) rfl ⟨⟨f,k,h,l,n,m,rfl,?_⟩,?_,F⟩;.have L:=(kI.O (w:=w2) (w':=w2.setCells w.heap.size 0 [.bool b.enum,aa (dX b.name.1),ag b.name.1,aa b.name.2,.slice f k h,.slice l n m]) (λc t _=>ji _ _ (by have:w1.heap.size<=c:=t;omega) _ _) M);exact L.V (λc t _=>by have:w1.heap.size<=c:=t;omega)
   .exact F.rd R R.blocks.1 R.blocks.2 J.lt
def Uw (w:aw)(rb wb:Nat)(ws:List W)(i:Nat)(R:Rd w rb wb ws i):
  Vq 119 #[ah rb] w (rW w rb wb ws (jV ws i) (sN w)):=by
 unfold jV;cases t0:gy ws [101,110,117,109] i;all_goals exact Sy _ w rb wb ws i R t0
def IQ (ws:List W)(i:Nat):On i (jV ws i):=by
 intro a j h;unfold jV at h;split at h;.unfold lX at h;have⟨_,g,b,h⟩:=d8 h;have⟨_,k,c,h⟩:=d8 h;have⟨_,l,d,h⟩:=d8 h;have⟨_,m,e,h⟩:=d8 h;have⟨_,n,f,h⟩:=d8 h;have:=(fE _ _ _ _ _ b).1;have:=(iS _ _ _ _ _ c).1;have:=(fE _ _ _ _ _ d).1;have:=sL _ _ (wD ws) _ _ _ _ e;have:=(fE _ _ _ _ _ f).1;simp at h;omega
 .unfold ij at h;have⟨_,g,b,h⟩:=d8 h;have⟨_,k,c,h⟩:=d8 h;have⟨_,l,d,h⟩:=d8 h;have⟨_,m,e,h⟩:=d8 h;have⟨_,n,f,h⟩:=d8 h;have:=(fE _ _ _ _ _ b).1;have:=(iS _ _ _ _ _ c).1;have:=(fE _ _ _ _ _ d).1;have:=sL _ _ (Dq ws) _ _ _ _ e;have:=(fE _ _ _ _ _ f).1;simp at h;omega
def fx.appended {w w5:aw}{v:Value}{gg H b1 off:Nat}{u:Value}{cs:ay}{ps:List d9}(i:w.grownBy w5 v.ownBlock)(c:v.ownBlock=some gg\/gg=H)(hH:w.heap.size=H)
  (h:fx w (λb=>b1<b/\some b≠v.ownBlock) cs ps) {cap n:Nat}:fx (w5.setCell (aj b1 off) u) (λb=>b1<b/\some b≠(Value.slice (some (aj gg 0)) n cap).ownBlock) cs ps:=by
 have f:fx w (λb=>b1<b/\some b≠v.ownBlock/\some b≠some gg) cs ps:=h.V λb a d=>⟨a.1,a.2,λe=>by
  rcases c with c|c;.exact a.2 (e.J c.sy)
  .have:=Option.some.inj e;omega⟩
 have g:fx (w5.setCell (aj b1 off) u) (λb=>b1<b/\some b≠v.ownBlock/\some b≠some gg) cs ps:=fx.O (w:=w) (λb a d=>by
  rw[dY,dQ (by have:=a.1;omega)]
  exact i.block b d a.2.1) f
 exact g.V λb a _=>⟨a.1,a.2.2⟩
def UQ (w:aw)(rb wb:Nat)(ws:List W)(R:Rd w rb wb ws 0):
  Calls prog 70 #[ah rb] w (rW w rb wb ws (p9 ws) (Oe w)):=by
 have⟨i0,VZ,H,I,Y⟩:=info_parts Tryz.info152;have a:jD w.heap.size rb w ((w.alloc (am #[ai] 87)).alloc (am #[ai] 87)) 0:=jD.oB R.next ((Vt w _).alloc Vw _);have h:=(R.alloc (am #[ai] 87)).alloc (am #[ai] 87);have f:=(dZ.new w #[ai] 87).alloc (am #[ai] 87);have e:dZ ((w.Vn #[ai] 87).Vn #[ai] 87) (w.heap.size+1) #[ai] 87:=(by have:=dZ.new (w.Vn #[ai] 87) #[ai] 87;simpa using this);have n1:¬w.heap.size=rb:=by have:=R.blocks;omega
 have c:¬w.heap.size+1=rb:=by have:=R.blocks;omega
 have n6:¬w.heap.size+1=w.heap.size:=Vv;have b:rb<w.heap.size:=by have:=R.blocks;omega
 generalize hr:p9 ws=r;have d:Hid (p9 ws=r):=hr;clear hr;go_in
 go_wp2;go_loopw [7] (λ_ wr=>∃(n k:Nat) (bs:List d9) (g:aC) (l i:Nat) (u:ay),bs.length<=k/\ws.length-k<=n/\Hid (nQ bs (gJ (oG ws) (jV ws) n k)=r)/\Rd wr rb wb ws k/\jD w.heap.size rb w wr k/\dZ wr w.heap.size #[ai] 87/\dZ wr (w.heap.size+1) #[.slice g l i] 87/\wr.ownsRow (w.heap.size+2) 152 6 (.slice g l i) bs.length u/\fx wr (λb=>w.heap.size+1<b/\some b≠(Value.slice g l i).ownBlock) u bs/\w.heap.size+1<wr.heap.size) (λ_ wr=>ws.length-jt rb wr)
 case atStart=>
  refine⟨ws.length,0,[],none,0,0,[],Vw,Vv,?_,h,a,f,e,br _ _ _ _,rfl,Vw⟩;rw[<-d.o];unfold Hid nQ gP p9;cases gJ (oG ws) (jV ws) ws.length 0<;>rfl
 case round=>
  clear h a f e d;obtain⟨n,k,bs,g,l,i,u,a,e,U,d,C,D,J,N,P,Z⟩:=hrel;have a:=d.lt;have a:=d.few;have HN:Hid (jt rb wr=k):=d.nextOf;have⟨y,E⟩:=d.word;cases hs:(dX y.1==4)
  .have O:oG ws k=false:=by unfold oG;simp only[E,hs]
   have VW:(dX y.1 !=4)=true:=by simpa [bne]using hs
   have V:Hid (ws[k]?=some y):=E;clear E hs;go_wp2_with fail;refine(NO _ rb wb ws k y d V.o).V ?_;rintro e w3 ⟨rfl,f⟩;have M:=d.G f d.blocks.1 d.blocks.2;have o:=C.G f C.size;have L:=D.G f D.lt;have F:=J.G f J.lt;have s:w3.ownsRow (w.heap.size+2) 152 6 (.slice g l i) bs.length u:=eZ f N;have X:=P.O (λb _ z=>f.block b z);have a:w.heap.size+1<w3.heap.size:=aI Z f.size;have x:Hid (some (w.heap.size+1)≠(Value.slice g l i).ownBlock):=(by intro e;have:=(s.lt _ e.sy).1;omega);clear d C D J N P Z f;go_wp2_with fail;have a:=F.cell 0
   cases h4:jV ws k with
   |error p=>
    obtain rfl:r= .error p:=(by rw[<-U.o,qQ O Vv h4];rfl);refine wp_region_held_drew (S:=λw'=>w'.cell? (aj (w.heap.size+1) 0)=some (.slice g l i)) VA (by simpa using a) (λhHeld=> ?_);refine il 0 (ah (w.heap.size+1)) rfl VA (λ_ _ _ h=>h) (Or.inl ⟨VB,λw G=>by dsimp only at G;go_simp⟩) hHeld ?_;refine il 1 (.slice g l i) rfl VA (λ_ _ _ h=>h) (Or.inl ⟨VB,λw G=>by dsimp only at G;go_simp⟩) hHeld ?_;refine il 2 (ah rb) rfl VA (λ_ _ _ h=>h) (Or.inl ⟨VB,λw G=>by dsimp only at G;go_simp⟩) hHeld ?_;simp only[Act.put,Vo];refine wpAnyH_ready (rs:= [3]) VA Vw (AllReadyH.cons rfl (λK a=> ?_) AllReadyH.nil);clear a;go_simp;refine(Uw _ rb wb ws k M.drew).V ?_;rw[h4];rintro e B ⟨rfl,j,A⟩
    exact⟨rfl,rfl,j,o.drew.J A (by have:=o.size;simp;omega)⟩
   |ok q=>
    obtain⟨b,T⟩:=q;have a:k<T:=IQ _ _ _ _ h4;have VX:Hid (nQ (bs++ [b]) (gJ (oG ws) (jV ws) (n-1) T)=r):=(by rw[<-U.o,sM bs O Vv h4];exact rfl);have J:=F;have d:=M;go_region_law (first|(refine step_append_lies _ VB _ _ _ VB (w.heap.size+2) 152 i0 _ 6 88 underlying85 VZ H I Y rfl Vv (.slice g l i) bs.length u VB ((jW A (aE _) Vv (pp s)).alloc _) (aj B.heap.size 0) 1 1 [_,_,_,_,_,_] VB VB (bz (t:=152) (fr:=(0,0)) (heap_alloc_new B _)) VD Vv VC Vv (by have:=A.size;simp at this⊢;omega) (B.heap.size+1) Vw ?_;intro Q m w5 VQ v VO a;have⟨x1,x2⟩:=(((J.drew.adv_ A Vx c).alloc _).grown v x.o).I)|(go_simp;go_at_call 119;refine(Uw _ rb wb ws k d.drew).V ?_;rw[h4];rintro e B ⟨⟨h,q,p,G,S,K,rfl,V9⟩,R5,A⟩;have⟨y1,y2⟩:=(J.drew.adv_ A Vx c).I;have⟨y3,y4,y5,y6⟩:=gW (w:=B) (b:=w.heap.size+1) (by have:=A.size;simp at this;omega)))
    all_goals
     go_wp2;go_roundw
     case rel=>
      go_light;have a:w3.heap.size<=B.heap.size:=by have:=A.size;simpa using this
      have t:=v.size;have I:=((((o.drew.J A (by have:=o.size;simp;omega)).alloc (aE _) _).grown v (aE _) (λj Y=>by have:=(s.lt j Y).1;omega))).setCell (a:=(aj (w.heap.size+1) 0)) Vw (Vr Q (bs.length+1) m);refine⟨n-1,T,bs++ [b],some (aj Q 0),bs.length+1,m,u++ [.bool b.enum,aa (dX b.name.1),ag b.name.1,aa b.name.2,.slice h q p,.slice G S K],Vx,Vv,VX,I.rd R R.blocks.1 R.blocks.2 R5.lt,I,?_,?_,?_,?_,?_⟩;.exact(((L.drew.adv_ A Vx n1).alloc _).grown v (λe=>by have:=(s.lt _ e.sy).1;omega)).other 0 _ n6
      .exact(((F.drew.adv_ A Vx c).alloc _).grown v x.o).set 0 _
      .have:=ownsRow_setCell_below VQ (a:=(aj (w.heap.size+1) 0)) Vw (Vr Q (bs.length+1) m);simpa using this
      .refine fx.appended v VO Vw ?_;refine fx.snoc ?_ ?_
       .have n:kI (B.Vn #[.bool b.enum,aa (dX b.name.1),ag b.name.1,aa b.name.2,.slice h q p,.slice G S K] 152) (λx=>w3.drew.heap.size<=x) b (.slice h q p) (.slice G S K):=V9.O (λc _ H=>Below.l _ _ _ H);refine n.V λc H h=> ?_
        have n:w3.heap.size<=c:=by simpa using H
        refine⟨Vv,λe=> ?_⟩;have:=(s.lt c e.sy).2;omega
       .refine fx.O (w:=w3) (λc H h=> ?_) X;rw[Below.l _ _ _ Vv,Below.block A c (by simpa using h),Dh,dY,dQ (by have:=H.1;omega)];rfl
      .simp[World.setCell]at t⊢;omega
     case measure=>
      go_light;have I:=((((o.drew.J A (by have:=o.size;simp;omega)).alloc (aE _) _).grown v (aE _) (λj Y=>by have:=(s.lt j Y).1;omega))).setCell (a:=(aj (w.heap.size+1) 0)) Vw (Vr Q (bs.length+1) m);have a:=I.rd R R.blocks.1 R.blocks.2 R5.lt;have c:=a.lt;rw[a.nextOf,HN.o];omega
  .have O:oG ws k=true:=by unfold oG;simp only[E,hs]
   have VW:(dX y.1 !=4)=false:=by simpa [bne]using hs
   have V:Hid (ws[k]?=some y):=E;clear E hs;obtain rfl:r= .ok (bs,k):=(by rw[<-U.o,po O];simp only[nQ,gP,bV]);go_wp2_with fail;refine(NO _ rb wb ws k y d V.o).V ?_;rintro e w3 ⟨rfl,f⟩;have M:=d.G f d.blocks.1 d.blocks.2;have o:=C.G f C.size;have L:=D.G f D.lt;have F:=J.G f J.lt;have s:w3.ownsRow (w.heap.size+2) 152 6 (.slice g l i) bs.length u:=eZ f N;have X:=P.O (λb _ z=>f.block b z);clear d C D J N P Z f;have⟨T,a⟩:=L.I;have⟨a,c⟩:=F.I;go_wp2;have a:=o.sets (b:=w.heap.size) (aE _) [.slice g l i] 0;have c:=L.sets_all [.slice g l i] rfl;refine dU (ew results70 _ _ rfl c underlying87 VA) rfl ⟨⟨g,l,i,u,rfl,?_,?_⟩,?_,a⟩;.exact(eP.of (kc (lo:=w.heap.size) s (b:=w.heap.size) Vv Vv [.slice g l i] 0))
   .have c:=(fx.O (w:=w3) (w':=w3.setCells w.heap.size 0 [.slice g l i]) (λb z _=>ji _ _ (by have:=z.1;omega) _ _) X);exact c.V (λb z _=>by have:=z.1;omega)
   .exact a.rd R R.blocks.1 R.blocks.2 M.lt
end
section
open Go.Maps Go.ChangeMaps Go.WideMaps Go.WideElems
section
variable (w:aw) {n b:Nat} {l:aA} {bs:aB} {a w':aw}
attribute [local go_sem] jS jT jU
theorem IR:Keyed prog 9:=string_keyed underlying9
theorem Sz:Keyed prog 53:=int_keyed underlying53
theorem GT:(zeroValue 162).run prog w= .ok (.agg #[]) w:=VA
def rG (s:au):Lit:= .string s.data.toList
def rH (n:Nat):Lit:= .int .u64 n
def fy (w:aw)(b:Nat)(l:aA):Prop:=w.ownsMap prog 9 (unitElem (H:=Unit)) b l.length (setOf (.agg []) (l.map rG))
def iC (w:aw)(b:Nat)(l:aB):Prop:=w.ownsMap prog 53 (unitElem (H:=Unit)) b l.length (setOf (.agg []) (l.map rH))
def fk (l:aA)(s:au):Bool:=l.any λx=>x.toList==s.toList
def Bu (l:aB)(n:Nat):Bool:=l.any λx=>x==n
theorem IS (s:au)(h:s.size<=maxLen):keyOf prog 9 (ag s)=some (rG s):=keyOf_string_mk underlying9 h
theorem SA (n:Nat)(h:n<2^64):keyOf prog 53 (.int .u64 n)=some (rH n):=keyOf_int_mk underlying53 (WalkArith.wf_u64 Vv)
theorem SB (l:aA)(s:au):Maps.has (setOf (H:=Unit) (.agg []) (l.map rG)) (rG s)=fk l s:=by
 rw[has_setOf _ _ _ (by intro x a;obtain⟨y,_,rfl⟩:=aS.1 a;exact trivial)];unfold fk;rw[List.any_map];congr 1;funext x;show(x.data.toList==s.data.toList)=_;rw[ByteArray.toList_eq,ByteArray.toList_eq]
theorem SC (l:aB)(n:Nat):Maps.has (setOf (H:=Unit) (.agg []) (l.map rH)) (rH n)=Bu l n:=by
 rw[has_setOf _ _ _ (by intro x a;obtain⟨y,_,rfl⟩:=aS.1 a;exact trivial)];unfold Bu;rw[List.any_map];congr 1;funext x;show decide (IntKind.u64=IntKind.u64/\(x:Int)=(n:Int))=_;rw[cH];simp;omega
structure ee (bs:aB)(w w':aw):Prop where
 os:w'.os=w.os
 tape:w'.tape=w.tape
 output:w'.output=w.output
 size:w.heap.size<=w'.heap.size
 block:∀k,k<w.heap.size->k∉bs->w'.heap[k]?=w.heap[k]?
theorem ee.refl (bs:aB)(w:aw):ee bs w w:=⟨rfl,rfl,rfl,aE _,λ_ _ _=>rfl⟩
theorem ee.J {b c:aw}(h:ee bs a b)(k:ee bs b c):ee bs a c:=
 ⟨k.os.J h.os,k.tape.J h.tape,k.output.J h.output,aM h.size k.size,λi d e=>(k.block i (aI d h.size) e).J (h.block i d e)⟩
theorem ee.V {cs:aB}{b:aw}(h:ee bs a b)(f:∀x∈bs,x∈cs):ee cs a b:=
 ⟨h.os,h.tape,h.output,h.size,λi d e=>h.block i d (λc=>e (f i c))⟩
theorem ee.oB {b:aw}(h:Below a.heap.size a b):ee bs a b:=⟨h.os,h.tape,h.output,h.size,λi c _=>h.block i c⟩
theorem ee.of_grown {b:aw}{k:Nat}(h:a.grownBy b (some k)):ee [k] a b:=⟨h.os,h.tape,h.output,h.size,λi c d=>h.block i c (λe=>d (by simp at e;simp[e]))⟩
theorem ee.to_below {b:aw}(h:ee bs a b)(f:n<=a.heap.size)(c:∀x∈bs,n<=x):Below n a b:=
 ⟨h.os,h.tape,h.output,h.size,λi e=>h.block i (aI e f) (λd=>by have:=c i d;omega)⟩
theorem ee.alloc {b:aw}(h:ee bs a b)(o:Obj):ee bs a (b.alloc o):=h.J (ee.oB ((Below.refl _ _).alloc (aE _) o))
theorem ee.drew {b:aw}(h:ee bs a b):ee bs a b.drew:=h.J (ee.oB (Below.refl _ _).drew)
theorem lg {w:aw}{k:TypeId}{R:Value->Option (DataW Unit×List MemPlace)}{D:DataW Unit}(h:w.ownsMap prog k R b n D)(e:w'.heap[b]?=w.heap[b]?):w'.ownsMap prog k R b n D:=by
 obtain⟨a,clock,c,d⟩:=h;exact⟨a,clock,e.J c,d⟩
theorem fy.lt {w:aw}(h:fy w b l):b<w.heap.size:=World.ownsMap.lt h
theorem iC.lt {w:aw}{l:aB}(h:iC w b l):b<w.heap.size:=World.ownsMap.lt h
theorem fy.O {w:aw}(h:fy w b l)(a:w'.heap[b]?=w.heap[b]?):fy w' b l:=lg h a
theorem iC.O {w:aw}{l:aB}(h:iC w b l)(a:w'.heap[b]?=w.heap[b]?):iC w' b l:=lg h a
theorem Ux (b:Nat)(l:aA)(s:au)(h:fy w b l)(f:l.length<maxLen)(g:s.size<=maxLen):
  Calls prog 178 #[.map (some b),ag s] w λe w'=>e= .returned (.tuple #[])/\fy w' b (l++ [s])/\ee [b] w w':=by
 have a:w.ownsMap prog 9 (unitElem (H:=Unit)) b l.length (setOf (.agg []) (l.map rG)):=h;go_in
 go_wp2_with (at_mapUpdate;refine wpList_mapUpdate_own _ rfl _ _ _ 229 rfl 9 162 IR underlying229 _ b _ _ rfl a f _ _ _ rfl rfl (IS s g) _ [] unitElem_mk ?_;intro w1 d c)
 go_end0;refine⟨rfl,?_,ee.of_grown c⟩;unfold fy;rw[bI,List.map_singleton,setOf_snoc,aN];exact d
theorem UR (b:Nat)(l:aB)(n:Nat)(h:iC w b l)(f:l.length<maxLen)(g:n<2^64):
  Calls prog 343 #[.map (some b),.int .u64 n] w λe w'=>e= .returned (.tuple #[])/\iC w' b (l++ [n])/\ee [b] w w':=by
 have a:w.ownsMap prog 53 (unitElem (H:=Unit)) b l.length (setOf (.agg []) (l.map rH)):=h;go_in
 go_wp2_with (at_mapUpdate;refine wpList_mapUpdate_own _ rfl _ _ _ 304 rfl 53 162 Sz underlying304 _ b _ _ rfl a f _ _ _ rfl rfl (SA n g) _ [] unitElem_mk ?_;intro w1 d c)
 go_end0;refine⟨rfl,?_,ee.of_grown c⟩;unfold iC;rw[bI,List.map_singleton,setOf_snoc,aN];exact d
theorem Tt (b:Nat)(l:aA)(s:au)(h:fy w b l)(c:s.size<=maxLen):
  Calls prog 179 #[.map (some b),ag s] w λe w'=>e= .returned (.bool (fk l s))/\ak w w':=by
 have a:w.ownsMap prog 9 (unitElem (H:=Unit)) b l.length (setOf (.agg []) (l.map rG)):=h;rw[<-SB];go_in
 go_wp2_with (at_lookup;refine wpList_lookup_own_unit _ rfl _ _ 229 rfl 9 162 IR underlying229 (GT _) b _ _ rfl a _ _ rfl (IS s c) ?_)
 go_ret;exact⟨rfl,(Below.refl _ _).alloc (aE _) _⟩
theorem US (b:Nat)(l:aB)(n:Nat)(h:iC w b l)(c:n<2^64):
  Calls prog 342 #[.map (some b),.int .u64 n] w λe w'=>e= .returned (.bool (Bu l n))/\ak w w':=by
 have a:w.ownsMap prog 53 (unitElem (H:=Unit)) b l.length (setOf (.agg []) (l.map rH)):=h;rw[<-SC];go_in
 go_wp2_with (at_lookup;refine wpList_lookup_own_unit _ rfl _ _ 304 rfl 53 162 Sz underlying304 (GT _) b _ _ rfl a _ _ rfl (SA n c) ?_)
 go_ret;exact⟨rfl,(Below.refl _ _).alloc (aE _) _⟩
theorem rY (k:Int)(s:au)(p:Nat):
  Calls prog 123 #[.bool false,.agg #[aa k,ag s,aa p]] w λe w'=>e= .returned (.tuple #[])/\ak w w':=by
 go_in
 go_wp2;go_end0;exact⟨rfl,(Below.refl _ _).alloc (aE _) _⟩
theorem lp (k:Int)(s:au)(p:Nat):
  Calls prog 123 #[.bool true,.agg #[aa k,ag s,aa p]] w λe w'=>e=d5 3 p/\ak w w':=by
 go_in
 go_wp2_with fail;refine(JQ _ _ _).V ?_;rintro e w2 ⟨rfl,rfl⟩;go_wp2;exact⟨rfl,rfl,(Below.refl _ _).alloc (aE _) _⟩
end
end
end Go.Proofs.YtfebdimolnobaaaGreatDoor
namespace Go.Proofs
open Go.Shelf
def Tryz.laysPu14_ren:Go.Shelf.Ren:=⟨fun|14=>244|16=>329|17=>330|19=>394|20=>395|21=>396|22=>397|23=>398|24=>399|25=>164|27=>425|26=>424|28=>439|29=>445|30=>448|31=>449|32=>450|33=>451|35=>255|34=>452|36=>453|37=>454|38=>455|39=>456|40=>457|n=>n,fun|9=>9|3=>3|22=>53|24=>354|25=>362|4=>4|34=>463|5=>5|36=>295|37=>140|0=>0|39=>465|21=>21|44=>482|47=>357|50=>493|48=>491|2=>2|52=>500|55=>502|59=>505|60=>164|20=>20|61=>506|65=>507|66=>508|67=>70|n=>n,fun|0=>4|1=>5|2=>6|3=>7|4=>8|n=>n⟩
theorem Tryz.laysPu14:Go.Proofs.LaysPu.n14 Tryz.prog Tryz.laysPu14_ren:=by constructor<;>first|kernel_rfl|(intro w;kernel_rfl)
def Tryz.laysPu25_ren:Go.Shelf.Ren:=⟨fun|25=>164|n=>n,fun|9=>9|3=>3|4=>4|37=>140|0=>0|47=>357|5=>5|n=>n,fun|n=>n⟩
theorem Tryz.laysPu25:Go.Proofs.LaysPu.n25 Tryz.prog Tryz.laysPu25_ren:=by constructor<;>first|kernel_rfl|(intro w;kernel_rfl)
end Go.Proofs
namespace Go.Proofs.YtfebdimolnobaaaGreatDoor
open Go.RowKit Go.Proofs.Tryz
def Fh:aA:=m9.map λl=>⟨l.toArray⟩
def Dw (s:au):(dX s==3)=jK s.toList:=by
 cases h4:jK s.toList
 .unfold dX js;by_cases h0:s.size=0;.simp[h0]
  .cases h1:vS (gh s 0)<;>cases h2:mA (gh s 0)<;>cases h3:pZ s.toList<;>simp[h0,h4]
 .have b:s=⟨s.toList.toArray⟩:=by rw[ByteArray.toList_eq]
  have a:s.toList∈m9:=by simpa [jK]using h4
  have:∀l∈m9,(dX ⟨l.toArray⟩==3)=true:=Vz;rw[b];exact this _ a
inductive PM where
 |mk (fs:List (Int×List (Int×au×PM))) (unk:au)
abbrev PV:=Int×au×PM
abbrev PF:=Int×List PV
def PM.fs:PM->List PF
 | .mk fs _=>fs
def PM.unk:PM->au
 | .mk _ u=>u
def eS:au:=⟨#[]⟩
def PM.none:PM:= .mk [] eS
def PV.none:PV:=(0,eS,PM.none)
def gQ (a b:au):Bool:=a.toList==b.toList
structure fw where
 name:au
 ty:au
 key:au
 how:au
 num:Int
structure MT where
 name:au
 fs:List fw
structure eF where
 ms:List MT
 es:aA
def xD:au:=⟨#[109,97,112]⟩
def Dx:au:=⟨#[114,101,112,101,97,116,101,100]⟩
def lM:au:=⟨#[111,112,116,105,111,110,97,108]⟩
def fw.isMap (f:fw):Bool:=gQ f.how xD
def fw.isRep (f:fw):Bool:=gQ f.how Dx
def lw:List MT->au->Option MT
 | [],_=>none
 |m::l,s=>if gQ m.name s then some m else lw l s
def eF.msg (S:eF)(s:au):Option MT:=lw S.ms s
def oh:au:=⟨#[107,101,121]⟩
def qe:au:=⟨#[118,97,108,117,101]⟩
def eR (f:fw):MT:=⟨eS,[⟨oh,f.key,eS,lM,1⟩,⟨qe,f.ty,eS,lM,2⟩]⟩
def fC (S:eF)(f:fw):Option MT:=if f.isMap then some (eR f)else S.msg f.ty
def ed:List fw->Int->Option fw
 | [],_=>none
 |f::l,n=>if f.num=n then some f else ed l n
def Di:List (ap)->ap->Nat->Option Nat
 | [],_,_=>none
 |x::l,s,k=>if s==x then some k else Di l s (k+1)
def eF.base (S:eF)(t:au):Nat:=
 match Di m9 t.toList 0 with
 |some k=>k
 |none=>if fk S.es t then 15 else 16
def eM (k:Nat):Nat:=
 if k<=6 then 0 else if k=8\/k=10\/k=12 then 1 else if k=7\/k=9\/k=11 then 5 else if k=15 then 0 else 2
def eF.wire (S:eF)(t:au):Nat:=eM (S.base t)
def fX (S:eF)(f:fw):Nat:=if f.isMap then 2 else S.wire f.ty
def mQ (n:Int):Int:=if n%4294967296<2147483648 then n%4294967296 else n%4294967296+18446744069414584320
def Dj (v:Int):Int:=if v%2=1 then 18446744073709551615-v/2 else v/2
def lE (k:Nat)(n:Int):Int:=
 if k=0\/k=9\/k=15 then mQ n else if k=2 then n%4294967296 else if k=4 then Dj (n%4294967296)else if k=5 then Dj n
 else if k=6 then(if 0<n then 1 else 0)else n
abbrev Fx (α:Type):=Except (Int×Int) α
def mK (b:au)(a e:Nat):Nat->Nat->Int->Fx (Int×Nat)
 |0,_,_=> .error (7,a)
 |f+1,i,n=>
  if a+i<e then
   (
    if i=9/\1<gh b (a+i)then .error (7,a) else if gh b (a+i)<128 then .ok (n+gh b (a+i)%128*2^(7*i),a+i+1) else mK b a e f (i+1) (n+gh b (a+i)%128*2^(7*i)))
  else .error (6,a)
def iV (b:au)(a e:Nat):Fx (Int×Nat):=mK b a e 10 0 0
def IW (s:au):Nat->Nat->Int
 |0,_=>0
 |f+1,i=>if i<s.size then 256*IW s f (i+1)+gh s i else 0
def xE (s:au):Int:=IW s s.size 0
structure pO where
 num:Int
 kind:Nat
 a:Nat
 fr:Nat
 e:Nat
 n:Int
def fO (b:au)(a e:Nat):Fx pO:=
 match iV b a e with
 | .error x=> .error x
 | .ok (t,fr)=>
  if t/8<1\/536870911<t/8 then .error (8,a)
  else if t%8=0 then
   match iV b fr e with
   | .error x=> .error x
   | .ok (n,d)=> .ok ⟨t/8,0,a,fr,d,n⟩
  else if t%8=1 then(if fr+8<=e then .ok ⟨t/8,1,a,fr,fr+8,xE (b.extract fr (fr+8))⟩else .error (6,fr))
  else if t%8=5 then(if fr+4<=e then .ok ⟨t/8,5,a,fr,fr+4,xE (b.extract fr (fr+4))⟩else .error (6,fr))
  else if t%8=2 then
   match iV b fr e with
   | .error x=> .error x
   | .ok (n,c)=>if(c:Int)+n<=e then .ok ⟨t/8,2,a,c,c+n.toNat,0⟩else .error (6,c)
  else .error (9,a)
def gT:List PF->Int->List PV
 | [],_=> []
 |x::l,n=>if x.1=n then x.2 else gT l n
def PM.get (m:PM)(n:Int):List PV:=gT m.fs n
def ik (n:Int)(l:List PV):Bool->List PF->List PF
 |done,[]=>if done then []else [(n,l)]
 |done,x::r=>
  (if !done&&decide (n<=x.1)then [(n,l)]else [])++((if x.1=n then []else [x])++ik n l (done||decide (n<=x.1)) r)
def PM.put (m:PM)(n:Int)(l:List PV):PM:= .mk (ik n l l.isEmpty m.fs) m.unk
def PM.O (m:PM)(s:au):PM:= .mk m.fs (m.unk++s)
def jp:aA:= [⟨#[105,110,116,51,50]⟩,⟨#[105,110,116,54,52]⟩,⟨#[115,105,110,116,51,50]⟩,⟨#[115,105,110,116,54,52]⟩,⟨#[115,102,105,120,101,100,51,50]⟩,⟨#[115,102,105,120,101,100,54,52]⟩]
def lF:au:=⟨#[115,116,114,105,110,103]⟩
def Dy (n:Int):Int:=if n<9223372036854775808 then n else n-2^64
def kS (t:au)(x y:PV):Bool:=
 if gQ t lF then Op.bytesLess x.2.1.toList y.2.1.toList else if fk jp t then decide (Dy x.1<Dy y.1)else decide (x.1<y.1)
def fS (v:PV):PV:=(v.2.2.get 1).headD PV.none
def iD (x y:PV):Bool:=decide (x.1=y.1)&&gQ x.2.1 y.2.1
def gC (t:au)(v:PV):Bool->List PV->List PV
 |done,[]=>if done then []else [v]
 |done,x::r=>
  (if !done&&(kS t (fS v) (fS x)||iD (fS v) (fS x))then [v]else [])++
   ((if iD (fS v) (fS x)then []else [x])++gC t v (done||(kS t (fS v) (fS x)||iD (fS v) (fS x))) r)
def jX (t:au)(l:List PV)(v:PV):List PV:=gC t v false l
def fV (m:PM)(n:Int):PM:=if(m.get n).isEmpty then m.put n [PV.none]else m
def gD (m:PM):PM:= .mk (fV (fV m 1) 2).fs eS
def pU (S:eF)(d:MT)(deep:Nat):Bool:=
 if !(gQ d.name eS)||deep !=8 then decide (8<deep)else
 match d.fs with
 |_::f::_=>(S.msg f.ty).isSome
 |_=>false
def i9 (how:au):Bool:=gh how 0==46
def iW (f:fw):List fw->PM->PM
 | [],m=>m
 |o::l,m=>iW f l (if gQ o.how f.how&&i9 o.how&&decide (o.num≠f.num)then m.put o.num []else m)
def ie (S:eF)(d:MT)(f:fw)(m:PM)(v:PV):PM:=
 if f.isMap then m.put f.num (jX f.key (m.get f.num) (v.1,v.2.1,gD v.2.2))
 else if f.isRep then m.put f.num (m.get f.num++ [v])
 else if gQ f.how eS&&(fC S f).isNone&&decide (v.1=0)&&gQ v.2.1 eS then m.put f.num []
 else(iW f d.fs m).put f.num [v]
def fh (f:fw)(m:PM):PV:=if f.isRep||f.isMap then PV.none else(m.get f.num).headD PV.none
def J9 (s:au):Nat->Nat->Int->Option Int
 |0,_,c=>some c
 |f+1,i,c=>if gh s i<128\/191<gh s i then none else J9 s f (i+1) (64*c+gh s i-128)
def SF (s:au)(n:Nat)(low c:Int):Option Nat:=
 if s.size<n then none else
 match J9 s (n-1) 1 c with
 |none=>none
 |some c=>if c<low\/1114111<c\/(55296<=c/\c<=57343)then none else some n
def TM (s:au):Option Nat:=
 if 240<=gh s 0 then SF s 4 65536 (gh s 0-240)else if 224<=gh s 0 then SF s 3 2048 (gh s 0-224)
 else if 192<=gh s 0 then SF s 2 128 (gh s 0-192)else if 128<=gh s 0 then none else SF s 1 0 (gh s 0)
def SG:Nat->au->Bool
 |0,_=>true
 |f+1,s=>if s.size=0 then true else
  match TM s with
  |none=>false
  |some n=>SG f (s.extract n s.size)
def Tw (s:au):Bool:=SG s.size s
def oj (S:eF)(b:au)(f:fw)(r:pO):Fx PV:=
 if r.kind=2 then
  (if gQ f.ty lF&& !(Tw (b.extract r.fr r.e))then .error (10,r.fr)else .ok (0,b.extract r.fr r.e,PM.none))
 else .ok (lE (S.base f.ty) r.n,eS,PM.none)
def fY (b:au)(k:Nat)(e:Nat):Nat->List PV->Nat->Fx (List PV)
 |0,l,_=> .ok l
 |F+1,l,a=>
  if a<e then
   if eM k=0 then
    match iV b a e with
    | .error x=> .error x
    | .ok (n,z)=>fY b k e F (l++ [(lE k n,eS,PM.none)]) z
   else
    let z:=if eM k=5 then 4 else 8
    if a+z<=e then fY b k e F (l++ [(lE k (xE (b.extract a (a+z))),eS,PM.none)]) (a+z)else .error (6,a)
  else .ok l
def mL (S:eF)(b:au)(f:fw)(l:List PV)(a e:Nat):Fx (List PV):=fY b (S.base f.ty) e (e-a) l a
def eY (S:eF)(b:au):Nat->MT->PM->Nat->Nat->Nat->Fx PM
 |0,_,m,_,_,_=> .ok m
 |F+1,d,m,a,e,deep=>
  if a<e then
   match fO b a e with
   | .error x=> .error x
   | .ok r=>
    match ed d.fs r.num with
    |none=>eY S b F d (m.O (b.extract r.a r.e)) r.e e deep
    |some f=>
     if r.kind=fX S f then
      match fC S f with
      |some sub=>
       if pU S sub (deep+1)then .error (11,r.fr)
       else match eY S b F sub (fh f m).2.2 r.fr r.e (deep+1)with
        | .error x=> .error x
        | .ok c=>eY S b F d (ie S d f m ((fh f m).1,(fh f m).2.1,c)) r.e e deep
      |none=>
       match oj S b f r with
       | .error x=> .error x
       | .ok v=>eY S b F d (ie S d f m v) r.e e deep
     else if r.kind=2/\f.isRep then
      match mL S b f (m.get f.num) r.fr r.e with
      | .error x=> .error x
      | .ok l=>eY S b F d (m.put f.num l) r.e e deep
     else eY S b F d (m.O (b.extract r.a r.e)) r.e e deep
  else .ok m
def jj (S:eF)(name b:au):Fx PM:=
 match S.msg name with
 |none=> .error (5,0)
 |some d=>eY S b (b.size+1) d PM.none 0 b.size 1
abbrev Vm (x:PV)(a:aC)(c:Nat):aq:= #[.int .u64 x.1,ag x.2.1,.slice a x.2.2.fs.length c,ag x.2.2.unk]
end Go.Proofs.YtfebdimolnobaaaGreatDoor
namespace Go.Proofs
open Go.Shelf
theorem Tryz.bShelfKy {f:FuncId}{B:Func}(h:((prog.funcs[f]?).elim "" Func.name== "runtime.NumGoroutine")=false)(k:prog.funcs[f]?=some {B with name:=(prog.funcs[f]?).elim "" Func.name}):Bears prog f B:=⟨_,h,k⟩
def Tryz.sortK_ren:Go.Shelf.Ren:=⟨fun|6=>355|15=>169|14=>408|28=>254|29=>255|20=>427|21=>428|22=>429|23=>430|24=>431|25=>432|26=>433|27=>434|46=>441|47=>332|48=>333|49=>442|50=>443|57=>446|n=>n,fun|22=>389|24=>386|25=>394|3=>3|39=>295|0=>0|53=>164|55=>53|4=>4|46=>367|45=>366|50=>331|5=>5|9=>9|66=>428|70=>431|76=>468|77=>469|n=>n,fun|n=>n⟩
theorem Tryz.sortK:Go.Proofs.SlLaysF0.n6 Tryz.prog Tryz.sortK_ren:=by constructor<;>first|kernel_rfl|(intro w;kernel_rfl)|(apply Tryz.bShelfKy<;>kernel_rfl)
end Go.Proofs
namespace Go.Proofs.YtfebdimolnobaaaGreatDoor
open Go.RowKit Go.Proofs.Tryz
end Go.Proofs.YtfebdimolnobaaaGreatDoor
