import Derived.Test.YtfebdimolnobaaaGreatDoorAl
import Derived.Deep.RegionLaw
import Derived.Deep.CutRange
import Derived.Deep.Light
set_option maxRecDepth 100000
set_option maxHeartbeats 8000000
set_option linter.all false
namespace Go.Proofs.YtfebdimolnobaaaGreatDoor
open Go.RowKit Go.Proofs.Tryz
section
attribute [local go_sem] jk jm jn
def rK {α:Type}(w:aw)(rb wb:Nat)(ws:List W)(r:mX α)(b:α->aw->Ending->Prop)(e:Ending)(w':aw):Prop:=
 match r with
 | .ok (a,j)=>b a w' e/\Rd w' rb wb ws j/\iX w.heap.size rb w w' j
 | .error p=>e=dX 2 p/\∃j,iX w.heap.size rb w w' j
def Rd.word {w:aw}{rb wb i:Nat}{ws:List W}(R:Rd w rb wb ws i):∃x,ws[i]?=some x:=⟨_,aP R.lt⟩
def Qv (w:aw)(rb wb:Nat)(ws:List W)(i:Nat)(k:Int)(R:Rd w rb wb ws i)(b:k≠4):
  S9 257 #[ag rb,aa k] w (rK w rb wb ws (jK ws k i) λx _ e=>e= .returned (.agg #[aa (dN x.1),ae x.1,aa x.2])):=by
 have⟨x,a⟩:=R.word;unfold jK;simp only[a];by_cases h:dN x.1=k;.rw[dH (by simpa using h)];exact(OT w rb wb ws i x k R a (by simp[h]) (sy (by rw[h];exact b))).V λe w' h=>h
 .rw[dG (by simpa using h)];exact(OU w rb wb ws i x k R a (by simpa using h)).V λe w' h=>⟨h.1,_,h.2⟩
def Ec (w:aw)(rb wb:Nat)(ws:List W)(i:Nat)(s:au)(l:an)(R:Rd w rb wb ws i)(b:s.toList=l)(c:0<l.length):
  S9 256 #[ag rb,ae s] w (rK w rb wb ws (fU ws l i) λ_ _ e=>e= .returned (.tuple #[])):=by
 have⟨x,a⟩:=R.word;unfold fU;simp only[a];by_cases h:(x.1.toList==l)=true;.rw[dH h];exact(OR w rb wb ws i x s R a (by rw[b];exact h) (sA h c)).V λe w' h=>h
 .rw[dG h];exact(OS w rb wb ws i x s R a (by rw[b];simpa using h)).V λe w' h=>⟨h.1,_,h.2⟩
def kZ {n rb:Nat}{w w1:aw}{j b:Nat}(h:iX n rb w w1 j)(d:b<n)(c:b≠rb):(∀off,w1.cell? (ai b off)=w.cell? (ai b off))/\(∀off,w1.frozen? (ai b off)=w.frozen? (ai b off)):=
 ⟨λoff=>h.cell (a:=(ai b off)) d c,λoff=>(Below.frozen h (p:=(ai b off)) d).J (World.frozen?_setCell _ _ _ _)⟩
def Rt (w:aw)(rb wb:Nat)(ws:List W)(i:Nat)(R:Rd w rb wb ws i):
  Calls prog 401 #[ag rb] w (rK w rb wb ws (lN ws i) λx _ e=>e= .returned (.agg #[aa (dN x.1),ae x.1,aa x.2])):=by
 have⟨x,g⟩:=R.word;have m:Hid (ws[i]?=some x):=g;have r:=(Tb w).alloc (aD _) (ak #[Value.int IntKind.i64 0,Value.string {data:= #[]},Value.int IntKind.i64 0] 148);have u:¬w.heap.size=rb:=by have:=R.blocks;omega
 unfold lN;simp only[g];cases h:(dN x.1==3)
 .have t:jK ws 1 i=if dN x.1==1 then .ok (x,i+1)else .error x.2:=by unfold jK;simp only[g]
  have s:=Hid.o (p:=(Bool.false||(dN x.1==1))=(dN x.1==1)) (by simp[Hid]);rw[s];have y:Hid (jK ws 1 i=if dN x.1==1 then .ok (x,i+1)else .error x.2):=t;clear g t s;go_in
  go_wp2_with fail;refine(Mi _ rb wb ws i x (R.alloc _) m.o).V ?_;rintro e w1 ⟨rfl,c⟩;have n:=(R.alloc _).G c (R.alloc _).blocks.1 (R.alloc _).blocks.2;have k:=iX.oB R.next (r.J (c.V Tf));have q:w.heap.size<w1.heap.size:=by have:=c.size;simp at this;omega
  have⟨A,B⟩:=qv c (b:=w.heap.size) Tf;go_wp2_with fail;refine(Qv _ rb wb ws i 1 n Th).V ?_;rw[y.o];cases h1:(dN x.1==1);.rintro e w2 ⟨rfl,j,d⟩;unfold dX;go_wp2;exact⟨rfl,rfl,j,k.J d Te⟩
  .rintro e w2 ⟨rfl,o,d⟩;have⟨u1,u2⟩:=kZ d (b:=w.heap.size) q u;have l:=k.J d Te;go_wp2;have f:=((l.setCell (a:=(ai w.heap.size 0)) (aD _) (Value.int IntKind.i64 (dN x.fst))).setCell (a:=(ai w.heap.size 1)) (aD _) (Value.string x.fst)).setCell (a:=(ai w.heap.size 2)) (aD _) (Value.int IntKind.i64 x.snd);refine dJ (v:= .agg #[aa (dN x.1),ae x.1,aa x.2]) ?_ rfl ⟨rfl,?_,f⟩;.simp[results,results401,go_sem, *]
   .exact f.rd R R.blocks.1 R.blocks.2 o.lt
 .have z:0<x.1.size:=sy (by simp at h;omega);clear g;go_in
  go_wp2_with fail;refine(Mi _ rb wb ws i x (R.alloc _) m.o).V ?_;rintro e w1 ⟨rfl,c⟩;have n:=(R.alloc _).G c (R.alloc _).blocks.1 (R.alloc _).blocks.2;have k:=iX.oB R.next (r.J (c.V Tf));have q:w.heap.size<w1.heap.size:=by have:=c.size;simp at this;omega
  have⟨A,B⟩:=qv c (b:=w.heap.size) Tf;go_wp2_with fail;refine(QF _ rb wb ws i x n m.o z).V ?_;rintro e w2 ⟨rfl,o,d⟩;have⟨u1,u2⟩:=kZ d (b:=w.heap.size) q u;have l:=k.J d Te;go_wp2;have f:=((l.setCell (a:=(ai w.heap.size 0)) (aD _) (Value.int IntKind.i64 (dN x.fst))).setCell (a:=(ai w.heap.size 1)) (aD _) (Value.string x.fst)).setCell (a:=(ai w.heap.size 2)) (aD _) (Value.int IntKind.i64 x.snd);refine dJ (v:= .agg #[aa (dN x.1),ae x.1,aa x.2]) ?_ rfl ⟨rfl,?_,f⟩;.simp[results,results401,go_sem, *]
  .exact f.rd R R.blocks.1 R.blocks.2 o.lt
def d7 {α β:Type}{r:mX α}{f:α->Nat->mX β}{p:Nat}(h:r= .error p):gS r f= .error p:=by rw[h];rfl
def dU {α β:Type}{r:mX α}{f:α->Nat->mX β}{a:α}{j:Nat}(h:r= .ok (a,j)):gS r f=f a j:=by rw[h];rfl
def Ru (w:aw)(rb wb:Nat)(ws:List W)(i:Nat)(R:Rd w rb wb ws i):
  Calls prog 258 #[ag rb] w (rK w rb wb ws (jx ws i) λx _ e=>e= .returned (.tuple #[.agg #[aa (dN x.1.1),ae x.1.1,aa x.1.2],.agg #[aa (dN x.2.1),ae x.2.1,aa x.2.2]])):=by
 have Z:=((Tb w).alloc (aD _) (ak #[Value.int IntKind.i64 0,Value.string {data:= #[]},Value.int IntKind.i64 0] 148)).alloc Tf (ak #[Value.int IntKind.i64 0,Value.string {data:= #[]},Value.int IntKind.i64 0] 148);have l:¬w.heap.size=rb:=by have:=R.blocks;omega
 have m:¬w.heap.size+1=rb:=by have:=R.blocks;omega
 have a:¬rb=w.heap.size:=by have:=R.blocks;omega
 have a:¬rb=w.heap.size+1:=by have:=R.blocks;omega
 have a:=(R.alloc (ak #[Value.int IntKind.i64 0,Value.string {data:= #[]},Value.int IntKind.i64 0] 148)).alloc (ak #[Value.int IntKind.i64 0,Value.string {data:= #[]},Value.int IntKind.i64 0] 148);have E:=iX.oB R.next Z;generalize hr:jx ws i=r;have k:Hid (jx ws i=r):=hr;go_in
 go_wp2_with fail;refine(Qv _ rb wb ws i 1 a Th).V ?_
 cases h1:jK ws 1 i with
 |error p=>
  rintro e w1 ⟨rfl,j,d⟩;obtain rfl:r= .error p:=by rw[<-k.o,jx,d7 h1]
  unfold dX;go_wp2
  exact⟨rfl,rfl,j,E.J d Tg⟩
 |ok q=>
  obtain⟨x,H⟩:=q;rintro e w1 ⟨rfl,c,d⟩;have a:w.heap.size+1<w1.heap.size:=by have:=d.size;simp at this;omega
  have⟨C,h⟩:=kZ d (b:=w.heap.size) Tg l;have⟨D,n⟩:=kZ d (b:=w.heap.size+1) Tf m;have u:=((((E.J d Tg).setCell (a:=(ai w.heap.size 0)) (aD _) (Value.int IntKind.i64 (dN x.fst))).setCell (a:=(ai w.heap.size 1)) (aD _) (Value.string x.fst)).setCell (a:=(ai w.heap.size 2)) (aD _) (Value.int IntKind.i64 x.snd));have d:=u.rd R R.blocks.1 R.blocks.2 c.lt;go_wp2_with fail;refine(Ec _ rb wb ws H _ [61] d Ti Th).V ?_
  cases h2:fU ws [61] H with
  |error p=>
   rintro e w2 ⟨rfl,j,f⟩;obtain rfl:r= .error p:=by rw[<-k.o,jx,dU h1,d7 h2]
   unfold dX;go_wp2
   exact⟨rfl,rfl,j,u.J f Tg⟩
  |ok q=>
   obtain⟨_,I⟩:=q;rintro e w2 ⟨rfl,c,f⟩;have d:w.heap.size+1<w2.heap.size:=by have:=f.size;simp at this;omega
   have⟨A,d⟩:=kZ f (b:=w.heap.size) Tg l;have⟨B,g⟩:=kZ f (b:=w.heap.size+1) Tg m;have F:=u.J f Tg;have K:w2.cell? (ai w.heap.size 0)=some (aa (dN x.1)):=by simp[go_sem,A,C]
   have L:w2.cell? (ai w.heap.size 1)=some (ae x.1):=by simp[go_sem,A,C]
   have M:w2.cell? (ai w.heap.size 2)=some (aa x.2):=by simp[go_sem,A,C]
   have N:∀off,w2.frozen? (ai w.heap.size off)=false:=by simp[go_sem,d,h]
   have O:∀off,w2.frozen? (ai (w.heap.size+1) off)=false:=by simp[go_sem,g,n]
   have P:w2.cell? (ai (w.heap.size+1) 0)=some (aa 0):=by simp[go_sem,B,D]
   have Q:w2.cell? (ai (w.heap.size+1) 1)=some (S8):=by simp[go_sem,B,D]
   have S:w2.cell? (ai (w.heap.size+1) 2)=some (aa 0):=by simp[go_sem,B,D]
   go_wp2_with fail;refine(Qv _ rb wb ws I 2 c Th).V ?_
   cases h3:jK ws 2 I with
   |error p=>
    rintro e w3 ⟨rfl,j,g⟩;obtain rfl:r= .error p:=by rw[<-k.o,jx,dU h1,dU h2,d7 h3]
    unfold dX;go_wp2
    exact⟨rfl,rfl,j,F.J g Te⟩
   |ok q=>
    obtain⟨y,J⟩:=q;rintro e w3 ⟨rfl,c,g⟩;have d:w.heap.size+1<w3.heap.size:=by have:=g.size;omega
    have⟨n,T⟩:=kZ g (b:=w.heap.size) Te l;have⟨o,U⟩:=kZ g (b:=w.heap.size+1) Te m;have z:=((((F.J g Te).setCell (a:=(ai (w.heap.size+1) 0)) (bC _) (Value.int IntKind.i64 (dN y.fst))).setCell (a:=(ai (w.heap.size+1) 1)) (bC _) (Value.string y.fst)).setCell (a:=(ai (w.heap.size+1) 2)) (bC _) (Value.int IntKind.i64 y.snd));have d:=z.rd R R.blocks.1 R.blocks.2 c.lt;go_wp2_with fail;refine(Ec _ rb wb ws J _ [59] d Ti Th).V ?_
    cases h4:fU ws [59] J with
    |error p=>
     rintro e c ⟨rfl,j,h⟩;obtain rfl:r= .error p:=by rw[<-k.o,jx,dU h1,dU h2,dU h3,d7 h4]
     unfold dX;go_wp2
     exact⟨rfl,rfl,j,z.J h Tg⟩
    |ok q=>
     obtain⟨_,f⟩:=q;rintro e c ⟨rfl,d,h⟩;have g:w.heap.size+1<c.heap.size:=by have:=h.size;simp at this;omega
     have⟨s,V⟩:=kZ h (b:=w.heap.size) Tg l;have⟨t,X⟩:=kZ h (b:=w.heap.size+1) Tg m;have Y:=z.J h Tg;have b:c.cell? (ai w.heap.size 0)=some (aa (dN x.1)):=by simp[go_sem,s,n,K]
     have b:c.cell? (ai w.heap.size 1)=some (ae x.1):=by simp[go_sem,s,n,L]
     have b:c.cell? (ai w.heap.size 2)=some (aa x.2):=by simp[go_sem,s,n,M]
     have b:∀off,c.frozen? (ai w.heap.size off)=false:=by simp[go_sem,V,T,N]
     have b:∀off,c.frozen? (ai (w.heap.size+1) off)=false:=by simp[go_sem,X,U,O]
     have b:c.cell? (ai (w.heap.size+1) 0)=some (aa (dN y.1)):=by simp[go_sem,t,o,P]
     have b:c.cell? (ai (w.heap.size+1) 1)=some (ae y.1):=by simp[go_sem,t,o,Q]
     have b:c.cell? (ai (w.heap.size+1) 2)=some (aa y.2):=by simp[go_sem,t,o,S]
     clear s V t X n T o U K L M N O P Q S;obtain rfl:r= .ok ((x,y),f):=by rw[<-k.o,jx,dU h1,dU h2,dU h3,dU h4]
     go_wp2;go_region
     have G:=((((((Y.setCell (a:=(ai w.heap.size 0)) (aD _) (Value.int IntKind.i64 (dN x.fst))).setCell (a:=(ai w.heap.size 1)) (aD _) (Value.string x.fst)).setCell (a:=(ai w.heap.size 2)) (aD _) (Value.int IntKind.i64 x.snd)).setCell (a:=(ai (w.heap.size+1) 0)) (bC _) (Value.int IntKind.i64 (dN y.fst))).setCell (a:=(ai (w.heap.size+1) 1)) (bC _) (Value.string y.fst)).setCell (a:=(ai (w.heap.size+1) 2)) (bC _) (Value.int IntKind.i64 y.snd)).drew;go_wp2;refine dJ (v:= .tuple #[.agg #[aa (dN x.1),ae x.1,aa x.2],.agg #[aa (dN y.1),ae y.1,aa y.2]]) ?_ rfl ⟨rfl,?_,G⟩;.simp[results,results258,go_sem, *]
     .exact G.rd R R.blocks.1 R.blocks.2 d.lt
end
def dP (w:aw)(b:Nat)(cs:aq)(T:TypeId):Prop:=w.heap[b]?=some (.cells cs T (0,0))
def dL {a b c:aw}(h:Below a.heap.size a b)(k:Below b.heap.size b c):Below a.heap.size a c:=
 h.J ⟨k.os,k.tape,k.output,k.size,λi d=>k.block i (aI d h.size)⟩
def dP.new (w:aw)(cs:aq)(T:TypeId):dP (w.alloc (.cells cs T)) w.heap.size cs T:=heap_alloc_new w _
def dP.lt {w:aw}{b:Nat}{cs:aq}{T:TypeId}(h:dP w b cs T):b<w.heap.size:=by
 unfold dP at h;by_cases hb:b<w.heap.size;.exact hb
 .rw[cS Te]at h;cases h
def eY (w:aw)(cs:aq)(T:TypeId):aj w (w.alloc (Obj.cells cs T))/\dP (w.alloc (Obj.cells cs T)) w.heap.size cs T:=⟨(Below.refl _ _).alloc (aD _) _,dP.new w cs T⟩
def dP.alloc {w:aw}{b:Nat}{cs:aq}{T:TypeId}(h:dP w b cs T)(o:Obj):dP (w.alloc o) b cs T:=(Below.l w o b h.lt).J h
def dP.G {w w1:aw}{n b:Nat}{cs:aq}{T:TypeId}(h:dP w b cs T)(a:Below n w w1)(c:b<n):dP w1 b cs T:=(a.block b c).J h
def dP.adv_ {w w1:aw}{n rb j b:Nat}{cs:aq}{T:TypeId}(h:dP w b cs T)(c:iX n rb w w1 j)(d:b<n)(a:b≠rb):dP w1 b cs T:=by
 unfold dP at*;rw[Below.block c b d,Go.Proofs.YtfebdimolnobaaaGreatDoor.BT,dM,dG (λe=>a e.sy)];exact h
def dP.set {w:aw}{b:Nat}{cs:aq}{T:TypeId}(h:dP w b cs T)(off:Nat)(v:Value):dP (w.setCell (ai b off) v) b (cs.setIfInBounds off v) T:=by
 unfold dP at*;rw[dM,dH rfl,h];rfl
def dP.other {w:aw}{b:Nat}{cs:aq}{T:TypeId}(h:dP w b cs T){c:Nat}(off:Nat)(v:Value)(a:c≠b):dP (w.setCell (ai c off) v) b cs T:=by
 unfold dP at*;rw[dM,dG a,h]
def dP.drew {w:aw}{b:Nat}{cs:aq}{T:TypeId}(h:dP w b cs T):dP w.drew b cs T:=h
def dP.grown {w w1:aw}{row:Option Nat}{b:Nat}{cs:aq}{T:TypeId}(h:dP w b cs T)(c:w.grownBy w1 row)(a:some b≠row):dP w1 b cs T:=(c.block b h.lt a).J h
def dP.cell {w:aw}{b:Nat}{cs:aq}{T:TypeId}(h:dP w b cs T)(off:Nat):w.cell? (ai b off)=cs[off]?:=by
 unfold dP at h;simp[World.cell?,h]
def dP.I {w:aw}{b:Nat}{cs:aq}{T:TypeId}(h:dP w b cs T):(∀off,w.cell? (ai b off)=cs[off]?)/\(∀off,w.frozen? (ai b off)=false):=by
 refine⟨h.cell,λoff=> ?_⟩;unfold dP at h;simp[World.frozen?,h]
def iX.sets {w w':aw}{n rb j:Nat}(h:iX n rb w w' j){b:Nat}(c:n<=b):∀(vs:ay) (o:Nat),iX n rb w (w'.setCells b o vs) j
 | [],o=>h
 |v::vs,o=>by
  have:=iX.sets (h.setCell (a:=(ai b o)) c v) c vs (o+1);simpa [World.setCells]using this
def dP.sets_other {w:aw}{b:Nat}{cs:aq}{T:TypeId}(h:dP w b cs T){c:Nat}(a:c≠b):∀(vs:ay) (o:Nat),dP (w.setCells c o vs) b cs T
 | [],o=>h
 |v::vs,o=>by
  have:=dP.sets_other (h.other o v a) a vs (o+1);simpa [World.setCells]using this
def dP.sets {w:aw}{b:Nat}{T:TypeId}:∀(vs pre old post:ay),dP w b (pre++old++post).toArray T->vs.length=old.length->dP (w.setCells b pre.length vs) b (pre++vs++post).toArray T
 | [],pre,old,post,h,hl=>by
  have:old= []:=br hl.sy;subst this
  simpa [World.setCells]using h
 |v::vs,pre,[],post,h,hl=>by simp at hl
 |v::vs,pre,o::old,post,h,hl=>by
  have a:=h.set pre.length v;have e:((pre++o::old++post).toArray).setIfInBounds pre.length v=((pre++ [v])++old++post).toArray:=(by simp[List.set_append_right]);rw[e]at a;have:=dP.sets vs (pre++ [v]) old post a (by simpa using hl);simpa [World.setCells]using this
def dP.sets_all {w:aw}{b:Nat}{cs:aq}{T:TypeId}(h:dP w b cs T)(vs:ay)(a:vs.length=cs.size):dP (w.setCells b 0 vs) b vs.toArray T:=by
 have:=dP.sets vs [] cs.toList [] (w:=w) (b:=b) (T:=T) (by simpa using h) (by simpa using a);simpa using this
def dW {fn:Func}{p:Tmp}{ty:TypeId}{b:Nat}{cs:aq}{fs:Array Field}(h:fn.results= #[.cell p ty])(tmps:aq)(W:aw)(e:tmps.getD p undef=ag b)(K:dP W b cs ty)
  (f:prog.underlying ty=some (.struct fs)) (c:(prog.info? ty).map (·.size)=some cs.size):
  (results fn tmps).run prog W= .ok (.agg cs) W:=by
 have d:=run_loadVar_row (P:=prog) W b ty ty cs (0,0) _ K f rfl c;have a:tmps[p]?.getD undef=ag b:=by simpa using e
 simp only[results,h];simp[a,asAddr,d]
section
attribute [local go_sem] jk jm jn
def Mr:Option W->ay
 |some x=>wC x
 |none=> [aa 0,S8,aa 0]
def sk (f:ek):ay:=aa f.form::(Mr f.key++wC f.type++wC f.name++wC f.num)
def Ri (w:aw)(rb wb:Nat)(ws:List W)(i:Nat)(form:Int)(R:Rd w rb wb ws i):
  Calls prog 341 #[ag rb,aa form] w (rK w rb wb ws (fF ws form i) λf _ e=>e= .returned (.agg (sk f).toArray)):=by
 have⟨z,B⟩:=eY w #[aa 0,aa 0,S8,aa 0,aa 0,S8,aa 0,aa 0,S8,aa 0,aa 0,S8,aa 0] 211;have o:=R.alloc (ak #[aa 0,aa 0,S8,aa 0,aa 0,S8,aa 0,aa 0,S8,aa 0,aa 0,S8,aa 0] 211);have u:¬w.heap.size=rb:=by have:=R.blocks;omega
 have L:¬rb=w.heap.size:=by have:=R.blocks;omega
 have k:=iX.oB R.next z;generalize hr:fF ws form i=r;have h:Hid (fF ws form i=r):=hr;clear hr;go_in
 go_wp2_with fail;refine(Rt _ rb wb ws i o).V ?_
 cases h1:lN ws i with
 |error p=>
  rintro e w1 ⟨rfl,j,d⟩;obtain rfl:r= .error p:=by rw[<-h.o,fF,d7 h1]
  unfold dX;go_wp2
  exact⟨rfl,rfl,j,k.J d Tf⟩
 |ok q=>
  obtain⟨x,t⟩:=q;rintro e w1 ⟨rfl,s,d⟩;have O:w.heap.size<w1.heap.size:=by have:=d.size;simp at this;omega
  have F:¬w1.heap.size=rb:=by have:=R.blocks;omega
  have M:¬rb=w1.heap.size:=Te;have G:¬w1.heap.size=w.heap.size:=Te;have N:¬w.heap.size=w1.heap.size:=Te;have m:=B.adv_ d Tf u;have g:=k.J d Tf;clear d o;go_wp2_with fail;refine(Ru _ rb wb ws t (s.alloc _)).V ?_
  cases h2:jx ws t with
  |error p=>
   rintro e w2 ⟨rfl,j,a⟩;obtain rfl:r= .error p:=by rw[<-h.o,fF,dU h1,d7 h2]
   unfold dX;go_wp2
   exact⟨rfl,rfl,j,(g.alloc (aD _) _).J a Tg⟩
  |ok q=>
   obtain⟨y,E⟩:=q;rintro e w2 ⟨rfl,D,a⟩;have P:w1.heap.size<w2.heap.size:=by have:=a.size;simp at this;omega
   have n:=(m.alloc _).adv_ a Tg u;have A:=(dP.new _ _ _).adv_ a Tf F;have v:=(g.alloc (aD _) _).J a Tg;have⟨J,K⟩:=n.I;have⟨H,I⟩:=A.I;obtain rfl:r= .ok (⟨form,none,x,y.1,y.2⟩,E):=by rw[<-h.o,fF,dU h1,dU h2]
   clear s m a g;go_wp2;have l:=(v.sets (b:=w1.heap.size) Te (wC y.1++wC y.2) 7).sets (b:=w.heap.size) (aD _) (sk ⟨form,none,x,y.1,y.2⟩) 0;have C:=(n.sets_other (c:=w1.heap.size) G (wC y.1++wC y.2) 7).sets_all (sk ⟨form,none,x,y.1,y.2⟩) rfl;refine dJ (dW results341 _ _ rfl C underlying211 Tj) rfl ⟨rfl,?_,l⟩;exact l.rd R R.blocks.1 R.blocks.2 D.lt
def So (w:aw)(rb wb:Nat)(ws:List W)(i:Nat)(R:Rd w rb wb ws i):
  Calls prog 340 #[ag rb] w (rK w rb wb ws (lS ws i) λf _ e=>e= .returned (.agg (sk f).toArray)):=by
 have x:iX w.heap.size rb w ((w.alloc (ak #[aa 0,aa 0,S8,aa 0,aa 0,S8,aa 0,aa 0,S8,aa 0,aa 0,S8,aa 0] 211)).alloc (ak #[aa 4,aa 0,S8,aa 0,aa 0,S8,aa 0,aa 0,S8,aa 0,aa 0,S8,aa 0] 211)) i:=iX.oB R.next ((Tc w _).alloc Tf _);have b:=(R.alloc (ak #[aa 0,aa 0,S8,aa 0,aa 0,S8,aa 0,aa 0,S8,aa 0,aa 0,S8,aa 0] 211)).alloc (ak #[aa 4,aa 0,S8,aa 0,aa 0,S8,aa 0,aa 0,S8,aa 0,aa 0,S8,aa 0] 211);have L:=(dP.new w #[aa 0,aa 0,S8,aa 0,aa 0,S8,aa 0,aa 0,S8,aa 0,aa 0,S8,aa 0] 211).alloc (ak #[aa 4,aa 0,S8,aa 0,aa 0,S8,aa 0,aa 0,S8,aa 0,aa 0,S8,aa 0] 211);have E:dP ((w.S6 #[aa 0,aa 0,S8,aa 0,aa 0,S8,aa 0,aa 0,S8,aa 0,aa 0,S8,aa 0] 211).S6 #[aa 4,aa 0,S8,aa 0,aa 0,S8,aa 0,aa 0,S8,aa 0,aa 0,S8,aa 0] 211) (w.heap.size+1) #[aa 4,aa 0,S8,aa 0,aa 0,S8,aa 0,aa 0,S8,aa 0,aa 0,S8,aa 0] 211:=(by have:=dP.new (w.S6 #[aa 0,aa 0,S8,aa 0,aa 0,S8,aa 0,aa 0,S8,aa 0,aa 0,S8,aa 0] 211) #[aa 4,aa 0,S8,aa 0,aa 0,S8,aa 0,aa 0,S8,aa 0,aa 0,S8,aa 0] 211;simpa using this);have m:¬w.heap.size=rb:=by have:=R.blocks;omega
 have n:¬w.heap.size+1=rb:=by have:=R.blocks;omega
 have a:¬rb=w.heap.size:=Te;have a:¬rb=w.heap.size+1:=Te;have V:w.heap.size+1<((w.alloc (ak #[aa 0,aa 0,S8,aa 0,aa 0,S8,aa 0,aa 0,S8,aa 0,aa 0,S8,aa 0] 211)).alloc (ak #[aa 4,aa 0,S8,aa 0,aa 0,S8,aa 0,aa 0,S8,aa 0,aa 0,S8,aa 0] 211)).heap.size:=Tf;generalize hr:lS ws i=r;have l:Hid (lS ws i=r):=hr;clear hr;go_in
 have⟨g,h⟩:=L.I;have⟨a,d⟩:=E.I;go_wp2_with fail;clear g h a d;refine(Ec _ rb wb ws i _ [109,97,112] b Ti Th).V ?_
 cases h1:fU ws [109,97,112] i with
 |error p=>
  rintro e w1 ⟨rfl,j,A⟩;obtain rfl:r= .error p:=by rw[<-l.o,lS,d7 h1]
  unfold dX;go_wp2
  exact⟨rfl,rfl,j,x.J A Te⟩
 |ok q=>
  obtain⟨_,k⟩:=q;rintro e w1 ⟨rfl,c,A⟩;have X:w.heap.size+1<w1.heap.size:=aI V A.size;have M:=L.adv_ A Te m;have F:=E.adv_ A V n;have z:=x.J A Te;clear A b L E x V;have⟨g,h⟩:=M.I;have⟨a,d⟩:=F.I;go_wp2_with fail;clear g h a d;refine(Ec _ rb wb ws k _ [60] c Ti Th).V ?_
  cases h2:fU ws [60] k with
  |error p=>
   rintro e w2 ⟨rfl,j,A⟩;obtain rfl:r= .error p:=by rw[<-l.o,lS,dU h1,d7 h2]
   unfold dX;go_wp2
   exact⟨rfl,rfl,j,z.J A Te⟩
  |ok q=>
   obtain⟨_,k⟩:=q;rintro e w2 ⟨rfl,b,A⟩;have Y:w.heap.size+1<w2.heap.size:=aI X A.size;have N:=M.adv_ A Te m;have G:=F.adv_ A X n;have B:=z.J A Te;clear A c M F z X;have⟨g,h⟩:=N.I;have⟨a,d⟩:=G.I;go_wp2_with fail;clear g h a d;refine(Rt _ rb wb ws k b).V ?_
   cases h3:lN ws k with
   |error p=>
    rintro e w3 ⟨rfl,j,A⟩;obtain rfl:r= .error p:=by rw[<-l.o,lS,dU h1,dU h2,d7 h3]
    unfold dX;go_wp2
    exact⟨rfl,rfl,j,B.J A Te⟩
   |ok q=>
    obtain⟨k,y⟩:=q;rintro e w3 ⟨rfl,t,A⟩;have z:w.heap.size+1<w3.heap.size:=aI Y A.size;have O:=N.adv_ A Te m;have H:=G.adv_ A Y n;have s:=B.J A Te;clear A b N G B Y;have o:=s.sets (b:=w.heap.size+1) Te [aa (dN k.1),ae k.1,aa k.2] 1;have u:=o.rd R R.blocks.1 R.blocks.2 t.lt;have v:=O.sets_other (c:=w.heap.size+1) Te [aa (dN k.1),ae k.1,aa k.2] 1;have x:dP (w3.setCells (w.heap.size+1) 1 [aa (dN k.1),ae k.1,aa k.2]) (w.heap.size+1) #[aa 4,aa (dN k.1),ae k.1,aa k.2,aa 0,S8,aa 0,aa 0,S8,aa 0,aa 0,S8,aa 0] 211:=dP.sets [aa (dN k.1),ae k.1,aa k.2] [aa 4] [aa 0,S8,aa 0] [aa 0,S8,aa 0,aa 0,S8,aa 0,aa 0,S8,aa 0] H rfl;have T:w.heap.size+1<(w3.setCells (w.heap.size+1) 1 [aa (dN k.1),ae k.1,aa k.2]).heap.size:=by simpa [World.setCells,World.setCell]using z
    have⟨g,h⟩:=O.I;have⟨a,d⟩:=H.I;clear s t O z;go_wp2_with fail;clear g h a d H;refine(Ec _ rb wb ws y _ [44] u Ti Th).V ?_
    cases h4:fU ws [44] y with
    |error p=>
     rintro e y ⟨rfl,j,A⟩;obtain rfl:r= .error p:=by rw[<-l.o,lS,dU h1,dU h2,dU h3,d7 h4]
     unfold dX;go_wp2
     exact⟨rfl,rfl,j,o.J A Te⟩
    |ok q=>
     obtain⟨_,t⟩:=q;rintro e y ⟨rfl,s,A⟩;have Z:w.heap.size+1<y.heap.size:=aI T A.size;have P:=v.adv_ A Te m;have I:=x.adv_ A T n;have C:=o.J A Te;clear A u v x o T;have⟨g,h⟩:=P.I;have⟨a,d⟩:=I.I;go_wp2_with fail;clear g h a d;refine(Rt _ rb wb ws t s).V ?_
     cases h5:lN ws t with
     |error p=>
      rintro e u ⟨rfl,j,A⟩;obtain rfl:r= .error p:=by rw[<-l.o,lS,dU h1,dU h2,dU h3,dU h4,d7 h5]
      unfold dX;go_wp2
      exact⟨rfl,rfl,j,C.J A Te⟩
     |ok q=>
      obtain⟨t,B⟩:=q;rintro e u ⟨rfl,v,A⟩;have D:w.heap.size+1<u.heap.size:=aI Z A.size;have Q:=P.adv_ A Te m;have J:=I.adv_ A Z n;have o:=C.J A Te;clear A s P I C Z;have s:=o.sets (b:=w.heap.size+1) Te [aa (dN t.1),ae t.1,aa t.2] 4;have y:=s.rd R R.blocks.1 R.blocks.2 v.lt;have z:=Q.sets_other (c:=w.heap.size+1) Te [aa (dN t.1),ae t.1,aa t.2] 4;have x:dP (u.setCells (w.heap.size+1) 4 [aa (dN t.1),ae t.1,aa t.2]) (w.heap.size+1) #[aa 4,aa (dN k.1),ae k.1,aa k.2,aa (dN t.1),ae t.1,aa t.2,aa 0,S8,aa 0,aa 0,S8,aa 0] 211:=dP.sets [aa (dN t.1),ae t.1,aa t.2] [aa 4,aa (dN k.1),ae k.1,aa k.2] [aa 0,S8,aa 0] [aa 0,S8,aa 0,aa 0,S8,aa 0] J rfl;have U:w.heap.size+1<(u.setCells (w.heap.size+1) 4 [aa (dN t.1),ae t.1,aa t.2]).heap.size:=by simpa [World.setCells,World.setCell]using D
      have⟨g,h⟩:=Q.I;have⟨a,d⟩:=J.I;clear o v Q D;go_wp2_with fail;clear g h a d J;refine(Ec _ rb wb ws B _ [62] y Ti Th).V ?_
      cases h6:fU ws [62] B with
      |error p=>
       rintro e w6 ⟨rfl,j,A⟩;obtain rfl:r= .error p:=by rw[<-l.o,lS,dU h1,dU h2,dU h3,dU h4,dU h5,d7 h6]
       unfold dX;go_wp2
       exact⟨rfl,rfl,j,s.J A Te⟩
      |ok q=>
       obtain⟨_,v⟩:=q;rintro e w6 ⟨rfl,u,A⟩;have o:w.heap.size+1<w6.heap.size:=aI U A.size;have S:=z.adv_ A Te m;have K:=x.adv_ A U n;have D:=s.J A Te;clear A y z x s U;have⟨g,h⟩:=S.I;have⟨a,d⟩:=K.I;go_wp2_with fail;clear g h a d;refine(Ru _ rb wb ws v u).V ?_
       cases h7:jx ws v with
       |error p=>
        rintro e v ⟨rfl,j,A⟩;obtain rfl:r= .error p:=by rw[<-l.o,lS,dU h1,dU h2,dU h3,dU h4,dU h5,dU h6,d7 h7]
        unfold dX;go_wp2
        exact⟨rfl,rfl,j,D.J A Te⟩
       |ok q=>
        obtain⟨y,s⟩:=q;rintro e v ⟨rfl,q,A⟩;have x:w.heap.size+1<v.heap.size:=aI o A.size;have p:=S.adv_ A Te m;have j:=K.adv_ A o n;have n:=D.J A Te;clear A u S K D o;have m:=n.sets (b:=w.heap.size+1) Te [aa (dN y.1.1),ae y.1.1,aa y.1.2,aa (dN y.2.1),ae y.2.1,aa y.2.2] 7;have n:=m.rd R R.blocks.1 R.blocks.2 q.lt;have o:=p.sets_other (c:=w.heap.size+1) Te [aa (dN y.1.1),ae y.1.1,aa y.1.2,aa (dN y.2.1),ae y.2.1,aa y.2.2] 7;have c:dP (v.setCells (w.heap.size+1) 7 [aa (dN y.1.1),ae y.1.1,aa y.1.2,aa (dN y.2.1),ae y.2.1,aa y.2.2]) (w.heap.size+1) #[aa 4,aa (dN k.1),ae k.1,aa k.2,aa (dN t.1),ae t.1,aa t.2,aa (dN y.1.1),ae y.1.1,aa y.1.2,aa (dN y.2.1),ae y.2.1,aa y.2.2] 211:=dP.sets [aa (dN y.1.1),ae y.1.1,aa y.1.2,aa (dN y.2.1),ae y.2.1,aa y.2.2] [aa 4,aa (dN k.1),ae k.1,aa k.2,aa (dN t.1),ae t.1,aa t.2] [aa 0,S8,aa 0,aa 0,S8,aa 0] [] j rfl;have c:w.heap.size+1<(v.setCells (w.heap.size+1) 7 [aa (dN y.1.1),ae y.1.1,aa y.1.2,aa (dN y.2.1),ae y.2.1,aa y.2.2]).heap.size:=by simpa [World.setCells,World.setCell]using x
        have⟨g,h⟩:=p.I;have⟨a,d⟩:=j.I;obtain rfl:r= .ok (⟨4,some k,t,y.1,y.2⟩,s):=by rw[<-l.o,lS,dU h1,dU h2,dU h3,dU h4,dU h5,dU h6,dU h7]
        go_wp2;have a:=m.sets (b:=w.heap.size) (aD _) (sk ⟨4,some k,t,y.1,y.2⟩) 0;have b:=o.sets_all (sk ⟨4,some k,t,y.1,y.2⟩) rfl;refine dJ (dW results340 _ _ rfl b underlying211 Tj) rfl ⟨rfl,?_,a⟩;exact a.rd R R.blocks.1 R.blocks.2 n.lt
end
section
variable {w:aw} {i base k m j:Nat} {ws:List W} {T:TypeId} {v:Value} {xs:ay} {form:Int}
attribute [local go_sem] jk jm jn
theorem Rw (w:aw)(v0 v1 v2 v3 v4 v5 v6 v7 v8 v9 v10 v11 v12:Value):
  Calls prog 339 #[.agg #[v0,v1,v2,v3,v4,v5,v6,v7,v8,v9,v10,v11,v12]] w λe w'=>∃fv,e= .returned (.agg #[aa 0,S8,aa 0,fv])/\w'.ownsRow w.heap.size 211 13 fv 1 [v0,v1,v2,v3,v4,v5,v6,v7,v8,v9,v10,v11,v12]/\aj w w':=by
 go_in
 go_wp2;have K:dP (((w.S6 #[v0,v1,v2,v3,v4,v5,v6,v7,v8,v9,v10,v11,v12] 211).S6 #[aa 0,S8,aa 0,Ta (w.heap.size+1+1) 1 1] 208).S6 #[v0,v1,v2,v3,v4,v5,v6,v7,v8,v9,v10,v11,v12] 211) (w.heap.size+1) #[aa 0,S8,aa 0,Ta (w.heap.size+1+1) 1 1] 208:=(by have:=(dP.new (w.S6 #[v0,v1,v2,v3,v4,v5,v6,v7,v8,v9,v10,v11,v12] 211) #[aa 0,S8,aa 0,Ta (w.heap.size+1+1) 1 1] 208).alloc (ak #[v0,v1,v2,v3,v4,v5,v6,v7,v8,v9,v10,v11,v12] 211);simpa using this);refine dJ (dW results339 _ _ rfl K underlying208 Tj) rfl ⟨_,rfl,⟨rfl,.inr ⟨w.heap.size+1+1,1,#[v0,v1,v2,v3,v4,v5,v6,v7,v8,v9,v10,v11,v12],rfl,Te,?_,Te,Tl,rfl,rfl⟩⟩,?_⟩;.have:=dP.new ((w.S6 #[v0,v1,v2,v3,v4,v5,v6,v7,v8,v9,v10,v11,v12] 211).S6 #[aa 0,S8,aa 0,Ta (w.heap.size+1+1) 1 1] 208) #[v0,v1,v2,v3,v4,v5,v6,v7,v8,v9,v10,v11,v12] 211;simpa [dP]using this
 .exact(((Below.refl _ _).alloc (aD _) _).alloc Tf _).alloc Tg _
theorem Sp (w:aw)(f:ek):
  S9 339 #[.agg (sk f).toArray] w λe w'=>∃fv,e= .returned (.agg #[aa 0,S8,aa 0,fv])/\w'.ownsRow w.heap.size 211 13 fv 1 (sk f)/\aj w w':=by
 obtain⟨form,key,b,nm,a⟩:=f;cases key<;>exact Rw w _ _ _ _ _ _ _ _ _ _ _ _ _
theorem Rd.drew {rb wb:Nat}(R:Rd w rb wb ws i):Rd w.drew rb wb ws i:=
 R.G (Tb w).drew R.blocks.1 R.blocks.2
def iQ (rb:Nat)(w:aw):Nat:=
 match w.cell? (ai rb 1)with
 |some v=>(intOf v).toNat
 |none=>0
theorem Rd.nextOf {rb wb:Nat}(R:Rd w rb wb ws i):Go.Proofs.YtfebdimolnobaaaGreatDoor.iQ rb w=i:=by
 simp[Go.Proofs.YtfebdimolnobaaaGreatDoor.iQ,R.next,intOf]
theorem eL {w1:aw}(i:aj w w1)(h:w.ownsRow base T k v m xs):w1.ownsRow base T k v m xs:=by
 refine⟨h.1,?_⟩;rcases h.2 with b|⟨g,a,d,b,e,c,f⟩;.exact .inl b
 .exact .inr ⟨g,a,d,b,e,(i.block g (dP.lt c)).J c,f⟩
theorem jo {w1:aw}{n rb:Nat}(i:iX n rb w w1 j)(p:w.heap.size<=n)(q:rb<base)(h:w.ownsRow base T k v m xs):w1.ownsRow base T k v m xs:=by
 refine⟨h.1,?_⟩;rcases h.2 with b|⟨g,a,d,b,e,c,f⟩;.exact .inl b
 .exact .inr ⟨g,a,d,b,e,dP.adv_ c i (aI (dP.lt c) p) Te,f⟩
theorem oO (h:w.ownsRow base T k v m xs):w.drew.ownsRow base T k v m xs:=h
theorem iz {lo:Nat}(h:w.ownsRow base T k v m xs)(i:lo<=base):w.ownsRow lo T k v m xs:=by
 refine⟨h.1,?_⟩;rcases h.2 with b|⟨g,a,c,b,d,e,f⟩;.exact .inl b
 .exact .inr ⟨g,a,c,b,aL i d,e,f⟩
theorem jz {lo:Nat}(h:w.ownsRow base T k v m xs){b:Nat}(n:b<base)(j:lo<=base)(vs:ay)(o:Nat):(w.setCells b o vs).ownsRow lo T k v m xs:=by
 refine⟨h.1,?_⟩;rcases h.2 with c|⟨g,a,d,c,e,f,i⟩;.exact .inl c
 .exact .inr ⟨g,a,d,c,aL j e,dP.sets_other (b:=g) f Te vs o,i⟩
theorem dO (h:w.ownsRow base T k v m xs):∃a n c,v= .slice a n c:=by
 rcases h.2 with⟨b,_⟩|⟨g,d,e,b,f⟩;.exact⟨_,_,_,b⟩
 .exact⟨_,_,_,b⟩
theorem Ms (f:ek):(sk f).length=13:=by
 obtain⟨form,key,b,nm,a⟩:=f;cases key<;>rfl
theorem Tryz.info211:(prog.info? 211).map (λi=>(i.zero,i.size,i.bytes))=some (some (.agg #[aa 0,aa 0,S8,aa 0,aa 0,S8,aa 0,aa 0,S8,aa 0,aa 0,S8,aa 0]),13,136):=Tj
theorem rL {f:ek}(h:fF ws form i= .ok (f,j)):sk f= [aa form,aa 0,S8,aa 0,aa (dN f.type.1),ae f.type.1,aa f.type.2,aa (dN f.name.1),ae f.name.1,aa f.name.2,aa (dN f.num.1),ae f.num.1,aa f.num.2]:=by
 unfold fF at h;have⟨t,c,a,h⟩:=dQ h;have⟨nm,d,b,h⟩:=dQ h;simp at h;obtain⟨rfl,rfl⟩:=h;rfl
theorem Mt (w:aw)(rb wb:Nat)(ws:List W)(i:Nat)(form:Int)(R:Rd w rb wb ws i):
  S9 341 #[ag rb,aa form] w (rK w rb wb ws (fF ws form i) λf _ e=>e= .returned (.agg #[aa form,aa 0,S8,aa 0,aa (dN f.type.1),ae f.type.1,aa f.type.2,aa (dN f.name.1),ae f.name.1,aa f.name.2,aa (dN f.num.1),ae f.num.1,aa f.num.2])):=by
 refine(Ri w rb wb ws i form R).V λe w' h=> ?_
 cases hf:fF ws form i with
 |error p=>rw[hf]at h;exact h
 |ok q=>
  obtain⟨f,j⟩:=q;rw[hf]at h;obtain⟨a,b⟩:=h;exact⟨by rw[a,rL hf],b⟩
end
section
variable {P:Program} {ops:Array Oper} {Q:Exit->Act->aw->Prop} {md:Region.Mode} {S:aw->Prop} (i:Nat) {oi:Oper} {fuel:Nat} {listed:Array Bool} {a:Act} {w:aw}
attribute [local go_sem] jk jm jn
open Tq
theorem gU (v:Value)(f:ops[i]?=some oi)
  (b:(Region.noSelect ops&&(Region.free md ops listed i&&(Region.ready md ops listed).contains i))=true) (d:∀c a w,Q (.panic c) (a.put oi.dst v) w->Q (.panic c) a w) (g:YieldsIf P ops S oi v a) (e:S w)
  (h:wpAnyH P md ops Q S fuel (listed.setIfInBounds i true) (a.put oi.dst v) w):wpAnyH P md ops Q S (fuel+1) listed a w:=by
 rw[bK,bK]at b;exact wpAnyH_take f b.1 b.2.1 b.2.2 d g e h
theorem S2 (v:Value)(d:S w)(h:wpAnyH P md ops Q S fuel (listed.setIfInBounds i true) (a.put oi.dst v) w)(f:ops[i]?=some oi:=by rfl)
  (e:(Region.noSelect ops&&(Region.free md ops listed i&&(Region.ready md ops listed).contains i))=true:=by kernel_rfl) (b:∀c a w,Q (.panic c) (a.put oi.dst v) w->Q (.panic c) a w:=by exact λ_ _ _ h=>h) (g:YieldsIf P ops S oi v a:=by exact .inl ⟨rfl,λw ⟨s0,s1,s2⟩=>Tp⟩):wpAnyH P md ops Q S (fuel+1) listed a w:=gU i v f e b g d h
theorem S3 (v:Value)(d:S w)(h:wpAnyH P md ops Q S fuel (listed.setIfInBounds i true) (a.put oi.dst v) w)(f:ops[i]?=some oi:=by rfl)
  (e:(Region.noSelect ops&&(Region.free md ops listed i&&(Region.ready md ops listed).contains i))=true:=by kernel_rfl) (b:∀c a w,Q (.panic c) (a.put oi.dst v) w->Q (.panic c) a w:=by exact λ_ _ _ h=>h) (g:YieldsIf P ops S oi v a:=by exact .inl ⟨rfl,λw ⟨sc,s0,s1,s2⟩=>Tp⟩):wpAnyH P md ops Q S (fuel+1) listed a w:=gU i v f e b g d h
theorem S4 (v:Value)(d:S w)(h:wpAnyH P md ops Q S fuel (listed.setIfInBounds i true) (a.put oi.dst v) w)(f:ops[i]?=some oi:=by rfl)
  (e:(Region.noSelect ops&&(Region.free md ops listed i&&(Region.ready md ops listed).contains i))=true:=by kernel_rfl) (b:∀c a w,Q (.panic c) (a.put oi.dst v) w->Q (.panic c) a w:=by exact λ_ _ _ h=>h) (g:YieldsIf P ops S oi v a:=by exact .inr ⟨rfl,rfl⟩):wpAnyH P md ops Q S (fuel+1) listed a w:=gU i v f e b g d h
theorem Sq (w:aw)(rb wb:Nat)(ws:List W)(i:Nat)(R:Rd w rb wb ws i):
  Calls prog 338 #[ag rb] w (rK w rb wb ws (ie ws i) λp w' e=>∃fv,e= .returned (.agg ((Mr p.oneof++ [fv]).toArray))/\w'.ownsRow w.heap.size 211 13 fv p.fields.length (p.fields.flatMap sk)):=by
 have⟨i0,TB,TC,TD,TE⟩:=info_parts Tryz.info211;have a:iX w.heap.size rb w (w.S6 #[aa 0,S8,aa 0,ah] 208) i:=iX.oB R.next (Tc w _);have h:=R.alloc (ak #[aa 0,S8,aa 0,ah] 208);have f:=dP.new w #[aa 0,S8,aa 0,ah] 208;have L:¬w.heap.size=rb:=by have:=R.blocks;omega
 have b:¬rb=w.heap.size:=Te;have c:w.heap.size<(w.alloc (ak #[aa 0,S8,aa 0,ah] 208)).heap.size:=Tf;generalize hr:ie ws i=r;have G:Hid (ie ws i=r):=hr;clear hr;go_in
 go_wp2_with fail;refine(Ec _ rb wb ws i _ [111,110,101,111,102] h Ti Th).V ?_
 cases h1:fU ws [111,110,101,111,102] i with
 |error p=>
  rintro e w1 ⟨rfl,j,A⟩;obtain rfl:r= .error p:=by rw[<-G.o,ie,d7 h1]
  unfold dX;go_wp2
  exact⟨rfl,rfl,j,a.J A Te⟩
 |ok q=>
  obtain⟨_,l⟩:=q;rintro e w1 ⟨rfl,k,A⟩;have d:w.heap.size<w1.heap.size:=aI c A.size;have g:=f.adv_ A c L;have b:=a.J A Te;clear A h f a c;go_wp2_with fail;refine(Qv _ rb wb ws l 1 k Th).V ?_
  cases h2:jK ws 1 l with
  |error p=>
   rintro e w2 ⟨rfl,j,A⟩;obtain rfl:r= .error p:=by rw[<-G.o,ie,dU h1,d7 h2]
   unfold dX;go_wp2
   exact⟨rfl,rfl,j,b.J A Te⟩
  |ok q=>
   obtain⟨x,m⟩:=q;rintro e w2 ⟨rfl,l,A⟩;have z2:w.heap.size<w2.heap.size:=aI d A.size;have h:=(g.adv_ A d L).alloc (ak #[aa (dN x.1),ae x.1,aa x.2,ah] 208);have f:=dP.new w2 #[aa (dN x.1),ae x.1,aa x.2,ah] 208;have a:=(b.J A Te).alloc (aD _) (ak #[aa (dN x.1),ae x.1,aa x.2,ah] 208);have C:=l.alloc (ak #[aa (dN x.1),ae x.1,aa x.2,ah] 208);have c:w2.heap.size<(w2.alloc (ak #[aa (dN x.1),ae x.1,aa x.2,ah] 208)).heap.size:=Tf;have z:¬w2.heap.size=rb:=by have:=R.blocks;omega
   have n6:¬w2.heap.size=w.heap.size:=Te;clear A k g b d;go_wp2_with fail;refine(Ec _ rb wb ws m _ [123] C Ti Th).V ?_
   cases h3:fU ws [123] m with
   |error p=>
    rintro e w3 ⟨rfl,j,A⟩;obtain rfl:r= .error p:=by rw[<-G.o,ie,dU h1,dU h2,d7 h3]
    unfold dX;go_wp2
    exact⟨rfl,rfl,j,a.J A Te⟩
   |ok q=>
    obtain⟨_,g⟩:=q;rintro e w3 ⟨rfl,Q,A⟩;have E:w2.heap.size<w3.heap.size:=aI c A.size;have P:=h.adv_ A Te L;have H:=f.adv_ A c z;have N:=a.J A Te;clear A l C h f a c;go_wp2_with fail;have j3:=H.cell 3
    cases h4:fF ws 3 g with
    |error p=>
     obtain rfl:r= .error p:=by rw[<-G.o,ie,dU h1,dU h2,dU h3,d7 h4]
     refine wp_region_held_drew (S:=λw'=>w'.cell? (ai w2.heap.size 3)=some (ah)) Tj (by simpa using j3) (λhHeld=> ?_);refine gU 0 (.pointer (some (ai w2.heap.size 3))) rfl Tj (λ_ _ _ h=>h) (Or.inl ⟨Tk,λw s=>by dsimp only at s;go_simp⟩) hHeld ?_;refine gU 1 (ah) rfl Tj (λ_ _ _ h=>h) (Or.inl ⟨Tk,λw s=>by dsimp only at s;go_simp⟩) hHeld ?_;refine gU 2 (ag rb) rfl Tj (λ_ _ _ h=>h) (Or.inl ⟨Tk,λw s=>by dsimp only at s;go_simp⟩) hHeld ?_;simp only[Act.put,S7];refine wpAnyH_ready (rs:= [3]) Tj Tf (AllReadyH.cons rfl (λK hK=> ?_) AllReadyH.nil);clear hK;go_simp;refine(Mt _ rb wb ws g 3 Q.drew).V ?_;rw[h4];rintro e m ⟨rfl,j,A⟩
     exact⟨rfl,rfl,j,N.drew.J A Tg⟩
    |ok q=>
     obtain⟨f,y⟩:=q;have T:Hid (sk f=_):=rL h4;obtain⟨M,u⟩:∃M,Hid (m9 [f] (fC (fO ws [125]) (fF ws 3) ws.length y)=M):=⟨_,rfl⟩;have Tz:Hid ((gS M λl i=>gS (fU ws [125] i) λ_ i=> .ok (⟨some x,l⟩,i))=r):=(by have:=G.o;rw[ie,dU h1,dU h2,dU h3,dU h4,u.o]at this;exact this);clear G h1 h2 h3;go_cut []from 11 to 17 (λwr=>∃(n k:Nat) (fs:List ek) (fv:Value),fs.length<=k/\ws.length-k<=n/\Hid (m9 fs (fC (fO ws [125]) (fF ws 3) n k)=M)/\Rd wr rb wb ws k/\iX w.heap.size rb w wr k/\dP wr w.heap.size #[aa 0,S8,aa 0,ah] 208/\dP wr w2.heap.size #[aa (dN x.1),ae x.1,aa x.2,fv] 208/\wr.ownsRow (w2.heap.size+1) 211 13 fv fs.length (fs.flatMap sk)/\w2.heap.size<wr.heap.size)
     case first=>
      have J:=H;have c:=Q;have U:Hid (some w2.heap.size≠(Value.slice none 0 0).ownBlock):=by simp[Hid,Value.ownBlock]
      go_region_law (first|(refine step_append_lies _ Tk _ _ _ Tk (w2.heap.size+1) 211 i0 _ 13 136 underlying206 TB TC TD TE rfl Te (ah) 0 [] Tk (aX _ _ _ _) (ai m.heap.size 0) 1 1 [_,_,_,_,_,_,_,_,_,_,_,_,_] Tk Tk (aY (t:=211) (fr:=(0,0)) (heap_alloc_new m _)) Tm Te Tl Te (by have:=A.size;simp at this⊢;omega) (m.heap.size+1) Tf ?_;intro v d w5 Tv o TJ TK;have⟨x1,x2⟩:=(((J.drew.adv_ A Tg z).alloc _).grown o U.o).I)|(go_simp;go_at_call 341;refine(Mt _ rb wb ws g 3 c.drew).V ?_;rw[h4];rintro e m ⟨rfl,V,A⟩;have⟨y1,y2⟩:=(J.drew.adv_ A Tg z).I;have⟨y3,y4,y5,y6⟩:=gW (w:=m) (b:=w2.heap.size) (by have:=A.size;simp at this;omega)))
      all_goals
       go_wp2;go_meet
       case rel=>
        go_light;have TF:w3.heap.size<=m.heap.size:=by have:=A.size;simpa using this
        have B:=((((N.drew.J A Tg).alloc (aD _) _).grown o (aD _) (λk D=>by simp[Value.ownBlock]at D))).setCell (a:=(ai w2.heap.size 3)) Tg (Ta v (0+1) d);have l:g<y:=jy _ _ _ _ _ h4;refine⟨ws.length,y,[f],Ta v (0+1) d,Tg,Te,u,B.rd R R.blocks.1 R.blocks.2 V.lt,B,?_,?_,?_,?_⟩;.exact(((P.drew.adv_ A Tg L).alloc _).grown o (by simp[Value.ownBlock])).other 3 _ n6
        .exact(((H.drew.adv_ A Tg z).alloc _).grown o (by simp[Value.ownBlock])).set 3 _
        .have:=ownsRow_setCell_below Tv (a:=(ai w2.heap.size 3)) Tf (Ta v (0+1) d);simpa [T.o]using this
        .have:=o.size;simp[World.setCell]at this⊢;omega
     case rest=>
      clear H Q P N E j3 h4 T u;go_wp2;go_loopw [20] (λ_ wr=>∃(n k:Nat) (fs:List ek) (fv:Value),fs.length<=k/\ws.length-k<=n/\Hid (m9 fs (fC (fO ws [125]) (fF ws 3) n k)=M)/\Rd wr rb wb ws k/\iX w.heap.size rb w wr k/\dP wr w.heap.size #[aa 0,S8,aa 0,ah] 208/\dP wr w2.heap.size #[aa (dN x.1),ae x.1,aa x.2,fv] 208/\wr.ownsRow (w2.heap.size+1) 211 13 fv fs.length (fs.flatMap sk)/\w2.heap.size<wr.heap.size) (λ_ wr=>ws.length-iQ rb wr)
      case atStart=>exact hcut
      case round=>
       clear hcut;obtain⟨n,k,fs,fv,g,u,l,c,F,I,J,X,Z⟩:=hrel;have D:=c.lt;have g:=c.few;have g:=c.nextOf;have HN:Hid (iQ rb wr=k):=g;clear g;have⟨y,E⟩:=c.word;cases hs:(y.1.toList== [125])
       .have Y:fO ws [125] k=false:=by unfold fO;simp only[E,hs]
        have G:Hid (ws[k]?=some y):=E;clear E;go_wp2_with fail;refine(Mp _ rb wb ws k y _ c G.o).V ?_;rintro e w3 ⟨rfl,g⟩;rw[show(ByteArray.mk #[125]).toList= [125]from by decide+kernel];have C:=c.G g c.blocks.1 c.blocks.2;have u:=F.G g F.size;have K3:=I.G g I.lt;have O:=J.G g J.lt;have D:w3.ownsRow (w2.heap.size+1) 211 13 fv fs.length (fs.flatMap sk):=eL g X;have TG:w2.heap.size<w3.heap.size:=aI Z g.size;have U:Hid (some w2.heap.size≠fv.ownBlock):=(by intro e;have:=(D.lt _ e.sy).1;omega);clear c F I J X Z g;go_wp2_with fail;have j3:=O.cell 3
        cases h4:fF ws 3 k with
        |error p=>
         obtain rfl:r= .error p:=(by rw[<-Tz.o,<-l.o,qx Y Te h4];rfl);refine wp_region_held_drew (S:=λw'=>w'.cell? (ai w2.heap.size 3)=some fv) Tj (by simpa using j3) (λhHeld=> ?_);refine gU 0 (.pointer (some (ai w2.heap.size 3))) rfl Tj (λ_ _ _ h=>h) (Or.inl ⟨Tk,λw s=>by dsimp only at s;go_simp⟩) hHeld ?_;refine gU 1 fv rfl Tj (λ_ _ _ h=>h) (Or.inl ⟨Tk,λw s=>by dsimp only at s;go_simp⟩) hHeld ?_;refine gU 2 (ag rb) rfl Tj (λ_ _ _ h=>h) (Or.inl ⟨Tk,λw s=>by dsimp only at s;go_simp⟩) hHeld ?_;simp only[Act.put,S7];refine wpAnyH_ready (rs:= [3]) Tj Tf (AllReadyH.cons rfl (λK hK=> ?_) AllReadyH.nil);clear hK;go_simp;refine(Mt _ rb wb ws k 3 C.drew).V ?_;rw[h4];rintro e m ⟨rfl,j,A⟩
         exact⟨rfl,rfl,j,u.drew.J A (by have:=u.size;simp;omega)⟩
        |ok q=>
         obtain⟨f,h⟩:=q;have T:Hid (sk f=_):=rL h4;have q:k<h:=jy _ _ _ _ _ h4;have s:Hid (m9 (fs++ [f]) (fC (fO ws [125]) (fF ws 3) (n-1) h)=M):=(by rw[<-l.o,sD fs Y Te h4];exact rfl);have J:=O;have c:=C;go_region_law (first|(refine step_append_lies _ Tk _ _ _ Tk (w2.heap.size+1) 211 i0 _ 13 136 underlying206 TB TC TD TE rfl Te fv fs.length (fs.flatMap sk) Tk ((jo A (aD _) (by have:=R.blocks;omega) (oO D)).alloc _) (ai m.heap.size 0) 1 1 [_,_,_,_,_,_,_,_,_,_,_,_,_] Tk Tk (aY (t:=211) (fr:=(0,0)) (heap_alloc_new m _)) Tm Te Tl Te (by have:=A.size;simp at this⊢;omega) (m.heap.size+1) Tf ?_;intro v d w5 Tv o TJ TK;have⟨x1,x2⟩:=(((J.drew.adv_ A Tg z).alloc _).grown o U.o).I)|(go_simp;go_at_call 341;refine(Mt _ rb wb ws k 3 c.drew).V ?_;rw[h4];rintro e m ⟨rfl,V,A⟩;have⟨y1,y2⟩:=(J.drew.adv_ A Tg z).I;have⟨y3,y4,y5,y6⟩:=gW (w:=m) (b:=w2.heap.size) (by have:=A.size;simp at this;omega)))
         all_goals
          go_wp2;go_roundw
          case rel=>
           go_light;have TF:w3.heap.size<=m.heap.size:=by have:=A.size;simpa using this
           have t:=o.size;have B:=((((u.drew.J A (by have:=u.size;simp;omega)).alloc (aD _) _).grown o (aD _) (λj q=>by have:=(D.lt j q).1;omega))).setCell (a:=(ai w2.heap.size 3)) Tg (Ta v (fs.length+1) d);refine⟨n-1,h,fs++ [f],Ta v (fs.length+1) d,Tg,Te,s,B.rd R R.blocks.1 R.blocks.2 V.lt,B,?_,?_,?_,?_⟩;.exact(((K3.drew.adv_ A Tg L).alloc _).grown o (λe=>by have:=(D.lt _ e.sy).1;omega)).other 3 _ n6
           .exact(((O.drew.adv_ A Tg z).alloc _).grown o U.o).set 3 _
           .have:=ownsRow_setCell_below Tv (a:=(ai w2.heap.size 3)) Tf (Ta v (fs.length+1) d);simpa [T.o]using this
           .simp[World.setCell]at t⊢;omega
          case measure=>
           go_light;have B:=((((u.drew.J A (by have:=u.size;simp;omega)).alloc (aD _) _).grown o (aD _) (λj q=>by have:=(D.lt j q).1;omega))).setCell (a:=(ai w2.heap.size 3)) Tg (Ta v (fs.length+1) d);have a:=B.rd R R.blocks.1 R.blocks.2 V.lt;have d:=a.lt;rw[a.nextOf,HN.o];omega
       .have Y:fO ws [125] k=true:=by unfold fO;simp only[E,hs]
        have a:fU ws [125] k= .ok ((),k+1):=by unfold fU;simp only[E,hs];rfl
        have G:Hid (ws[k]?=some y):=E;clear E;obtain rfl:r= .ok (⟨some x,fs⟩,k+1):=(by rw[<-Tz.o,<-l.o,oN Y];simp only[m9,gS,a,bH]);go_wp2_with fail;refine(Mp _ rb wb ws k y _ c G.o).V ?_;rintro e w3 ⟨rfl,g⟩;rw[show(ByteArray.mk #[125]).toList= [125]from by decide+kernel];have C:=c.G g c.blocks.1 c.blocks.2;have u:=F.G g F.size;have K3:=I.G g I.lt;have O:=J.G g J.lt;have D:w3.ownsRow (w2.heap.size+1) 211 13 fv fs.length (fs.flatMap sk):=eL g X;have TG:w2.heap.size<w3.heap.size:=aI Z g.size;clear c F I J X Z g;go_wp2_with fail;refine(Ec _ rb wb ws k _ [125] C Ti Th).V ?_;rw[a];rintro e m ⟨rfl,Q,A⟩;have P:=K3.adv_ A Te L;have H:=O.adv_ A Te z;have N:=u.J A u.size;have f:m.ownsRow (w2.heap.size+1) 211 13 fv fs.length (fs.flatMap sk):=jo A (aD _) (by have:=R.blocks;omega) D;obtain⟨a,fn,c,rfl⟩:=dO f;have⟨h,d⟩:=P.I;have⟨d,g⟩:=H.I;go_wp2;have d:=N.sets (b:=w.heap.size) (aD _) [aa (dN x.1),ae x.1,aa x.2,.slice a fn c] 0;have g:=P.sets_all [aa (dN x.1),ae x.1,aa x.2,.slice a fn c] rfl;refine dJ (dW results338 _ _ rfl g underlying208 Tj) rfl ⟨⟨_,rfl,?_⟩,?_,d⟩;.exact jz (lo:=w.heap.size) f (b:=w.heap.size) (Nat.lt_succ_of_lt z2) (Nat.le_succ_of_le (cK z2)) [aa (dN x.1),ae x.1,aa x.2,.slice a fn c] 0
        .exact d.rd R R.blocks.1 R.blocks.2 Q.lt
end
end Go.Proofs.YtfebdimolnobaaaGreatDoor
