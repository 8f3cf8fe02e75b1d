import Derived.Test.YtfebdimolnobaaaGreatDoorRrF
import Derived.Test.YtfebdimolnobaaaGreatDoorBuI
import Derived.Laws.EntriesVeiled
set_option maxRecDepth 100000
set_option maxHeartbeats 8000000
set_option linter.all false
namespace Go.Proofs.YtfebdimolnobaaaGreatDoor
open Go.RowKit Go.Proofs.Tryz
section
open VH
def gG (s:au)(a k:Nat):Fx (LV×Nat):=
 if k=13 then(match rQ s a with| .error x=> .error x| .ok x=> .ok ((0,x.1),x.2))
 else if k=14 then(match oq s a with| .error x=> .error x| .ok x=> .ok ((0,x.1),x.2))
 else(match jG s a k with| .error x=> .error x| .ok x=> .ok ((x.1,⟨#[]⟩),x.2))
def qq (w:aw)(rb:Nat)(s:au)(a:Nat)(deep:Int)(k:Nat)(pv:Value)(h:ei w rb s a deep)(L:a<=s.size)(A:s.size<=2^47)(S:k<=15)(B:UOK w)(p:rb≠2)(q:rb≠3):
  Calls prog 194 #[.agg #[aa k,pv],ah rb] w (pV w rb s deep (gG s a k) wN):=by
 have f:ee [rb] w ((w.alloc (am #[aa k,pv] 216)).alloc (am #[.int .u64 0,Vp,ai,Vp] 55)):=((ee.refl _ _).alloc _).alloc _;have y:ei ((w.alloc (am #[aa k,pv] 216)).alloc (am #[.int .u64 0,Vp,ai,Vp] 55)) rb s a deep:=(dZ.alloc h _).alloc _;have G:=(dZ.new w #[aa k,pv] 216).alloc (am #[.int .u64 0,Vp,ai,Vp] 55);have c:dZ ((w.alloc (am #[aa k,pv] 216)).alloc (am #[.int .u64 0,Vp,ai,Vp] 55)) (w.heap.size+1) #[.int .u64 0,Vp,ai,Vp] 55:=dZ.newAt Vw _ _;have I:UOK ((w.alloc (am #[aa k,pv] 216)).alloc (am #[.int .u64 0,Vp,ai,Vp] 55)):=B.O (f.block _ B.lt1 (by simp;exact λe=>p e.sy)) (f.block _ B.lt2 (by simp;exact λe=>q e.sy));have N:rb<w.heap.size:=dZ.lt h
 have j:Hid (∀(w1 w2:aw) (x:LV) (z:Nat),ee [rb] w w1->dZ w1 (w.heap.size+1) #[.int .u64 0,Vp,ai,Vp] 55->ee [rb] w1 w2->ei w2 rb s z deep->
   dZ (((((w2.setCell (aj (w.heap.size+1) 0) (.int .u64 x.1)).setCell (aj (w.heap.size+1) 1) (ag x.2)).setCell (aj (w.heap.size+1) 2) (ai)).setCell (aj (w.heap.size+1) 3) (Vp))) (w.heap.size+1) #[.int .u64 x.1,ag x.2,ai,Vp] 55/\
   ee [rb] w (((((w2.setCell (aj (w.heap.size+1) 0) (.int .u64 x.1)).setCell (aj (w.heap.size+1) 1) (ag x.2)).setCell (aj (w.heap.size+1) 2) (ai)).setCell (aj (w.heap.size+1) 3) (Vp)))/\
   ei (((((w2.setCell (aj (w.heap.size+1) 0) (.int .u64 x.1)).setCell (aj (w.heap.size+1) 1) (ag x.2)).setCell (aj (w.heap.size+1) 2) (ai)).setCell (aj (w.heap.size+1) 3) (Vp))) rb s z deep):=λw1 w2 x z P D C Q=>by
  have R:dZ w2 (w.heap.size+1) #[.int .u64 0,Vp,ai,Vp] 55:=(C.block _ D.lt Vx).J D;refine⟨(((R.set 0 _).set 1 _).set 2 _).set 3 _,?_,(((dZ.other Q 0 _ Vv).other 1 _ Vv).other 2 _ Vv).other 3 _ Vv⟩;have o:=P.J C
  exact⟨o.os,o.tape,o.output,by simpa using o.size,λi M O=>by
   rw[dY,dQ Vv,dY,dQ Vv,dY,dQ Vv,dY,dQ Vv]
   exact o.block i M O⟩
 obtain⟨r,g⟩:∃r,Hid (gG s a k=r):=⟨_,rfl⟩;rw[g.o];by_cases h13:k=13
 .subst h13;have d:Hid (gG s a 13=(match rQ s a with| .error x=> .error x| .ok x=> .ok ((0,x.1),x.2))):=rfl;go_in
  go_wp2_with fail;generalize((w.alloc (am #[aa ((13:Nat):Int),pv] 216)).alloc (am #[.int .u64 0,Vp,ai,Vp] 55))=w1 at*;refine(Kx w1 rb s a deep y A I p q).V ?_
  cases hv:rQ s a with
  |error x=>
   rintro e w2 ⟨b,m⟩;obtain rfl:e=d5 x.1 x.2:=m;obtain rfl:r= .error x:=by rw[<-g.o,d.o,hv]
   unfold d5;go_wp2
   exact⟨rfl,f.J b,rfl⟩
  |ok x=>
   rintro e w2 ⟨b,rfl,n⟩;obtain rfl:r= .ok (((0,x.1):LV),x.2):=by rw[<-g.o,d.o,hv]
   have⟨t,u,v⟩:=j.o w1 w2 ((0,x.1):LV) x.2 f c b n;have l:dZ w2 (w.heap.size+1) #[.int .u64 0,Vp,ai,Vp] 55:=(b.block _ c.lt Vx).J c;have⟨E,F⟩:=l.I;clear j;go_wp2;exact dU (ew results194 _ _ rfl t underlying55 VA) rfl ⟨u,rfl,v⟩
 .by_cases h14:k=14
  .subst h14;have d:Hid (gG s a 14=(match oq s a with| .error x=> .error x| .ok x=> .ok ((0,x.1),x.2))):=rfl;go_in
   go_wp2_with fail;generalize((w.alloc (am #[aa ((14:Nat):Int),pv] 216)).alloc (am #[.int .u64 0,Vp,ai,Vp] 55))=w1 at*;refine(Hc w1 rb s a deep y A).V ?_
   cases hv:oq s a with
   |error x=>
    rintro e w2 ⟨b,m⟩;obtain rfl:e=d5 x.1 x.2:=m;obtain rfl:r= .error x:=by rw[<-g.o,d.o,hv]
    unfold d5;go_wp2
    exact⟨rfl,f.J b,rfl⟩
   |ok x=>
    rintro e w2 ⟨b,rfl,n⟩;obtain rfl:r= .ok (((0,x.1):LV),x.2):=by rw[<-g.o,d.o,hv]
    have⟨t,u,v⟩:=j.o w1 w2 ((0,x.1):LV) x.2 f c b n;have l:dZ w2 (w.heap.size+1) #[.int .u64 0,Vp,ai,Vp] 55:=(b.block _ c.lt Vx).J c;have⟨E,F⟩:=l.I;clear j;go_wp2;exact dU (ew results194 _ _ rfl t underlying55 VA) rfl ⟨u,rfl,v⟩
  .have d:Hid (gG s a k=(match jG s a k with| .error x=> .error x| .ok x=> .ok ((x.1,⟨#[]⟩),x.2))):=(by show gG s a k=_;unfold gG;rw[dQ h13,dQ h14]);have J:((k:Int)==13)=false:=Vx;have K:((k:Int)==14)=false:=Vx;have H:fo k=true:=by unfold fo;simp;omega
   have⟨T,U⟩:=G.I;go_in
   go_wp2_with fail;generalize((w.alloc (am #[aa k,pv] 216)).alloc (am #[.int .u64 0,Vp,ai,Vp] 55))=w1 at*;refine(BS w1 rb s a deep k y L A H).V ?_
   cases hv:jG s a k with
   |error x=>
    rintro e w2 ⟨b,m⟩;obtain rfl:e=d5 x.1 x.2:=m;obtain rfl:r= .error x:=by rw[<-g.o,d.o,hv]
    unfold d5;go_wp2
    exact⟨rfl,f.J b,rfl⟩
   |ok x=>
    rintro e w2 ⟨b,rfl,n⟩;obtain rfl:r= .ok (((x.1,⟨#[]⟩):LV),x.2):=by rw[<-g.o,d.o,hv]
    have⟨t,u,v⟩:=j.o w1 w2 ((x.1,⟨#[]⟩):LV) x.2 f c b n;have l:dZ w2 (w.heap.size+1) #[.int .u64 0,Vp,ai,Vp] 55:=(b.block _ c.lt Vx).J c;have⟨E,F⟩:=l.I;clear j;go_wp2;exact dU (ew results194 _ _ rfl t underlying55 VA) rfl ⟨u,rfl,v⟩
structure sD where
 n:Int
 c1:Value
 c2:Value
 c3:Value
 c4:Value
 c5:Value
 c6:Value
 c7:Value
def jg (x:sD):ay:= [aa x.n,x.c1,x.c2,x.c3,x.c4,x.c5,x.c6,x.c7]
def qB (x:sD):(jg x).length=8:=rfl
def Gd (x:sD)(n:Int)(w:aw):
  Calls prog 215 #[.agg #[aa x.n,x.c1,x.c2,x.c3,x.c4,x.c5,x.c6,x.c7],aa n] w λe w'=>e= .returned (aa (lG x.n n))/\ak w w':=by
 have a:=qS x.n n;have b:∀o,ak w (w.alloc o):=λo=>(Vs w).alloc (aE _) o
 generalize lG x.n n=c at a⊢;go_in
 go_wp2_with fail;refine(a _).V ?_;rintro e w' ⟨rfl,rfl⟩;go_wp2;go_ret;exact⟨rfl,b _⟩
def LW (w:aw)(v:Value)(l:List sD)(t:Int)(lo:Nat)(m:w.ownsRow lo 268 8 v l.length (l.flatMap jg))(h1:∀x∈l,x.c1.oneCell'=true/\x.c2.oneCell'=true/\x.c3.oneCell'=true/\x.c4.oneCell'=true/\x.c5.oneCell'=true/\x.c6.oneCell'=true/\x.c7.oneCell'=true)(S:l.Pairwise (λa b=>a.n<=b.n))(c:l.length<=2199023255000):
  Calls prog 214 #[v,aa t,.func (.func 215) #[] #[]] w λe w'=>wM (l.map (·.n)) t e/\ak w w':=by
 obtain⟨a,c,rfl⟩:=iB m;have M:Hid (∀(i j:Nat) (x y:sD),l[i]?=some x->l[j]?=some y->i<=j->x.n<=y.n):=KH S
 have A:Hid (∀(i:Nat) (x:sD),l[i]?=some x->∃g,a=some (aj g 0)/\g<w.heap.size/\∀w':aw,w'.heap[g]?=w.heap[g]?->w'.cell? (aj g (i*8))=some (aa x.n)/\w'.cell? (aj g (i*8+1))=some x.c1/\w'.cell? (aj g (i*8+2))=some x.c2/\w'.cell? (aj g (i*8+3))=some x.c3/\w'.cell? (aj g (i*8+4))=some x.c4/\w'.cell? (aj g (i*8+5))=some x.c5/\w'.cell? (aj g (i*8+6))=some x.c6/\w'.cell? (aj g (i*8+7))=some x.c7):=λi x d=>by
  have c:=gl d;obtain⟨g,rfl,_,B,o⟩:=eJ m Vv;have p:=λj X=>gd jg 8 qB l i x d j X
  refine⟨g,rfl,B,λw' r=>⟨?_,?_,?_,?_,?_,?_,?_,?_⟩⟩;.exact o w' r _ _ ((p 0 Vv).J rfl)
  .exact o w' r _ _ ((p 1 Vv).J rfl)
  .exact o w' r _ _ ((p 2 Vv).J rfl)
  .exact o w' r _ _ ((p 3 Vv).J rfl)
  .exact o w' r _ _ ((p 4 Vv).J rfl)
  .exact o w' r _ _ ((p 5 Vv).J rfl)
  .exact o w' r _ _ ((p 6 Vv).J rfl)
  .exact o w' r _ _ ((p 7 Vv).J rfl)
 clear S m;go_in
 go_wp2;go_loopw [9,10] (λK L wr=>∃(i j:Nat),i<=j/\j<=l.length/\K=aa i/\L=aa j/\Hid (∀(k:Nat) (x:sD),l[k]?=some x->k<i->x.n<t)/\Hid (∀(k:Nat) (x:sD),l[k]?=some x->j<=k->t<=x.n)/\ak w wr) (λK L _=>((intOf L)-(intOf K)).toNat)
 case atStart=>exact⟨0,l.length,aP _,aE _,rfl,rfl,(λk x _ h=>Vv),(λk x d h=>by rw[bg Vv]at d;cases d),Below.refl _ _⟩
 case round=>
  obtain⟨i,j,N,I,rfl,rfl,G,E,u⟩:=hrel;by_cases hlt:i<j
  .obtain⟨h,J⟩:=Vu ((i+j)/2);have T:h<l.length:=Vv;have U:i<=h:=Vv;have W:h<j:=Vv;have⟨x,d⟩:=gx T;obtain⟨g,rfl,B,C⟩:=A.o h x d;have⟨V,c1,c2,c3,c4,c5,c6,c7⟩:=C wr (u.block g B);have⟨m,o,p,r,s,z,H⟩:=h1 x (aL d);clear C;have⟨c,Q,f⟩:=KJ J Vv;by_cases hxt:x.n<t
   .have P:decide (lG x.n t<0)=true:=by simp[nW,hxt]
    have F:Hid (l[h]?=some x):=d;clear J d A;go_wp2_with fail;refine(Gd x t _).V ?_;rintro e w2 ⟨rfl,D⟩;go_wp2;go_roundw
    case rel=>exact⟨h+1,j,Vv,I,rfl,rfl,(λk y f n=>Int.lt_of_le_of_lt (M.o k h y x f F.o Vv) hxt),E,eT u D⟩
    case measure=>simp[intOf];omega
   .have P:decide (lG x.n t<0)=false:=decide_eq_false (λq=>hxt ((nW _ _).1 q));have F:Hid (l[h]?=some x):=d;clear J d A;go_wp2_with fail;refine(Gd x t _).V ?_;rintro e w2 ⟨rfl,D⟩;go_wp2;go_roundw
    case rel=>exact⟨i,h,U,Vv,rfl,rfl,G,(λk y f n=>Int.le_trans Vv (M.o h k x y F.o f n)),eT u D⟩
    case measure=>simp[intOf];omega
  .obtain rfl:i=j:=Vv;have Y:decide ((i:Int)<(i:Int))=false:=Vw;by_cases hil:i<l.length
   .have⟨x,d⟩:=gx hil;obtain⟨g,rfl,B,C⟩:=A.o i x d;have⟨V,c1,c2,c3,c4,c5,c6,c7⟩:=C wr (u.block g B);have⟨m,o,p,r,s,z,H⟩:=h1 x (aL d);clear C;have F:Hid (l[i]?=some x):=d;have Z:=E.o i x d (aE _);have P:(lG x.n t==0)=decide (x.n=t):=QS _ _;have O:decide ((l.map (·.n))[i]?=some t)=decide (x.n=t):=by rw[aT,d];simp
    have H:Hid (decide ((l.map (·.n))[i]?=some t)=decide (x.n=t)):=O;clear d A O hlt N;go_wp2_with fail;refine(Gd x t _).V ?_;rintro e w2 ⟨rfl,D⟩;go_wp2;go_ret2;refine⟨⟨i,by rw[H.o];rfl,by simpa using I,?_,?_⟩,eT u D⟩;.intro k y f n;rw[aT]at f;obtain⟨z,s,rfl⟩:=bi.1 f;exact G.o k z s n
    .intro k y f n;rw[aT]at f;obtain⟨z,s,rfl⟩:=bi.1 f;exact E.o k z s n
   .have R:decide ((i:Int)<(l.length:Int))=false:=Vx
    have H:Hid (decide ((l.map (·.n))[i]?=some t)=false):=by
     show decide ((l.map (·.n))[i]?=some t)=false;rw[bg (by rw[bO];omega)];simp
    clear A hlt N;go_wp2;go_ret2;refine⟨⟨i,by rw[H.o];rfl,by simpa using I,?_,?_⟩,u⟩;.intro k y f n;rw[aT]at f;obtain⟨z,s,rfl⟩:=bi.1 f;exact G.o k z s n
    .intro k y f n;rw[aT]at f;obtain⟨z,s,rfl⟩:=bi.1 f;exact E.o k z s n
abbrev F3:=Nat×Nat×Nat
def JJ (f:F3):List Value:= [.int .i64 f.1,.int .i64 f.2.1,.int .i64 f.2.2]
def ig:List Nat:= [0,1,2,3,4,5,6,7,8,9,10,13]
abbrev RD:Array Value:= #[.int .i64 0,.int .i64 1,.int .i64 2,.int .i64 3,.int .i64 4,.int .i64 5,.int .i64 6,.int .i64 7,.int .i64 8,.int .i64 9,.int .i64 10,.int .i64 13]
def Pr:RD=(ig.map λk:Nat=>Value.int .i64 (k:Int)).toArray:=rfl
def Ae (raw:List Int)(n a:Nat):F3×Nat:=
 if iY raw (a+1) 5=4 then((iY raw a (16+n),4,(ig[iY raw (a+2) 12]?).getD 0),a+3)else((iY raw a (16+n),iY raw (a+1) 5,0),a+2)
def qK (raw:List Int)(n a:Nat):Nat->List F3×Nat
 |0=>([],a)
 |j+1=>((qK raw n a j).1++ [(Ae raw n (qK raw n a j).2).1],(Ae raw n (qK raw n a j).2).2)
def oB (raw:List Int)(n:Nat):Nat->List (List F3)×Nat
 |0=>([],1)
 |i+1=>((oB raw n i).1++ [(qK raw n ((oB raw n i).2+1) (iY raw (oB raw n i).2 7+1)).1],(qK raw n ((oB raw n i).2+1) (iY raw (oB raw n i).2 7+1)).2)
def sE (raw:List Int):List (List F3):=(oB raw (1+iY raw 0 3) (1+iY raw 0 3)).1
def tS (raw:List Int)(n a:Nat):∀j,(qK raw n a j).1.length=j/\(qK raw n a j).2<=a+3*j
 |0=>⟨rfl,aE _⟩
 |j+1=>by
  have:=tS raw n a j;rw[qK];refine⟨by simp[this.1],?_⟩;show(Ae raw n (qK raw n a j).2).2<=_;unfold Ae;split<;>simp only<;>omega
def tT (raw:List Int)(n:Nat):∀i,(oB raw n i).1.length=i/\(oB raw n i).2<=1+30*i
 |0=>⟨rfl,aE _⟩
 |i+1=>by
  have:=tT raw n i;rw[oB];have a:=(tS raw n ((oB raw n i).2+1) (iY raw (oB raw n i).2 7+1)).2;have b:iY raw (oB raw n i).2 7<7:=ia _ Vy;refine⟨by simp[this.1],?_⟩;simp only;omega
def eV {w:World}{c off b:Nat}(v:Value)(h:c≠b):(w.setCell ⟨c,off,none⟩ v).heap[b]?=w.heap[b]?:=by rw[dY,dQ h]
def ee.fresh1 {bs:List Nat}{a b:World}(h:ee bs a b){c:Nat}(f:a.heap.size<=c)(off:Nat)(u:Value):ee bs a (b.setCell ⟨c,off,none⟩ u):=
 ⟨h.os,h.tape,h.output,by simpa using h.size,λi d e=>(eV _ Vv).J (h.block i d e)⟩
def ee.grown {bs:List Nat}{a b c:World}{row:Option Nat}(h:ee bs a b)(d:b.grownBy c row)(k:∀g,row=some g->a.heap.size<=g):ee bs a c:=
 ⟨d.os.J h.os,d.tape.J h.tape,d.output.J h.output,aM h.size d.size,λi f j=>(d.block i (aI f h.size) (λe=>by have:=k i e.sy;omega)).J (h.block i f j)⟩
def Be {w W:World}{a b c:Array Value}{A B C:TypeId}(h:((w.alloc (Obj.cells a A)).alloc (Obj.cells b B)).alloc (Obj.cells c C)=W):Below w.heap.size w W/\dZ W w.heap.size a A/\dZ W (w.heap.size+1) b B/\dZ W (w.heap.size+1+1) c C:=by
 subst h;have f:=dZ.new w a A;have d:=dZ.new (w.alloc (Obj.cells a A)) b B;have e:=dZ.new ((w.alloc (Obj.cells a A)).alloc (Obj.cells b B)) c C;simp only[ci]at d e;exact⟨(((Vt w _).alloc Vw _).alloc Vx _),(f.alloc _).alloc _,d.alloc _,e⟩
def NT (w:World)(Y:Nat->Prop)(vs:List Value)(L:List (List F3)):Prop:=vs.length=L.length/\∀(p:Nat) (fs:List F3) (v:Value),L[p]?=some fs->vs[p]?=some v->iz w Y v fs.length (fs.flatMap JJ)
def NT.O {w w':World}{Y:Nat->Prop}{vs:List Value}{L:List (List F3)}(h:NT w Y vs L)(d:∀b,Y b->b<w.heap.size->w'.heap[b]?=w.heap[b]?):NT w' Y vs L:=⟨h.1,λp fs v a c=>(h.2 p fs v a c).O d⟩
def NT.snoc {w w':World}{Y Y':Nat->Prop}{vs:List Value}{L:List (List F3)}(h:NT w Y vs L){v:Value}{fs:List F3}(f:iz w' Y' v fs.length (fs.flatMap JJ))(e:∀b,Y b->b<w.heap.size->w'.heap[b]?=w.heap[b]?)(g:∀b,Y b->b<w'.heap.size->b<w.heap.size->Y' b):NT w' Y' (vs++ [v]) (L++ [fs]):=by
 refine⟨by simp[h.1],λp d u a c=> ?_⟩;by_cases hp:p<L.length;.rw[cy hp]at a;rw[cy (by rw[h.1];exact hp)]at c;have q:=h.2 p d u a c;exact(q.V (Y:=λb=>Y b/\b<w.heap.size) λb y l=>⟨y,l⟩).O (λb y l=>e b y.1 l)|>.V λb y l=>g b y.1 l y.2
 .rw[cj Vv]at a;rw[cj (by rw[h.1];omega),h.1]at c
  cases hq:p-L.length with
  |zero=>rw[hq]at a c;cases a;cases c;exact f
  |succ k=>rw[hq]at a;cases a
def Tryz.infoK1:(prog.info? 137).map (λi=>(i.zero,i.size,i.bytes))=some (some (.agg #[.int .i64 0,.int .i64 0,.int .i64 0]),3,24):=VA
def Tryz.infoK2:(prog.info? 135).map (λi=>(i.zero,i.size,i.bytes))=some (some (.slice none 0 0),1,24):=VA
def Ps (w:World)(rv:Value)(raw:List Int)(g:∀x∈raw,JH x)(d:raw.length<=9223372036854775807)(F:iz w (λb=>b<w.heap.size) rv raw.length (raw.map λx=> .int .i64 x)):
  Calls prog 28 #[rv] w λe w'=>∃v Y vs,e= .returned (.agg #[v])/\iz w' Y v (sE raw).length vs/\NT w' Y vs (sE raw)/\(∀b,Y b->w.heap.size<=b)/\Below w.heap.size w w':=by
 obtain⟨a,c,rfl⟩:=F.form;obtain⟨f,i⟩:∃f,Hid (sE raw=f):=⟨_,rfl⟩;rw[i.o];have⟨i1,Ww,Wx,Wy,Wz⟩:=info_parts Tryz.infoK1;have⟨i2,WA,WB,WC,WD⟩:=info_parts Tryz.infoK2;go_in
 go_wp2_with fail;generalize hW:World.alloc _ _=w3;have⟨a,M,c,O⟩:=Be hW;have h:Gv w3 (λb=>b<w.heap.size) (w.heap.size+1) raw 0:=⟨g,d,⟨_,c,F.O λb q _=>a.block b q⟩,Vv⟩;clear F c hW;refine(mJ w3 _ _ raw 0 3 h Vy Vy).V ?_;rintro e c ⟨rfl,j,d⟩;have g:Below w.heap.size w c:=a.J (d.to_below a.size λx D=>by simp at D;omega);have k:=M.kept d Vw;have l:=O.kept d Vw;obtain⟨n,c⟩:∃n,Hid ((1:Int)+(iY raw 0 3:Nat)=(n:Nat)/\1+iY raw 0 3=n):=⟨_,Vv,rfl⟩;have m:1<=n/\n<4:=by have:=c.o.2;have:=ia ((raw[0]?).getD 0) (show 0<3 by decide);unfold iY at*;omega
 have m:(iY raw 0 3:Int)<3:=by have:=c.o.2;omega
 have HD:Hid (f=(oB raw n n).1):=by rw[<-i.o];unfold sE;rw[c.o.2];exact rfl
 clear h a M O d;go_wp2_with fail;rw[c.o.1];clear m;go_loopw [6] (λc wr=>∃(i:Nat) (a:Value) (vs:List Value),i<=n/\c= .int .i64 i/\dZ wr (w.heap.size+1+1) #[a] 68/\dZ wr w.heap.size #[.slice none 0 0] 68/\eP wr (λb=>w.heap.size+1+1<b) 135 1 a i vs/\NT wr (λb=>w.heap.size+1+1<b/\some b≠a.ownBlock) vs (oB raw n i).1/\Gv wr (λb=>b<w.heap.size) (w.heap.size+1) raw (oB raw n i).2/\Below w.heap.size w wr) (λc _=>n-(intOf c).toNat)
 case atStart=>exact⟨0,_,[],aP _,rfl,l,k,eP.nil _ _ _ _,⟨rfl,λp fs v h=>by cases h⟩,j,g⟩
 obtain⟨i,a,vs,c,rfl,O,M,F,VU,B,hB⟩:=hrel;clear l k j g;obtain⟨S,T,rfl⟩:=iB F.1;have⟨s1,s2⟩:=O.I;by_cases hli:i<n
 .have Wn:(i:Int)<(n:Int):=Vv;have c:=tT raw n i;obtain⟨a,HA⟩:∃a,Hid ((oB raw n i).2=a):=⟨_,rfl⟩;rw[HA.o]at B c;have k:=mJ wr _ _ raw a 7 B Vy Vv;obtain⟨f,HK⟩:∃f,Hid (iY raw a 7=f):=⟨_,rfl⟩;have c:f<7:=by rw[<-HK.o];exact ia _ Vy
  rw[HK.o]at k;go_wp2_with fail;refine k.V ?_;rintro e A ⟨rfl,G5,R⟩;clear k s1 s2 B;have B5:Below w.heap.size w A:=hB.J (R.to_below hB.size λx D=>by simp at D;omega);have o:=O.kept R Vw;have R5:=M.kept R Vw;have H:=F.O (w':=A) λb q l=>R.block b l Vx
  have Wd:=VU.O (w':=A) λb q l=>R.block b l Vx
  clear O M F VU R hB;go_wp2;go_loopw [7,8] (λlv c L=>∃j:Nat,j<=f+1/\c= .int .i64 ((f:Int)-j)/\eP L (λb=>A.heap.size<=b) 137 3 lv j ((qK raw n (a+1) j).1.flatMap JJ)/\Gv L (λb=>b<w.heap.size) (w.heap.size+1) raw (qK raw n (a+1) j).2/\ee [w.heap.size+1] A L) (λ_ c _=>(intOf c+1).toNat)
  case atStart=>exact⟨0,aP _,Vw,eP.nil _ _ _ _,G5,ee.refl _ _⟩
  obtain⟨j,c,rfl,Q,B,I⟩:=hrel;have d:=I.size;obtain⟨r,s,rfl⟩:=iB Q.1;have VW:=tS raw n (a+1) j;obtain⟨c,VV⟩:∃c,Hid ((qK raw n (a+1) j).2=c):=⟨_,rfl⟩;obtain⟨O,HX⟩:∃O,Hid ((qK raw n (a+1) j).1=O):=⟨_,rfl⟩;rw[VV.o]at B VW;rw[HX.o]at Q VW;by_cases hjl:j<f+1
  .have Wp:(0:Int)<=(f:Int)-j:=Vv;have k:=mJ wr _ _ raw c (16+n) B Vv Vv;rw[show((16+n:Nat):Int)=16+n by omega]at k;obtain⟨t,C⟩:∃t,Hid (iY raw c (16+n)=t):=⟨_,rfl⟩;rw[C.o]at k;go_wp2_with fail;refine k.V ?_;rintro e w6 ⟨rfl,y,g⟩;have k:=mJ w6 _ _ raw (c+1) 5 y Vv Vv;obtain⟨q,u⟩:∃q,Hid (iY raw (c+1) 5=q):=⟨_,rfl⟩;rw[u.o]at k;go_wp2_with fail;refine k.V ?_;rintro e J ⟨rfl,R,m⟩;have a:=I.J (g.J m);have z:=a.size;have z:=(Q.O (w':=J) λb q l=>(g.J m).block b l (by simp;have:=o.lt;omega)).V (S':=λb=>A.heap.size<=b/\b<J.heap.size) λb q l=>⟨q,l⟩
   clear k B y g m I Q d;have⟨U,N⟩:=ec J #[.int .i64 t,.int .i64 q,.int .i64 0] 137;have E:=R.O (w':=J.alloc (Obj.cells #[.int .i64 t,.int .i64 q,.int .i64 0] 137)) (U.block _ (by have:=o.lt;omega)) λb q l=>U.block b l
   have Z:=z.O (w':=J.alloc (Obj.cells #[.int .i64 t,.int .i64 q,.int .i64 0] 137)) λb q l=>U.block b l
   have VZ:=a.G U;clear R z a;have⟨a,K⟩:=N.I;go_upto_if 36 with fail
   clear a K;generalize J.alloc (Obj.cells #[.int .i64 t,.int .i64 q,.int .i64 0] 137)=w8 at*;go_cut []from 37 to 42 (λL=>∃(ky d:Nat),Hid (Ae raw n c=((t,q,ky),d))/\dZ L J.heap.size #[.int .i64 t,.int .i64 q,.int .i64 ky] 137/\Gv L (λb=>b<w.heap.size) (w.heap.size+1) raw d/\eP L (λb=>A.heap.size<=b/\b<J.heap.size) 137 3 (.slice r j s) j (O.flatMap JJ)/\ee [w.heap.size+1] A L)
   case first=>
    by_cases h4:q=4
    .subst h4;have⟨V,J⟩:=ec w8 RD 3;have g:=E.O (w':=w8.alloc (Obj.cells RD 3)) (V.block _ (by have:=o.lt;have:=N.lt;omega)) λb q l=>V.block b l
     have k:=mJ _ _ _ raw (c+1+1) 12 g Vy Vv;obtain⟨z,G⟩:∃z,Hid (iY raw (c+1+1) 12=z):=⟨_,rfl⟩;have y:z<12:=by rw[<-G.o];exact ia _ Vy
     rw[G.o]at k;have Wf:∀z:Fin 12,ig[z.val]?=some ((ig[z.val]?).getD 0):=Vy;have m:=Wf ⟨z,y⟩;obtain⟨ky,X⟩:∃ky,Hid ((ig[z]?).getD 0=ky):=⟨_,rfl⟩;simp only at m;rw[X.o]at m;go_wp2_with fail;refine k.V ?_;rintro e w9 ⟨rfl,L,P⟩;have y:=J.kept P (by simp;have:=o.lt;have:=N.lt;omega);have Wh:=(N.G V N.lt).kept P (by simp;have:=o.lt;omega);have W:=y.cell z;rw[Pr,cG,aT,m]at W;have W:w9.cell? ⟨w8.heap.size,z,none⟩=some (.int .i64 ky):=W;have⟨a,K⟩:=Wh.I;clear k Wf m;go_wp2;go_meet
     case rel=>exact⟨ky,_,by show Ae raw n c=_;unfold Ae;rw[u.o,dR rfl,C.o,G.o,X.o],by have:=Wh.set 2 (.int .i64 ky);simpa using this,L.O (eV _ (by have:=o.lt;omega)) (λb q l=>eV _ (by have:=o.lt;omega)),((Z.O λb q l=>V.block b l).O λb q l=>P.block b l (by simp;have:=o.lt;omega)).O λb q l=>eV _ Vv,((VZ.G V).J P).fresh1 Vv _ _⟩
    .have k:((q:Int)==4)=false:=Vx;go_wp2;go_meet
     case rel=>exact⟨0,_,by show Ae raw n c=_;unfold Ae;rw[u.o,dQ h4,C.o],N,E,Z,VZ⟩
   case rest=>
    obtain⟨ky,d,G,J,g,k,c⟩:=hcut;have d:=c.size;have⟨X,y⟩:=ec wc #[.int .i64 t,.int .i64 q,.int .i64 ky] 137;have W:=k.O (w':=wc.alloc (Obj.cells #[.int .i64 t,.int .i64 q,.int .i64 ky] 137)) λb q l=>X.block b l
    have P:=c.G X;have L:=g.O (w':=wc.alloc (Obj.cells #[.int .i64 t,.int .i64 q,.int .i64 ky] 137)) (X.block _ (by have:=o.lt;omega)) λb q l=>X.block b l
    have m:∀j u,(JJ (t,q,ky))[j]?=some u->(wc.alloc (Obj.cells #[.int .i64 t,.int .i64 q,.int .i64 ky] 137)).cell? ((⟨wc.heap.size,0,none⟩:Addr).add j)=some u:=λj u C=>bz y j u (by simpa [JJ]using C)
    have⟨a,K⟩:=J.I;clear g k c U N E Z VZ y X;go_wp2_with (at_builtin;refine wpList_append_lies _ rfl _ _ 135 rfl 0 137 i1 _ 3 24 underlying135 Ww Wx Wy Wz rfl Vv (.slice r j s) j (O.flatMap JJ) rfl W.1 ⟨wc.heap.size,0,none⟩ 1 1 (JJ (t,q,ky)) rfl rfl m (by intro u C;simp[JJ]at C;rcases C with rfl|rfl|rfl<;>rfl) Vv VC Vv Vv _ rfl ?_;intro g y k d E Z U)
    have J:=o.lt;have z:(wc.alloc (Obj.cells #[.int .i64 t,.int .i64 q,.int .i64 ky] 137)).heap.size=wc.heap.size+1:=Vw;refine⟨⟨j+1,Vv,Vx,⟨?_,?_⟩,?_,?_⟩,by simp[intOf];omega⟩;.rw[qK,HX.o,VV.o,G.o];simpa using d
    .intro b m;have m:some g=some b:=m;obtain rfl:=Option.some.inj m;rcases Z with h|h;.exact(W.2 _ h).1
     .omega
    .rw[qK,HX.o,VV.o,G.o];exact L.O (E.block _ Vv (λe=>by have:=W.2 _ e.sy;omega)) λb q l=>E.block b l (λe=>by have:=W.2 _ e.sy;omega)
    .exact P.grown E λg c=>(W.2 g c).1
  .obtain rfl:j=f+1:=Vv;have Wp:¬(0:Int)<=(f:Int)-((f+1:Nat):Int):=Vv;have J:=o.lt;have c:=o.kept I Vw;have J:=R5.kept I Vw;have L:=H.O (w':=wr) λb q l=>I.block b l Vx
   have P:=Wd.O (w':=wr) λb q l=>I.block b l Vx
   have t:Below w.heap.size w wr:=B5.J (I.to_below B5.size λx D=>by simp at D;omega);have⟨D,G⟩:=ec wr #[.slice r (f+1) s] 135;have N:=L.O (w':=wr.alloc (Obj.cells #[.slice r (f+1) s] 135)) λb q l=>D.block b l
   have L:=P.O (w':=wr.alloc (Obj.cells #[.slice r (f+1) s] 135)) λb q l=>D.block b l
   have R:=B.O (w':=wr.alloc (Obj.cells #[.slice r (f+1) s] 135)) (D.block _ Vv) λb q l=>D.block b l
   have V:=(Q.V (S':=λb=>A.heap.size<=b/\b<wr.heap.size) λb q l=>⟨q,l⟩).O (w':=wr.alloc (Obj.cells #[.slice r (f+1) s] 135)) λb q l=>D.block b l
   have P:∀j u,[Value.slice r (f+1) s][j]?=some u->(wr.alloc (Obj.cells #[.slice r (f+1) s] 135)).cell? ((⟨wr.heap.size,0,none⟩:Addr).add j)=some u:=λj u C=>bz G j u (by simpa using C)
   have G:∀b,(Value.slice S i T).ownBlock=some b->b<A.heap.size/\w.heap.size+1+1<b:=λb m=>⟨(H.1.lt b m).2,H.2 b m⟩
   have I:some (w.heap.size+1+1)≠(Value.slice S i T).ownBlock:=λe=>by have:=G _ e.sy;omega
   have A:=c.G D c.lt;have⟨a,K⟩:=c.I;clear B Q o R5 H Wd G5;go_wp2_with (at_builtin;refine wpList_append_lies _ rfl _ _ 66 rfl 0 135 i2 _ 1 24 underlying66 WA WB WC WD rfl Vv (.slice S i T) i vs rfl N.1 ⟨wr.heap.size,0,none⟩ 1 1 [.slice r (f+1) s] rfl rfl P (by intro u C;simp at C;subst C;rfl) Vv VC Vv Vv _ rfl ?_;intro g y k d E Z U;have⟨c,o⟩:=(A.grown E I).I)
   have z:(wr.alloc (Obj.cells #[.slice r (f+1) s] 135)).heap.size=wr.heap.size+1:=Vw
   have u:w.heap.size+1+1<g:=by
    rcases Z with h|h;.exact(G _ h).2
    .omega
   have H:∀b,b<wr.heap.size+1->b≠w.heap.size+1+1->(Value.slice S i T).ownBlock≠some b->(k.setCell ⟨w.heap.size+1+1,0,none⟩ (.slice (some ⟨g,0,none⟩) (i+1) y)).heap[b]?=(wr.alloc (Obj.cells #[.slice r (f+1) s] 135)).heap[b]?:=λb c o z=>(eV _ Vv).J (E.block b Vv (λe=>z e.sy))
   refine⟨⟨i+1,.slice (some ⟨g,0,none⟩) (i+1) y,_,Vv,by go_num,?_,?_,⟨eD d (λb m=>eV _ ?_),?_⟩,?_,?_,?_⟩,by simp[intOf];omega⟩;.have:=(A.grown E I).set 0 (.slice (some ⟨g,0,none⟩) (i+1) y);simpa using this
   .exact(H _ Vv Vv (λe=>by have:=G _ e;omega)).J (J.G D J.lt)
   .have m:some g=some b:=m;obtain rfl:=Option.some.inj m;omega
   .intro b m;have m:some g=some b:=m;obtain rfl:=Option.some.inj m;exact u
   .rw[oB,HA.o,HK.o,HX.o];refine L.snoc ?_ (λb q l=>H b Vv Vv (λe=>q.2 e.sy)) (λb q l d=>⟨q.1,λe=> ?_⟩)
    .rw[show O.length=f+1 from VW.1];refine(V.O (w':=k.setCell ⟨w.heap.size+1+1,0,none⟩ (.slice (some ⟨g,0,none⟩) (i+1) y)) λb q l=>H b Vv Vv (λe=>by have:=G _ e;omega)).rd.V λb q l=>⟨Vv,λe=> ?_⟩
     have e:some b=some g:=e;obtain rfl:=Option.some.inj e;rcases Z with h|h;.have:=G _ h;omega
     .omega
    .have e:some b=some g:=e;obtain rfl:=Option.some.inj e;rcases Z with h|h;.exact q.2 h.sy
     .omega
   .rw[oB,HA.o,HK.o,VV.o];exact R.O (H _ Vv Vv (λe=>by have:=G _ e;omega)) λb q l=>H b Vv Vv (λe=>by have:=G _ e;omega)
   .exact(((t.J (D.V t.size)).grown E Vv (λj d=>by have:=G _ d;omega))).setCell (p:=⟨w.heap.size+1+1,0,none⟩) (by show _<=w.heap.size+1+1;omega) _
 .obtain rfl:i=n:=Vv;have Wn:¬(i:Int)<(i:Int):=Vv;have⟨a,K⟩:=M.I;go_wp2;have K:=M.set 0 (.slice S i T);have H:∀b,b≠w.heap.size->(wr.setCell ⟨w.heap.size,0,none⟩ (.slice S i T)).heap[b]?=wr.heap[b]?:=λb h=>eV _ Vv
  refine dU (ew results28 _ _ rfl K underlying68 VA) rfl ⟨_,rfl,λb=>w.heap.size<b,vs,?_,?_,λb q=>cA q,hB.setCell (p:=⟨w.heap.size,0,none⟩) (aE _) _⟩;.rw[HD.o,(tT raw i i).1];exact(F.rd.O λb q l=>H b Vv).V λb q l=>Vv
  .rw[HD.o];exact⟨VU.1,λp fs v c o=>((VU.2 p fs v c o).O λb q l=>H b Vv).V λb q l=>Vv⟩
end
end Go.Proofs.YtfebdimolnobaaaGreatDoor
