import Derived.Test.YtfebdimolnobaaaGreatDoorRrD
import Derived.Test.YtfebdimolnobaaaGreatDoorTreeTy
import Derived.Test.YtfebdimolnobaaaGreatDoorDfF
set_option maxRecDepth 100000
set_option maxHeartbeats 8000000
set_option linter.all false
namespace Go.Proofs.YtfebdimolnobaaaGreatDoor
open Go.RowKit Go.Proofs.Tryz
section
variable {b:au} {e a:Nat}
theorem gB (h:e<=b.size):(b.extract 0 e).size=e:=by(simp;omega)
theorem MV {k:Nat}(h:e<=b.size)(a:k<e):fR (b.extract 0 e) k=fR b k:=by
 unfold fR;rw[dif_pos (by(simp;omega)),dif_pos Te];congr 2;rw[ByteArray.getElem_extract];simp
theorem FP (h:e<=b.size):∀f i n,wL (b.extract 0 e) a e f i n=wL b a e f i n
 |0,i,n=>rfl
 |f+1,i,n=>by
  unfold wL;by_cases hl:a+i<e;.rw[dH hl,dH hl,MV h hl,FP h f]
  grind
theorem vP (h:e<=b.size):j8 (b.extract 0 e) a (b.extract 0 e).size=j8 b a e:=by
 rw[gB h];exact FP h 10 0 0
theorem kz {z k:Nat}(h:e<=b.size)(d:k<=e):(b.extract 0 e).extract z k=b.extract z k:=by
 apply ByteArray.ext;simp only[cT];apply Array.ext;.simp;omega
 .intro i a c;simp
theorem sN {k:Nat}(h:e<=b.size):je (b.extract 0 e) a k=if a+k<=e then .ok (vi (b.extract a (a+k)),a+k)else .error (6,(a:Int)):=by
 unfold je;rw[gB h];by_cases hl:a+k<=e;.rw[dH hl,dH hl,kz h hl]
 grind
theorem CD (h:e<=b.size):eU (b.extract 0 e) a=(match j8 b a e with| .error x=> .error x| .ok x=>if(x.2:Int)+x.1<=e then .ok (x.2,x.2+x.1.toNat)else .error (6,x.2)):=by
 unfold eU;rw[vP h,gB h]
 try rfl
theorem Jm (h:e<=b.size):lr (b.extract 0 e) a=(match j8 b a e with
  | .error x=> .error x
  | .ok x=>if x.1/8<1\/536870911<x.1/8 then .error (8,a)else if x.1%8=0\/x.1%8=1\/x.1%8=2\/x.1%8=5 then .ok ((x.1/8,x.1%8),x.2)else .error (9,a)):=by
 unfold lr;rw[vP h]
 try rfl
def MW (s:au)(a:Nat):Fx pO:=
 match lr s a with
 | .error x=> .error x
 | .ok x=>
  if x.1.2=0 then(match j8 s x.2 s.size with| .error y=> .error y| .ok y=> .ok ⟨x.1.1,0,a,x.2,y.2,y.1⟩)
  else if x.1.2=1 then(match je s x.2 8 with| .error y=> .error y| .ok y=> .ok ⟨x.1.1,1,a,x.2,y.2,y.1⟩)
  else if x.1.2=5 then(match je s x.2 4 with| .error y=> .error y| .ok y=> .ok ⟨x.1.1,5,a,x.2,y.2,y.1⟩)
  else(match eU s x.2 with| .error y=> .error y| .ok y=> .ok ⟨x.1.1,2,a,y.1,y.2,0⟩)
theorem FQ (h:e<=b.size):MW (b.extract 0 e) a=jj b a e:=by
 unfold MW jj;rw[Jm h]
 cases hv:j8 b a e with
 |error x=>rfl
 |ok x=>
  obtain⟨t,fr⟩:=x;simp only;by_cases h1:t/8<1\/536870911<t/8;.rw[dH h1,dH h1]
  .rw[dG h1,dG h1];by_cases k0:t%8=0;.rw[dH (.inl k0),dH k0];simp only;rw[dH k0,vP h];cases j8 b fr e<;>rfl
   .by_cases k1:t%8=1;.rw[dH (.inr (.inl k1)),dG k0,dH k1];simp only;rw[dG k0,dH k1,sN h];grind
    .by_cases k5:t%8=5;.rw[dH (.inr (.inr (.inr k5))),dG k0,dG k1,dH k5];simp only;rw[dG k0,dG k1,dH k5,sN h];grind
     .by_cases k2:t%8=2;.rw[dH (.inr (.inr (.inl k2))),dG k0,dG k1,dG k5,dH k2];simp only;rw[dG k0,dG k1,dG k5,CD h];grind
      simp_all
end
section
open Tq
section
variable (w:World) {α:Type} {j g c i:Nat} {ns:List Int} {l:List gw} {x:gw} {wr w2:World} {row:Option Nat}
def JI (l:List gw)(ns:List Int)(e:Ending):Prop:=
 (e= .returned (.int .i64 (-1))/\∀x∈l,x.1∉ns)\/∃i:Nat,e= .returned (.int .i64 i)/\i<l.length/\(∀k x,l[k]?=some x->k<i->x.1∉ns)/\∀x,l[i]?=some x->x.1∈ns
theorem JJ (v:Value)(l:List gw)(nb:Nat)(nv:Value)(ns:List Int)(d:w.ownsRow 0 249 4 v l.length (l.flatMap d8))(h1:∀x∈l,x.2.1.oneCell'=true/\x.2.2.1.oneCell'=true/\x.2.2.2.oneCell'=true)(P:l.length<=1073741824)
  (F:dP w nb #[nv] 35) (p:w.ownsRow 0 3 1 nv ns.length (gA ns)) (z:ns.length<=1073741824):
  Calls prog 344 #[v,xz nb] w λe w'=>JI l ns e/\Below w.heap.size w w':=by
 obtain⟨a,c,rfl⟩:=ig d;have o:Hid (∀(i:Nat) (x:gw),l[i]?=some x->∃g,a=some ⟨g,0,none⟩/\g<w.heap.size/\∀w':World,w'.heap[g]?=w.heap[g]?->w'.cell? ⟨g,i*4,none⟩=some (.int .i64 x.1)/\w'.cell? ⟨g,i*4+1,none⟩=some x.2.1/\w'.cell? ⟨g,i*4+2,none⟩=some x.2.2.1/\w'.cell? ⟨g,i*4+3,none⟩=some x.2.2.2):=λi x f=>rS d f
 have B:Hid (∀(wr:World) (x:gw),Below w.heap.size w wr->S9 264 #[.agg #[.int .i64 x.1,x.2.1,x.2.2.1,x.2.2.2],.pointer (some ⟨nb,0,none⟩)] wr λe w'=>e= .returned (.bool (decide (x.1∈ns)))/\Below wr.heap.size wr w'):=λwr x E=>JH wr nb nv ns x ((E.block nb F.lt).J F) (dR p λb e=>E.block b (p.lt b e).2) z
 clear d;unfold xz;go_in
 go_wp2;go_loopw [8] (λA wr=>∃(i:Nat),i<=l.length/\A= .int .i64 i/\Hid (∀(k:Nat) (x:gw),l[k]?=some x->k<i->x.1∉ns)/\Below w.heap.size w wr) (λA _=>((l.length:Int)-(intOf A)).toNat)
 case atStart=>exact⟨0,aM _,rfl,(λk x _ h=>Te),Below.refl _ _⟩
 case round=>
  obtain⟨i,I,rfl,r,m⟩:=hrel;by_cases hlt:i<l.length
  .have⟨x,f⟩:=gx hlt;obtain⟨g,rfl,H,D⟩:=o.o i x f;have⟨K,L,M,N⟩:=D wr (m.block g H);have⟨O,Q,R⟩:=h1 x (aO f);clear D;have C:Hid (l[i]?=some x):=f;have q:=B.o wr x m;have J:IntKind.i64.wrap ((i:Int)+1)=(i:Int)+1:=by rw[IntKind.wrap_i64];omega
   by_cases hxt:x.1∈ns;.have n:decide (x.1∈ns)=true:=decide_eq_true hxt;rw[n]at q;have s:Hid (x.1∈ns):=hxt;clear f o hxt n;go_wp2_with fail;refine q.V ?_;rintro e w2 ⟨rfl,t⟩;go_wp2;go_ret;exact⟨.inr ⟨i,rfl,hlt,r.o,λy j=>by rw[C.o]at j;rw[<-Option.some.inj j];exact s.o⟩,eD m t⟩
   .have n:decide (x.1∈ns)=false:=decide_eq_false hxt;rw[n]at q;have s:Hid (x.1∉ns):=hxt;clear f o hxt n;go_wp2_with fail;refine q.V ?_;rintro e w2 ⟨rfl,t⟩;go_wp2;go_roundw
    case rel=>exact⟨i+1,Te,rfl,(λk y j u=>by
     by_cases e:k=i;.subst e;rw[C.o]at j;rw[<-Option.some.inj j];exact s.o
     .exact r.o k y j Te),eD m t⟩
    case measure=>simp[intOf];omega
  .obtain rfl:i=l.length:=Te;clear o B;go_wp2;go_ret;refine⟨.inl ⟨rfl,λx f=> ?_⟩,m⟩;have⟨k,u⟩:=bY.1 f;have G:=gl u;exact r.o k x u G
theorem RD (A R:List Value)(m0 m1 m2 m3 a b c d:Value)(k:Nat)(e:A.length=k):((((A++m0::m1::m2::m3::R).set k a).set (k+1) b).set (k+2) c).set (k+3) d=A++a::b::c::d::R:=by
 subst e;simp
def mG (n:Nat):List Value:=(Builtin.zeroCells #[.int .i64 0,.slice none 0 0,.slice none 0 0,.map none] n).toList
theorem vt (ty:TypeId)(g o n c:Nat)(Tr:Array Value)(k:0<n)(h:w.heap[g]?=some (.cells Tr 249 (0,0)))(b:o+n*4<=Tr.size):
  (Builtin.clear_ #[181] ty #[.slice (some ⟨g,o,none⟩) n c]).run prog w= .ok (.tuple #[]) (w.setRow g (Tr.toList.take o++mG n++Tr.toList.drop (o+n*4)).toArray):=by
 have e:(mG n).length=n*4:=by simp[mG,Builtin.zeroCells]
 have f:∀v∈mG n,v.oneCell'=true:=by
  intro v d;simp[mG,Builtin.zeroCells]at d;obtain⟨i,_,rfl⟩:=d;have:i%4<4:=Nat.mod_lt _ Te;generalize i%4=q at this
  match q,this with
  |0,_=>rfl
  |1,_=>rfl
  |2,_=>rfl
  |3,_=>rfl
 have a:=run_storeCells_at prog g o 249 (mG n) 0 Tr w h Te f;rw[e]at a;have j:prog.underlying 181=some (.slice 249):=underlying181;obtain⟨m,rfl⟩:∃m,n=m+1:=⟨n-1,Te⟩;unfold mG at a;simp[Builtin.clear_,run_underlying j,zeroValue249,Value.cells,a,mG]
def xA (ns:List Int)(x:gw):Bool:=decide (x.1∉ns)
def jE (ns:List Int)(l:List gw):List gw:=l.filter (xA ns)
theorem zT {l:List α}{x:α}(h:l[j]?=some x):l.take (j+1)=l.take j++ [x]:=by
 rw[bu,h];rfl
theorem vY {l:List α}{x:α}(h:l[j]?=some x):l.drop j=x::l.drop (j+1):=by
 obtain⟨a,rfl⟩:=bt.1 h;exact(aS a)
theorem lG (h:l[j]?=some x)(a:x.1∈ns):jE ns (l.take (j+1))=jE ns (l.take j):=by
 unfold jE;rw[zT h,cV];simp[xA,a]
theorem ou (h:l[j]?=some x)(a:x.1∉ns):jE ns (l.take (j+1))=jE ns (l.take j)++ [x]:=by
 unfold jE;rw[zT h,cV];simp[xA,a]
theorem zU (h:∀x∈l,x.1∉ns):jE ns l=l:=dx.2 (λx a=>by simp[xA,h x a])
theorem JK:(jE ns l).length<=l.length:=bZ _ _
theorem ow (l:List gw):(l.flatMap d8).length=l.length*4:=by
 induction l with
 |nil=>rfl
 |cons x l ih=>rw[aW,bf,ih,gp,bF];omega
def Pe (w:World)(v:Value)(l:List gw)(ns:List Int)(e:Ending)(w':World):Prop:=
 ∃v',e= .returned v'/\v'.ownBlock=v.ownBlock/\w'.ownsRow 0 249 4 v' (jE ns l).length ((jE ns l).flatMap d8)/\w.grownBy w' v.ownBlock
def mH (w:World)(g c:Nat)(l:List gw)(ns:List Int)(i j:Nat)(wr:World):Prop:=
 i=(jE ns (l.take j)).length/\i<j/\∃M,M.length=(j-i)*4/\wr.ownsRow 0 249 4 (.slice (some ⟨g,0,none⟩) l.length c) l.length ((jE ns (l.take j)).flatMap d8++M++(l.drop j).flatMap d8)/\w.grownBy wr (some g)
theorem mH.cells {w:World}(h:mH w g c l ns i j wr)(d:l[j]?=some x):
  wr.cell? ⟨g,j*4,none⟩=some (.int .i64 x.1)/\wr.cell? ⟨g,j*4+1,none⟩=some x.2.1/\wr.cell? ⟨g,j*4+2,none⟩=some x.2.2.1/\wr.cell? ⟨g,j*4+3,none⟩=some x.2.2.2/\g<wr.heap.size:=by
 obtain⟨k,v,M,m,n,y⟩:=h;have s:=gl d;have⟨t,p,_,f,b⟩:=dV n Te;cases p;have o:((jE ns (l.take j)).flatMap d8++M).length=j*4:=by rw[bf,ow,<-k,m];omega
 rw[vY d]at b
 have a:∀q u,(d8 x)[q]?=some u->wr.cell? ⟨g,j*4+q,none⟩=some u:=λq u r=>by
  refine b wr rfl _ u ?_;have e:q<(d8 x).length:=(by grind);rw[cM Te,o,Nat.add_sub_cancel_left,aW,bW e];exact r
 exact⟨a 0 _ rfl,a 1 _ rfl,a 2 _ rfl,a 3 _ rfl,f⟩
theorem lg {w w':World}(h:w.grownBy w' row)(o:Obj):w.grownBy (w'.alloc o) row:=
 ⟨h.os,h.tape,h.output,aL h.size Tf,λk a b=>(Below.l w' o k (aI a h.size)).J (h.block k a b)⟩
theorem rz {w w':World}(h:w.grownBy w' row)(a:Below w'.heap.size w' w2):w.grownBy w2 row:=
 ⟨a.os.J h.os,a.tape.J h.tape,a.output.J h.output,aL h.size a.size,λk b c=>(a.block k (aI b h.size)).J (h.block k b c)⟩
theorem jR {w w':World}(h:w.grownBy w' (some g))(o:Nat)(v:Value):w.grownBy (w'.setCell ⟨g,o,none⟩ v) (some g):=
 ⟨h.os,h.tape,h.output,by simpa using h.size,λk b a=>by
  rw[dM,dG (λe=>a (by rw[e]))]
  exact h.block k b a⟩
theorem mH.room {w:World}(h:mH w g c l ns i j wr)(t:j<=l.length)(k:Below wr.heap.size wr w2):
  ∃u0 u1 u2 u3,w2.cell? ⟨g,i*4,none⟩=some u0/\w2.cell? ⟨g,i*4+1,none⟩=some u1/\w2.cell? ⟨g,i*4+2,none⟩=some u2/\w2.cell? ⟨g,i*4+3,none⟩=some u3/\∀o,w2.frozen? ⟨g,o,none⟩=false:=by
 obtain⟨n,p,M,r,f,s⟩:=h;rcases f.2 with⟨q,_⟩|⟨m,e,d,q,u,a,v,x,y,z⟩;.cases q
 .cases q;have b:dP w2 g d 249:=(k.block g (dP.lt a)).J a;have⟨A,B⟩:=b.I;grind
theorem mH.gone {w:World}(h:mH w g c l ns i j wr)(a:l[j]?=some x)(f:x.1∈ns)(e:Below wr.heap.size wr w2):mH w g c l ns i (j+1) w2:=by
 obtain⟨m,p,M,n,d,o⟩:=h;refine⟨by rw[lG a f];exact m,Te,M++d8 x,by rw[bf,n,gp];omega,?_,rz o e⟩;rw[lG a f];rw[vY a,aW]at d;refine dR ?_ (λb k=>e.block b (d.lt b k).2);grind
theorem mH.stays {w:World}(h:mH w g c l ns i j wr)(a:l[j]?=some x)(r:x.1∉ns)(q:Below wr.heap.size wr w2):
  mH w g c l ns (i+1) (j+1) ((((w2.setCell ⟨g,i*4,none⟩ (.int .i64 x.1)).setCell ⟨g,i*4+1,none⟩ x.2.1).setCell ⟨g,i*4+2,none⟩ x.2.2.1).setCell ⟨g,i*4+3,none⟩ x.2.2.2):=by
 obtain⟨u,C,M,v,n,y⟩:=h;have B:=gl a;have m:=dR n (λb s=>q.block b (n.lt b s).2);rw[vY a,aW]at m
 obtain⟨d,e,f,k,R,z⟩:∃d e f k R,M++d8 x=d::e::f::k::R:=by
  have:4<=M.length:=Te
  match M,this with
  |d::e::f::k::R,_=>grind
 have A:R.length=(j-i)*4:=(by have:=dK List.length z;simp[v,gp]at this;omega)
 rw[show((jE ns (l.take j)).flatMap d8++M++(d8 x++(l.drop (j+1)).flatMap d8))=(jE ns (l.take j)).flatMap d8++d::e::f::k::(R++(l.drop (j+1)).flatMap d8)from by
  grind]at m
 have t:((jE ns (l.take j)).flatMap d8).length=i*4:=by rw[ow,<-u]
 have p:=lu (lu (lu (lu m (o:=i*4) (.int .i64 x.1) Te) (o:=i*4+1) x.2.1 Te) (o:=i*4+2) x.2.2.1 Te) (o:=i*4+3) x.2.2.2 Te;rw[RD _ _ _ _ _ _ _ _ _ _ _ t]at p;refine⟨by rw[ou a r,bf];grind,Te,R,Te,?_,jR (jR (jR (jR (rz y q) _ _) _ _) _ _) _ _⟩;rw[ou a r,cZ];simpa [d8]using p
theorem mH.stays4 {w:World}(h:mH w g c l ns i j wr){n:Int}{v1 v2 v3:Value}(d:l[j]?=some (n,v1,v2,v3))(b:n∉ns)(a:Below wr.heap.size wr w2):
  Hid (mH w g c l ns (i+1) (j+1) ((((w2.setCell ⟨g,i*4,none⟩ (.int .i64 n)).setCell ⟨g,i*4+1,none⟩ v1).setCell ⟨g,i*4+2,none⟩ v2).setCell ⟨g,i*4+3,none⟩ v3)):=
 h.stays (x:=(n,v1,v2,v3)) d b a
theorem Hq (v:Value)(l:List gw)(nb:Nat)(nv:Value)(ns:List Int)(d:w.ownsRow 0 249 4 v l.length (l.flatMap d8))(h1:∀x∈l,pY x)(a:l.length<=1073741824)
  (X:dP w nb #[nv] 35) (p:w.ownsRow 0 3 1 nv ns.length (gA ns)) (H:ns.length<=1073741824) (E:v.ownBlock≠some nb) (F:∀b,nv.ownBlock=some b->v.ownBlock≠some b):
  Calls prog 263 #[v,xz nb] w (Pe w v l ns):=by
 have O:=JJ w v l nb nv ns d (λx r=>(h1 x r).one) a X p H;have S:Hid (∀(wr:World) (x:gw),w.grownBy wr v.ownBlock->S9 264 #[.agg #[.int .i64 x.1,x.2.1,x.2.2.1,x.2.2.2],.pointer (some ⟨nb,0,none⟩)] wr λe w'=>e= .returned (.bool (decide (x.1∈ns)))/\Below wr.heap.size wr w'):=λwr x m=>JH wr nb nv ns x ((m.block nb X.lt (λe=>E e.sy)).J X) (dR p λb e=>m.block b (p.lt b e).2 (λa=>F b e a.sy)) H
 obtain⟨a,c,rfl⟩:=ig d;unfold xz at O⊢;go_in
 go_wp2_with fail;refine O.V ?_;rintro e w1 ⟨g,m⟩;rcases g with⟨rfl,f⟩|⟨n,rfl,h,i,a⟩;.have g:Hid (jE ns l=l):=zU f;clear f S O;go_wp2;go_ret;refine⟨_,rfl,rfl,?_,⟨m.os,m.tape,m.output,m.size,λk P _=>m.block k P⟩⟩;rw[g.o];exact dR d λb e=>m.block b (d.lt b e).2
 .obtain⟨g,rfl,_,f,_⟩:=dV d Te;obtain⟨R,L⟩:∃x,l[n]?=some x:=⟨_,aP h⟩;have f:IntKind.i64.wrap ((n:Int)+1)=(n:Int)+1:=by rw[IntKind.wrap_i64];omega
  have f:((n:Int)== -1)=false:=Tf
  have h:∃f,w.heap[g]?=some (.cells f 249 (0,0))/\f.size=c*4/\l.length<=c/\c<=maxLen:=by
   rcases d.2 with⟨q,_⟩|⟨F,V,f,q,Z,H,T,Q,A,h⟩;.cases q
   grind
  have h:mH w g c l ns n (n+1) w1:=by
   have t:jE ns (l.take n)=l.take n:=zU λx r=>by
    have⟨k,P⟩:=bY.1 r;grind
   have u:=lG L (a R L);refine⟨by grind,Te,d8 R,by rw[gp];omega,?_,⟨m.os,m.tape,m.output,m.size,λk P _=>m.block k P⟩⟩;rw[u,t]
   have k:(l.take n).flatMap d8++d8 R++(l.drop (n+1)).flatMap d8=l.flatMap d8:=by
    have:l=l.take n++R::l.drop (n+1):=by rw[<-vY L,b8]
    grind
   rw[k];exact dR d λb e=>m.block b (d.lt b e).2
  have n:Hid (∀(wr:World) (x:gw),w.grownBy wr (some g)->S9 264 #[.agg #[.int .i64 x.1,x.2.1,x.2.2.1,x.2.2.2],.pointer (some ⟨nb,0,none⟩)] wr λe w'=>e= .returned (.bool (decide (x.1∈ns)))/\Below wr.heap.size wr w'):=S.o;clear S O i a L d p m;go_wp2;go_loopw [5,6] (λa Y wr=>∃(i j:Nat),j<=l.length/\a= .int .i64 i/\Y= .int .i64 j/\mH w g c l ns i j wr) (λ_ Y _=>((l.length:Int)-(intOf Y)).toNat)
  case atStart=>grind
  case round=>
   obtain⟨i,j,m,rfl,rfl,s⟩:=hrel;by_cases hlt:j<l.length
   .have⟨x,r⟩:=gx hlt;have⟨p,B,D,E,a⟩:=s.cells r;have⟨⟨y,J,G,a⟩,⟨z,K,I,d⟩,C,h⟩:=h1 x (aO r);obtain⟨o,L,M,N⟩:=x;simp only at a d h p B D E;subst a d h;have d:Hid (l[j]?=some (o,.slice y J G,.slice z K I,.map C)):=r;have a:i<j:=s.2.1;have a:IntKind.i64.wrap ((j:Int)+1)=(j:Int)+1:=by rw[IntKind.wrap_i64];omega
    have a:IntKind.i64.wrap ((i:Int)+1)=(i:Int)+1:=by rw[IntKind.wrap_i64];omega
    have a:Below wr.heap.size wr (wr.S6 #[.int .i64 o,.slice y J G,.slice z K I,.map C] 249):=(Below.refl _ _).alloc (aD _) _;have h:w.grownBy wr (some g):=by obtain⟨_,_,_,_,_,q⟩:=s;exact q
    have N:=n.o (wr.S6 #[.int .i64 o,.slice y J G,.slice z K I,.map C] 249) (o,.slice y J G,.slice z K I,.map C) (lg h _);by_cases hxt:o∈ns
    .have D:decide (o∈ns)=true:=decide_eq_true hxt;simp only[D]at N;have U:Hid (o∈ns):=hxt;clear r hxt D;go_wp2_with fail;refine N.V ?_;rintro e w2 ⟨rfl,h⟩;go_wp2;go_roundw
     case rel=>exact⟨i,j+1,Te,rfl,rfl,s.gone d.o U.o (eD a Te)⟩
     case measure=>simp[intOf];omega
    .have D:decide (o∈ns)=false:=decide_eq_false hxt;simp only[D]at N;have U:Hid (o∉ns):=hxt;clear r hxt D;go_wp2_with fail;refine N.V ?_;rintro e w2 ⟨rfl,h⟩;have e:Below wr.heap.size wr w2:=eD a Te;have a:dP w2 wr.heap.size #[.int .i64 o,.slice y J G,.slice z K I,.map C] 249:=(h.block _ Tf).J (dP.new wr _ _);have⟨h,n⟩:=a.I;have⟨u0,u1,u2,u3,a,t,u,k,h⟩:=s.room m e;have h:i<l.length:=Te;have a:wr.heap.size≠g:=Te;have a:=s.stays4 d.o U.o e;go_wp2;go_roundw
     case rel=>
      refine⟨i+1,j+1,Te,rfl,rfl,?_⟩;exact a.o
     case measure=>simp[intOf];omega
   .obtain rfl:j=l.length:=Te;obtain⟨Z,H,M,T,Q,A⟩:=s;have T:Hid (i=(jE ns l).length):=by show i=_;rw[Z,ck (aD _)]
    clear Z;rw[ck (aD _),cU (aD _)]at Q
    obtain⟨f,d,a,j,e,k⟩:∃f,wr.heap[g]?=some (.cells f 249 (0,0))/\f.size=c*4/\c<=maxLen/\l.length<=c/\Hid (f.toList.take (i*4)=(jE ns l).flatMap d8):=by
     rcases Q.2 with⟨q,_⟩|⟨F,V,f,q,p,a,e,m,n,o⟩;.cases q
     .cases q;refine⟨f,a,n,m,e,?_⟩;show _=_;have t:f.toList.take (i*4)=(f.toList.take (l.length*4)).take (i*4):=by rw[List.take_take,Nat.min_eq_left Te]
      have u:i*4=((jE ns l).flatMap d8).length:=by rw[ow,<-T.o]
      rw[t,o,cJ,u,List.take_left]
    have e:∀a W,(Builtin.clear_ #[181] a #[.slice (some ⟨g,i*4,none⟩) (l.length-i) W]).run prog wr= .ok (.tuple #[]) (wr.setRow g (f.toList.take (i*4)++mG (l.length-i)++f.toList.drop (i*4+(l.length-i)*4)).toArray):=λa W=>vt wr a g (i*4) (l.length-i) W f Te d Te
    have h:i<l.length:=Te;clear Q;go_wp2;go_ret;have a:(mG (l.length-i)).length=(l.length-i)*4:=by simp[mG,Builtin.zeroCells]
    refine⟨_,rfl,rfl,?_,js A (.inl rfl)⟩;rw[<-T.o];refine⟨by rw[ow,<-T.o],.inr ⟨g,c,_,rfl,aM _,setRow_heap _ _ _ _ _ _ d,Te,j,?_,?_⟩⟩;.grind
    .have t:i*4=(f.toList.take (i*4)).length:=by grind
     have u:∀A B:List Value,A.length=i*4->(A++B).take (i*4)=A:=λA B h=>by rw[<-h,List.take_left]
     rw[List.toList_toArray,u _ _ t.sy];exact k.o
end
def PM.without (m:PM)(ns:ar):PM:= .mk (m.fs.filter λf=>decide (f.1∉ns)) m.unk
def uF (m:PM)(n:Int):m.without [n]=m.put n []:=by
 show PM.mk _ _=PM.mk (gY n [] true m.fs) m.unk;rw[lZ];simp
def qH (S:eE)(k:Nat)(T:Option MT)(w:aw)(Z:ax)(db:Nat)(m:PM)(nv:Value)(ns:ar)(h:el S (k+1) T w Z db m)(i:w.ownsRow 0 3 1 nv ns.length (gA ns))(s:ns.length<=1073741824)(t:∀b,nv.ownBlock=some b->¬Z b):
  Calls prog 184 #[ag db,nv] w (jN S k T w Z db (m.without ns)):=by
 obtain⟨o,q,p,rfl⟩:=dO i;obtain⟨sv,uv,l,Y,c,F⟩:=h;have⟨j,M⟩:=eY w #[.slice o q p] 35;have d:=c.O (λb _ a=>j.block b a);have R:=mF F (λb _ a=>j.block b a);have U:=dR i λb a=>j.block b (i.lt b a).2
 have V:=c.c.row.lt;have W:=c.c.blk.lt;have E:=Hq _ sv l w.heap.size (.slice o q p) ns d.c.row d.c.form d.c.len M U s (λe=>by have:=(V _ e).2;omega) (λb a e=>t b a (c.zs b e));obtain⟨J,L,K,rfl⟩:=dO c.c.row;have⟨H,I⟩:=d.c.blk.I;have N:=c.yl;have f:w.heap.size<=(w.alloc (ak #[.slice o q p] 35)).heap.size:=j.size;clear F;unfold xz at E;go_in
 go_wp2_with fail;generalize w.alloc (ak #[.slice o q p] 35)=w0 at*;refine E.V ?_;rintro e w1 ⟨v',rfl,n,C,g⟩;obtain⟨v,z,y,rfl⟩:=dO C;clear H I;have Q:w1.heap[db]?=w0.heap[db]?:=g.block db d.c.blk.lt (λe=>c.c.ne e.sy);have B:dP w1 db #[.slice J L K,uv] 183:=Q.J d.c.blk;have⟨H,I⟩:=B.I;go_wp2;go_end0
 have r:∀b,b<w0.heap.size->b≠db->(Value.slice J L K).ownBlock≠some b->(w1.setCell (ai db 0) (.slice v z y)).heap[b]?=w0.heap[b]?:=λb a O P=>by
  rw[dM,dG (λe=>O e.sy)];exact g.block b a (λe=>P e.sy)
 have D:(Value.slice v z y).ownBlock≠some db:=by rw[n];exact c.c.ne
 have f:et w Z w0 Z:=(et.refl w Z).G j;refine⟨rfl,Z,f.J ⟨g.os,g.tape,g.output,by simpa using g.size,λb a G=>r b a (λe=>G (e▸c.zd)) (λe=>G (c.zs b e)),λb a=> .inl a⟩,?_⟩;refine⟨.slice v z y,uv,jE ns l,Y,⟨⟨⟨B.set 0 _,?_,λx u=>c.c.form x (cl.1 u).1,c.c.srt.filter _,D,aL JK c.c.len⟩,?_,c.zd,λb a=>c.zs b (n▸a),c.zu,λb a=>c.su b (n▸a),c.ud⟩,c.yz,?_,c.yd,λb a=>c.ys b (n▸a),c.yu⟩,?_⟩
 .refine dR C λb a=> ?_
  rw[dM,dG (λe=>D (by rw[a,e]))]
 .exact dR d.un λb a=>r b (d.un.lt b a).2 (λe=>c.ud (e▸a)) (λe=>c.su b e a)
 .intro b a;have d:=N b a;have d:=g.size;simp;omega
 .refine mF ?_ (λb a X=>r b X (λe=>c.yd (e▸a)) (λe=>c.ys b e a));exact R.filter λx f A u=>by rw[xA,u.1]
def Pf:(prog.info? 5).map (λi=>(i.zero,i.size,i.bytes))=some (some (.int .u8 0),1,1):=Tj
def vu (w:aw)(ty:TypeId)(v:Value)(n:Nat)(xs:ay)(d:w.ownsRow 0 5 1 v n xs)(s:au)(m:n+s.size<=2^47):
  ∃v' w',(Builtin.append_ #[140,9] ty #[v,ae s]).run prog w= .ok v' w'/\w'.ownsRow 0 5 1 v' (n+s.size) (xs++Lib.strCells s)/\w.grownBy w' v.ownBlock/\∀b,v'.ownBlock=some b->v.ownBlock=some b\/w.heap.size<=b:=by
 have⟨e,h,p,i,o⟩:=info_parts Pf;have l:prog.underlying 140=some (.slice 5):=underlying140;have f:prog.underlying 9=some .string:=underlying9;have x:n+s.size<=maxLen:=Tl;rcases d.2 with⟨rfl,rfl⟩|⟨g,a,z,rfl,G,E,H,I,J,K⟩;.have⟨v',w',c,k,r,_⟩:=Lib.run_append_own_string (P:=prog) w w.heap.size 140 9 ty 5 e l f h p i o (ah) 0 xs (by have:=d.1;exact⟨this,.inl ⟨rfl,rfl⟩⟩) s x m (aD _);exact⟨v',w',c,iz k (aM _),r,λb m=> .inr (k.lt b m).1⟩
 .have⟨v',w',c,k,r,_⟩:=Lib.run_append_own_string (P:=prog) w 0 140 9 ty 5 e l f h p i o _ n xs d s x m (aM _);refine⟨v',w',c,k,r,λb y=> ?_⟩;by_cases hr:n+s.size<=a;.have:=Lib.run_append_room_string (P:=prog) w 140 9 ty 5 e l f h i g n a z E s hr Te;rw[this]at c;cases c;exact .inl y
  .have hlen:xs.length=n*e.size:=by rw[i];exact d.1
   have:=Lib.run_append_grow_string (P:=prog) w 140 9 ty 5 e _ l f h p (ai g 0) n a xs hlen (λj u t=>(dV d (by
    by_cases q:0<n;.exact q
    .have C:xs.length=0:=by rw[hlen];simp[show n=0 by omega]
     rw[br C]at t;simp at t)).elim λF A=>by
     obtain⟨B,_,_,D⟩:=A;cases B
     rw[Addr.add_lit];simpa using D w rfl j u t) s Te Te (by rw[o];exact growslice_fits Te Te)
   rw[this]at c;cases c;exact .inr (by cases y;exact aD _)
def AV (S:eE)(k:Nat)(T:Option MT)(w:aw)(Z:ax)(db:Nat)(m:PM)(s:au)(h:el S (k+1) T w Z db m)(p:m.unk.size+s.size<=2^47):
  Calls prog 135 #[ag db,ae s] w (jN S k T w Z db (m.O s)):=by
 obtain⟨sv,uv,l,Y,a,v⟩:=h;obtain⟨y,A,z,rfl⟩:=dO a.un;have⟨v',w1,D,t,g,n⟩:=vu w 140 _ _ _ a.un s p;obtain⟨c,f,d,rfl⟩:=dO t;have⟨N,O⟩:=a.c.blk.I;have C:w1.heap[db]?=w.heap[db]?:=g.block db a.c.blk.lt (λe=>a.ud e.sy);have u:dP w1 db #[sv,.slice y A z] 183:=C.J a.c.blk;have⟨L,M⟩:=u.I
 have B:Hid (jN S k T w Z db (m.O s) (.returned (.tuple #[])) (w1.setCell (ai db 1) (.slice c f d))):=by
  have K:=a.c.blk.lt
  have o:∀b,b<w.heap.size->b≠db->(Value.slice y A z).ownBlock≠some b->(w1.setCell (ai db 1) (.slice c f d)).heap[b]?=w.heap[b]?:=λb i I J=>by
   rw[dM,dG (λe=>I e.sy)];exact g.block b i (λe=>J e.sy)
  have r:(Value.slice c f d).ownBlock≠some db:=λe=>(n db e).elim a.ud (λq=>Te)
  have E:∀b,(Value.slice c f d).ownBlock=some b->¬Y b:=λb e q=>(n b e).elim (λe=>a.yu b e q) (λe=>by have:=a.yl b q;omega)
  have F:∀b,sv.ownBlock=some b->(Value.slice c f d).ownBlock≠some b:=λb e q=>(n b q).elim (a.su b e) (λq=>by have:=(a.c.row.lt b e).2;omega)
  have j:w.heap.size<=(w1.setCell (ai db 1) (.slice c f d)).heap.size:=by simpa using g.size
  refine⟨rfl,λb=>Z b\/(Value.slice c f d).ownBlock=some b,⟨g.os,g.tape,g.output,j,λb i x=>o b i (λe=>x (e▸a.zd)) (λe=>x (a.zu b e)),λb i=>i.elim .inl (λe=>(n b e).imp (a.zu b) id)⟩,?_⟩;refine⟨sv,.slice c f d,l,Y,⟨⟨⟨u.set 1 _,?_,a.c.form,a.c.srt,a.c.ne,a.c.len⟩,?_,.inl a.zd,λb e=> .inl (a.zs b e),λb e=> .inr e,F,r⟩,λb q=> .inl (a.yz b q),λb q=>aI (a.yl b q) j,a.yd,a.ys,E⟩,?_⟩;.exact dR a.c.row λb e=>o b (a.c.row.lt b e).2 (λq=>a.c.ne (q▸e)) (a.su b e)
  .have G:(m.O s).unk=m.unk++s:=rfl;have H:Lib.strCells (m.unk++s)=Lib.strCells m.unk++Lib.strCells s:=(by unfold Lib.strCells;rw[ByteArray.data_append,Array.toList_append,bM]);rw[G,ByteArray.size_append,H];exact dR t λb e=>by rw[dM,dG (λq:db=b=>r (by rw[q];exact e))]
  .exact mF v λb q p=>o b p (λe=>a.yd (e▸q)) (λe=>a.yu b e q)
 clear a v;go_in
 go_wp2_with (at_builtin;refine Lib.wpList_append_run _ rfl _ _ _ _ rfl _ _ rfl rfl _ _ D ?_)
 go_end0;exact B.o
def FZ (S:eE)(k:Nat)(T:Option MT)(w:aw)(Z:ax)(db:Nat)(m:PM)(n:Int)(v:LV)(h:el S (k+1) T w Z db m)(s:ot S T n .vals)(r:(∀kd,ot S T n kd->kd= .vals)\/∀f∈m.fs,f.1≠n)(E:m.fs.length<1073741824)(D:∀b,Z b->b<w.heap.size):
  Calls prog 193 #[ag db,aa n,vR v] w (jN S k T w Z db (if v.1=0/\gP v.2 eS=true then m.put n []else m.put n [qF v])):=by
 have⟨j,z⟩:=eY w #[.int .u64 v.1,ae v.2,ah,S8] 55;have⟨F,G⟩:=z.I;have y:=h.O (λb _ g=>j.block b g);have d:=AT S k T _ Z db m n v y s r E;have l:∀{m':PM} {e:Ending} {w':aw},jN S k T (w.S6 #[.int .u64 v.1,ae v.2,ah,S8] 55) Z db m' e w'->jN S k T w Z db m' e w':=λ⟨t,p,u,x⟩=>⟨t,p,((et.refl w Z).G j).J u,x⟩
 have A:dP _ (w.heap.size+1) _ _:=dP.new1 w (ak #[.int .u64 v.1,ae v.2,ah,S8] 55) #[aa n] 3
 have i:=qH S k T ((w.alloc (ak #[.int .u64 v.1,ae v.2,ah,S8] 55)).alloc (ak #[aa n] 3)) Z db m (Ta (w.heap.size+1) 1 1) [n] (y.O (λb _ g=>Below.l _ _ b g)) ⟨rfl,.inr ⟨w.heap.size+1,1,#[aa n],rfl,aM _,A,Tf,by simp[maxLen],rfl,rfl⟩⟩ Tf (λb g a=>by
  have:w.heap.size+1=b:=by simpa [Value.ownBlock]using g
  have:=D b a
  omega)
 rw[uF]at i;have o:∀{m':PM} {e:Ending} {w':aw},jN S k T ((w.S6 #[.int .u64 v.1,ae v.2,ah,S8] 55).S6 #[aa n] 3) Z db m' e w'->jN S k T w Z db m' e w':=λ⟨t,p,u,x⟩=>⟨t,p,(((et.refl w Z).G j).alloc _).J u,x⟩
 by_cases a:v.1=0
 .have C:(v.1==0)=true:=by simp[a]
  by_cases hs:gP v.2 eS=true
  .have B:(v.2.toList== [])=true:=by rw[<-show eS.toList= []from by decide+kernel];exact hs
   rw[dH ⟨a,hs⟩];clear a hs d l;unfold vR;go_in
   go_wp2_with fail;refine i.V ?_;rintro e w1 c;obtain rfl:=c.1;go_wp2;go_end0;exact o c
  .have B:(v.2.toList== [])=false:=by rw[<-show eS.toList= []from by decide+kernel];exact bN.2 hs
   rw[dG (λq=>hs q.2)];clear a hs i o;unfold vR at d⊢;go_in
   go_wp2_with fail;refine d.V ?_;rintro e w1 c;obtain rfl:=c.1;go_wp2;go_end0;exact l c
 .have C:(v.1==0)=false:=by simp[a]
  rw[dG (λq=>a q.1)];clear a i o;unfold vR at d⊢;go_in
  go_wp2_with fail;refine d.V ?_;rintro e w1 c;obtain rfl:=c.1;go_wp2;go_end0;exact l c
def el.forget {S:eE}:∀{k:Nat} {T:Option MT} {w:aw} {Z:ax} {db:Nat} {m:PM},el S k T w Z db m->el S k none w Z db m
 |0,_,_,_,_,_,h=>h
 |k+1,T,w,_,_,_,⟨sv,uv,l,Y,hy,hs⟩=>⟨sv,uv,l,Y,hy,hs.imp λx f A _ _ _ h=>by
   obtain⟨b,c⟩:=h;refine⟨b,?_⟩;have a:∀n kd,ot S none n kd:=λ_ _ _ _ e=>by cases e
   rcases c with⟨_,lv,h⟩|⟨_,ps,B,h⟩|⟨t,_,d,ps,B,h⟩;.exact .inl ⟨a _ _,lv,h⟩
   .exact .inr (.inl ⟨a _ _,ps,B,{h with lone:=(λ⟨_,_,e,_⟩=>by cases e),sub:=h.sub.imp λp v C _ _ _ q=>⟨q.1,el.forget q.2⟩}⟩)
   .exact .inr (.inr ⟨t,a _ _,d,ps,B,h⟩)⟩
end
end Go.Proofs.YtfebdimolnobaaaGreatDoor
