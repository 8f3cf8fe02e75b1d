import Derived.Test.YtfebdimolnobaaaGreatDoorRrF
set_option maxRecDepth 100000
set_option maxHeartbeats 8000000
set_option linter.all false
namespace Go.Proofs.YtfebdimolnobaaaGreatDoor
open Go.RowKit Go.Proofs.Tryz
section
open VH
section
variable (w:World) {α:Type} {j g c i:Nat} {ns:List Int} {l:List gH} {x:gH} {wr w2:World} {row:Option Nat}
def Lj (l:List gH)(ns:List Int)(e:Ending):Prop:=
 (e= .returned (.int .i64 (-1))/\∀x∈l,x.1∉ns)\/∃i:Nat,e= .returned (.int .i64 i)/\i<l.length/\(∀k x,l[k]?=some x->k<i->x.1∉ns)/\∀x,l[i]?=some x->x.1∈ns
theorem Lk (v:Value)(l:List gH)(nb:Nat)(nv:Value)(ns:List Int)(d:w.ownsRow 0 249 4 v l.length (l.flatMap eC))(h1:∀x∈l,x.2.1.oneCell'=true/\x.2.2.1.oneCell'=true/\x.2.2.2.oneCell'=true)(P:l.length<=2199023255000)
  (F:dZ w nb #[nv] 35) (p:w.ownsRow 0 3 1 nv ns.length (gE ns)) (z:ns.length<=2199023255000):
  Calls prog 344 #[v,ye nb] w λe w'=>Lj l ns e/\Below w.heap.size w w':=by
 obtain⟨a,c,rfl⟩:=iB d;have o:Hid (∀(i:Nat) (x:gH),l[i]?=some x->∃g,a=some ⟨g,0,none⟩/\g<w.heap.size/\∀w':World,w'.heap[g]?=w.heap[g]?->w'.cell? ⟨g,i*4,none⟩=some (.int .i64 x.1)/\w'.cell? ⟨g,i*4+1,none⟩=some x.2.1/\w'.cell? ⟨g,i*4+2,none⟩=some x.2.2.1/\w'.cell? ⟨g,i*4+3,none⟩=some x.2.2.2):=λi x f=>sl d f
 have B:Hid (∀(wr:World) (x:gH),Below w.heap.size w wr->Vq 264 #[.agg #[.int .i64 x.1,x.2.1,x.2.2.1,x.2.2.2],.pointer (some ⟨nb,0,none⟩)] wr λe w'=>e= .returned (.bool (decide (x.1∈ns)))/\Below wr.heap.size wr w'):=λwr x E=>Li wr nb nv ns x ((E.block nb F.lt).J F) (eD p λb e=>E.block b (p.lt b e).2) z
 clear d;unfold ye;go_in
 go_wp2;go_loopw [8] (λA wr=>∃(i:Nat),i<=l.length/\A= .int .i64 i/\Hid (∀(k:Nat) (x:gH),l[k]?=some x->k<i->x.1∉ns)/\Below w.heap.size w wr) (λA _=>((l.length:Int)-(intOf A)).toNat)
 case atStart=>exact⟨0,aP _,rfl,(λk x _ h=>Vv),Below.refl _ _⟩
 case round=>
  obtain⟨i,I,rfl,r,m⟩:=hrel;by_cases hlt:i<l.length
  .have⟨x,f⟩:=gx hlt;obtain⟨g,rfl,G,D⟩:=o.o i x f;have⟨K,L,M,N⟩:=D wr (m.block g G);have⟨O,Q,R⟩:=h1 x (aL f);clear D;have C:Hid (l[i]?=some x):=f;have q:=B.o wr x m;have J:IntKind.i64.wrap ((i:Int)+1)=(i:Int)+1:=by rw[IntKind.wrap_i64];omega
   by_cases hxt:x.1∈ns;.have n:decide (x.1∈ns)=true:=decide_eq_true hxt;rw[n]at q;have s:Hid (x.1∈ns):=hxt;clear f o hxt n;go_wp2_with fail;refine q.V ?_;rintro e w2 ⟨rfl,t⟩;go_wp2;go_ret;exact⟨.inr ⟨i,rfl,hlt,r.o,λy j=>by rw[C.o]at j;rw[<-Option.some.inj j];exact s.o⟩,eT m t⟩
   .have n:decide (x.1∈ns)=false:=decide_eq_false hxt;rw[n]at q;have s:Hid (x.1∉ns):=hxt;clear f o hxt n;go_wp2_with fail;refine q.V ?_;rintro e w2 ⟨rfl,t⟩;go_wp2;go_roundw
    case rel=>exact⟨i+1,Vv,rfl,(λk y j u=>by
     by_cases e:k=i;.subst e;rw[C.o]at j;rw[<-Option.some.inj j];exact s.o
     .exact r.o k y j Vv),eT m t⟩
    case measure=>simp[intOf];omega
  .obtain rfl:i=l.length:=Vv;clear o B;go_wp2;go_ret;refine⟨.inl ⟨rfl,λx f=> ?_⟩,m⟩;have⟨k,u⟩:=bX.1 f;have H:=gl u;exact r.o k x u H
theorem TP (A R:List Value)(m0 m1 m2 m3 a b c d:Value)(k:Nat)(e:A.length=k):((((A++m0::m1::m2::m3::R).set k a).set (k+1) b).set (k+2) c).set (k+3) d=A++a::b::c::d::R:=by
 subst e;simp
def nB (n:Nat):List Value:=(Builtin.zeroCells #[.int .i64 0,.slice none 0 0,.slice none 0 0,.map none] n).toList
theorem vV (ty:TypeId)(g o n c:Nat)(VI:Array Value)(k:0<n)(h:w.heap[g]?=some (.cells VI 249 (0,0)))(b:o+n*4<=VI.size):
  (Builtin.clear_ #[181] ty #[.slice (some ⟨g,o,none⟩) n c]).run prog w= .ok (.tuple #[]) (w.setRow g (VI.toList.take o++nB n++VI.toList.drop (o+n*4)).toArray):=by
 have e:(nB n).length=n*4:=by simp[nB,Builtin.zeroCells]
 have f:∀v∈nB n,v.oneCell'=true:=by
  intro v d;simp[nB,Builtin.zeroCells]at d;obtain⟨i,_,rfl⟩:=d;have:i%4<4:=Nat.mod_lt _ Vv;generalize i%4=q at this
  match q,this with
  |0,_=>rfl
  |1,_=>rfl
  |2,_=>rfl
  |3,_=>rfl
 have a:=run_storeCells_at prog g o 249 (nB n) 0 VI w h Vv f;rw[e]at a;have j:prog.underlying 181=some (.slice 249):=underlying181;obtain⟨m,rfl⟩:∃m,n=m+1:=⟨n-1,Vv⟩;unfold nB at a;simp[Builtin.clear_,run_underlying j,zeroValue249,Value.cells,a,nB]
def yf (ns:List Int)(x:gH):Bool:=decide (x.1∉ns)
def kt (ns:List Int)(l:List gH):List gH:=l.filter (yf ns)
theorem AC {l:List α}{x:α}(h:l[j]?=some x):l.take (j+1)=l.take j++ [x]:=by
 rw[bT,h];rfl
theorem wW {l:List α}{x:α}(h:l[j]?=some x):l.drop j=x::l.drop (j+1):=by
 obtain⟨a,rfl⟩:=bn.1 h;exact(be a)
theorem mE (h:l[j]?=some x)(a:x.1∈ns):kt ns (l.take (j+1))=kt ns (l.take j):=by
 unfold kt;rw[AC h,cN];simp[yf,a]
theorem oS (h:l[j]?=some x)(a:x.1∉ns):kt ns (l.take (j+1))=kt ns (l.take j)++ [x]:=by
 unfold kt;rw[AC h,cN];simp[yf,a]
theorem AD (h:∀x∈l,x.1∉ns):kt ns l=l:=dd.2 (λx a=>by simp[yf,h x a])
theorem Ll:(kt ns l).length<=l.length:=bZ _ _
theorem oT (l:List gH):(l.flatMap eC).length=l.length*4:=by
 induction l with
 |nil=>rfl
 |cons x l ih=>rw[bt,aN,ih,gz,bw];omega
def QX (w:World)(v:Value)(l:List gH)(ns:List Int)(e:Ending)(w':World):Prop:=
 ∃v',e= .returned v'/\v'.ownBlock=v.ownBlock/\w'.ownsRow 0 249 4 v' (kt ns l).length ((kt ns l).flatMap eC)/\w.grownBy w' v.ownBlock
def nC (w:World)(g c:Nat)(l:List gH)(ns:List Int)(i j:Nat)(wr:World):Prop:=
 i=(kt ns (l.take j)).length/\i<j/\∃M,M.length=(j-i)*4/\wr.ownsRow 0 249 4 (.slice (some ⟨g,0,none⟩) l.length c) l.length ((kt ns (l.take j)).flatMap eC++M++(l.drop j).flatMap eC)/\w.grownBy wr (some g)
theorem nC.cells {w:World}(h:nC w g c l ns i j wr)(d:l[j]?=some x):
  wr.cell? ⟨g,j*4,none⟩=some (.int .i64 x.1)/\wr.cell? ⟨g,j*4+1,none⟩=some x.2.1/\wr.cell? ⟨g,j*4+2,none⟩=some x.2.2.1/\wr.cell? ⟨g,j*4+3,none⟩=some x.2.2.2/\g<wr.heap.size:=by
 obtain⟨k,v,M,m,n,y⟩:=h;have s:=gl d;have⟨t,p,_,e,b⟩:=eJ n Vv;cases p;have o:((kt ns (l.take j)).flatMap eC++M).length=j*4:=by rw[aN,oT,<-k,m];omega
 rw[wW d]at b
 have a:∀q u,(eC x)[q]?=some u->wr.cell? ⟨g,j*4+q,none⟩=some u:=λq u r=>by
  refine b wr rfl _ u ?_;have f:q<(eC x).length:=(by grind);rw[cj Vv,o,Nat.add_sub_cancel_left,bt,cy f];exact r
 exact⟨a 0 _ rfl,a 1 _ rfl,a 2 _ rfl,a 3 _ rfl,e⟩
theorem lV {w w':World}(h:w.grownBy w' row)(o:Obj):w.grownBy (w'.alloc o) row:=
 ⟨h.os,h.tape,h.output,aM h.size Vw,λk a b=>(Below.l w' o k (aI a h.size)).J (h.block k a b)⟩
theorem rS {w w':World}(h:w.grownBy w' row)(a:Below w'.heap.size w' w2):w.grownBy w2 row:=
 ⟨a.os.J h.os,a.tape.J h.tape,a.output.J h.output,aM h.size a.size,λk b c=>(a.block k (aI b h.size)).J (h.block k b c)⟩
theorem kM {w w':World}(h:w.grownBy w' (some g))(o:Nat)(v:Value):w.grownBy (w'.setCell ⟨g,o,none⟩ v) (some g):=
 ⟨h.os,h.tape,h.output,by simpa using h.size,λk b a=>by
  rw[dY,dQ (λe=>a (by rw[e]))]
  exact h.block k b a⟩
theorem nC.room {w:World}(h:nC w g c l ns i j wr)(t:j<=l.length)(k:Below wr.heap.size wr w2):
  ∃u0 u1 u2 u3,w2.cell? ⟨g,i*4,none⟩=some u0/\w2.cell? ⟨g,i*4+1,none⟩=some u1/\w2.cell? ⟨g,i*4+2,none⟩=some u2/\w2.cell? ⟨g,i*4+3,none⟩=some u3/\∀o,w2.frozen? ⟨g,o,none⟩=false:=by
 obtain⟨n,p,M,r,f,s⟩:=h;rcases f.2 with⟨q,_⟩|⟨m,e,b,q,u,a,v,x,y,z⟩;.cases q
 .cases q;have d:dZ w2 g b 249:=(k.block g (dZ.lt a)).J a;have⟨A,B⟩:=d.I;grind
theorem nC.gone {w:World}(h:nC w g c l ns i j wr)(a:l[j]?=some x)(f:x.1∈ns)(e:Below wr.heap.size wr w2):nC w g c l ns i (j+1) w2:=by
 obtain⟨m,p,M,n,d,o⟩:=h;refine⟨by rw[mE a f];exact m,Vv,M++eC x,by rw[aN,n,gz];omega,?_,rS o e⟩;rw[mE a f];rw[wW a,bt]at d;refine eD ?_ (λb k=>e.block b (d.lt b k).2);grind
theorem nC.stays {w:World}(h:nC w g c l ns i j wr)(a:l[j]?=some x)(r:x.1∉ns)(q:Below wr.heap.size wr w2):
  nC w g c l ns (i+1) (j+1) ((((w2.setCell ⟨g,i*4,none⟩ (.int .i64 x.1)).setCell ⟨g,i*4+1,none⟩ x.2.1).setCell ⟨g,i*4+2,none⟩ x.2.2.1).setCell ⟨g,i*4+3,none⟩ x.2.2.2):=by
 obtain⟨u,C,M,v,n,y⟩:=h;have B:=gl a;have m:=eD n (λb t=>q.block b (n.lt b t).2);rw[wW a,bt]at m
 obtain⟨d,e,f,k,R,z⟩:∃d e f k R,M++eC x=d::e::f::k::R:=by
  have:4<=M.length:=Vv
  match M,this with
  |d::e::f::k::R,_=>grind
 have A:R.length=(j-i)*4:=(by have:=dV List.length z;simp[v,gz]at this;omega)
 rw[show((kt ns (l.take j)).flatMap eC++M++(eC x++(l.drop (j+1)).flatMap eC))=(kt ns (l.take j)).flatMap eC++d::e::f::k::(R++(l.drop (j+1)).flatMap eC)from by
  grind]at m
 have s:((kt ns (l.take j)).flatMap eC).length=i*4:=by rw[oT,<-u]
 have p:=mo (mo (mo (mo m (o:=i*4) (.int .i64 x.1) Vv) (o:=i*4+1) x.2.1 Vv) (o:=i*4+2) x.2.2.1 Vv) (o:=i*4+3) x.2.2.2 Vv;rw[TP _ _ _ _ _ _ _ _ _ _ _ s]at p;refine⟨by rw[oS a r,aN];grind,Vv,R,Vv,?_,kM (kM (kM (kM (rS y q) _ _) _ _) _ _) _ _⟩;rw[oS a r,da];simpa [eC]using p
theorem nC.stays4 {w:World}(h:nC w g c l ns i j wr){n:Int}{v1 v2 v3:Value}(d:l[j]?=some (n,v1,v2,v3))(b:n∉ns)(a:Below wr.heap.size wr w2):
  Hid (nC w g c l ns (i+1) (j+1) ((((w2.setCell ⟨g,i*4,none⟩ (.int .i64 n)).setCell ⟨g,i*4+1,none⟩ v1).setCell ⟨g,i*4+2,none⟩ v2).setCell ⟨g,i*4+3,none⟩ v3)):=
 h.stays (x:=(n,v1,v2,v3)) d b a
theorem I6 (v:Value)(l:List gH)(nb:Nat)(nv:Value)(ns:List Int)(d:w.ownsRow 0 249 4 v l.length (l.flatMap eC))(h1:∀x∈l,qs x)(a:l.length<=2199023255000)
  (X:dZ w nb #[nv] 35) (p:w.ownsRow 0 3 1 nv ns.length (gE ns)) (H:ns.length<=2199023255000) (E:v.ownBlock≠some nb) (F:∀b,nv.ownBlock=some b->v.ownBlock≠some b):
  Calls prog 263 #[v,ye nb] w (QX w v l ns):=by
 have O:=Lk w v l nb nv ns d (λx r=>(h1 x r).one) a X p H;have S:Hid (∀(wr:World) (x:gH),w.grownBy wr v.ownBlock->Vq 264 #[.agg #[.int .i64 x.1,x.2.1,x.2.2.1,x.2.2.2],.pointer (some ⟨nb,0,none⟩)] wr λe w'=>e= .returned (.bool (decide (x.1∈ns)))/\Below wr.heap.size wr w'):=λwr x m=>Li wr nb nv ns x ((m.block nb X.lt (λe=>E e.sy)).J X) (eD p λb e=>m.block b (p.lt b e).2 (λa=>F b e a.sy)) H
 obtain⟨a,c,rfl⟩:=iB d;unfold ye at O⊢;go_in
 go_wp2_with fail;refine O.V ?_;rintro e w1 ⟨g,m⟩;rcases g with⟨rfl,f⟩|⟨n,rfl,h,i,a⟩;.have g:Hid (kt ns l=l):=AD f;clear f S O;go_wp2;go_ret;refine⟨_,rfl,rfl,?_,⟨m.os,m.tape,m.output,m.size,λk P _=>m.block k P⟩⟩;rw[g.o];exact eD d λb e=>m.block b (d.lt b e).2
 .obtain⟨g,rfl,_,f,_⟩:=eJ d Vv;obtain⟨R,L⟩:∃x,l[n]?=some x:=⟨_,aO h⟩;have f:IntKind.i64.wrap ((n:Int)+1)=(n:Int)+1:=by rw[IntKind.wrap_i64];omega
  have f:((n:Int)== -1)=false:=Vw
  have h:∃f,w.heap[g]?=some (.cells f 249 (0,0))/\f.size=c*4/\l.length<=c/\c<=maxLen:=by
   rcases d.2 with⟨q,_⟩|⟨F,V,f,q,Z,H,T,Q,A,h⟩;.cases q
   grind
  have h:nC w g c l ns n (n+1) w1:=by
   have t:kt ns (l.take n)=l.take n:=AD λx r=>by
    have⟨k,P⟩:=bX.1 r;grind
   have u:=mE L (a R L);refine⟨by grind,Vv,eC R,by rw[gz];omega,?_,⟨m.os,m.tape,m.output,m.size,λk P _=>m.block k P⟩⟩;rw[u,t]
   have k:(l.take n).flatMap eC++eC R++(l.drop (n+1)).flatMap eC=l.flatMap eC:=by
    have:l=l.take n++R::l.drop (n+1):=by rw[<-wW L,bY]
    grind
   rw[k];exact eD d λb e=>m.block b (d.lt b e).2
  have n:Hid (∀(wr:World) (x:gH),w.grownBy wr (some g)->Vq 264 #[.agg #[.int .i64 x.1,x.2.1,x.2.2.1,x.2.2.2],.pointer (some ⟨nb,0,none⟩)] wr λe w'=>e= .returned (.bool (decide (x.1∈ns)))/\Below wr.heap.size wr w'):=S.o;clear S O i a L d p m;go_wp2;go_loopw [5,6] (λa Y wr=>∃(i j:Nat),j<=l.length/\a= .int .i64 i/\Y= .int .i64 j/\nC w g c l ns i j wr) (λ_ Y _=>((l.length:Int)-(intOf Y)).toNat)
  case atStart=>grind
  case round=>
   obtain⟨i,j,m,rfl,rfl,s⟩:=hrel;by_cases hlt:j<l.length
   .have⟨x,r⟩:=gx hlt;have⟨p,B,D,E,a⟩:=s.cells r;have⟨⟨y,J,G,a⟩,⟨z,K,I,d⟩,C,h⟩:=h1 x (aL r);obtain⟨o,L,M,N⟩:=x;simp only at a d h p B D E;subst a d h;have d:Hid (l[j]?=some (o,.slice y J G,.slice z K I,.map C)):=r;have a:i<j:=s.2.1;have a:IntKind.i64.wrap ((j:Int)+1)=(j:Int)+1:=by rw[IntKind.wrap_i64];omega
    have a:IntKind.i64.wrap ((i:Int)+1)=(i:Int)+1:=by rw[IntKind.wrap_i64];omega
    have a:Below wr.heap.size wr (wr.Vn #[.int .i64 o,.slice y J G,.slice z K I,.map C] 249):=(Below.refl _ _).alloc (aE _) _;have h:w.grownBy wr (some g):=by obtain⟨_,_,_,_,_,q⟩:=s;exact q
    have N:=n.o (wr.Vn #[.int .i64 o,.slice y J G,.slice z K I,.map C] 249) (o,.slice y J G,.slice z K I,.map C) (lV h _);by_cases hxt:o∈ns
    .have D:decide (o∈ns)=true:=decide_eq_true hxt;simp only[D]at N;have U:Hid (o∈ns):=hxt;clear r hxt D;go_wp2_with fail;refine N.V ?_;rintro e w2 ⟨rfl,h⟩;go_wp2;go_roundw
     case rel=>exact⟨i,j+1,Vv,rfl,rfl,s.gone d.o U.o (eT a Vv)⟩
     case measure=>simp[intOf];omega
    .have D:decide (o∈ns)=false:=decide_eq_false hxt;simp only[D]at N;have U:Hid (o∉ns):=hxt;clear r hxt D;go_wp2_with fail;refine N.V ?_;rintro e w2 ⟨rfl,h⟩;have e:Below wr.heap.size wr w2:=eT a Vv;have a:dZ w2 wr.heap.size #[.int .i64 o,.slice y J G,.slice z K I,.map C] 249:=(h.block _ Vw).J (dZ.new wr _ _);have⟨h,n⟩:=a.I;have⟨u0,u1,u2,u3,a,t,u,k,h⟩:=s.room m e;have h:i<l.length:=Vv;have a:wr.heap.size≠g:=Vv;have a:=s.stays4 d.o U.o e;go_wp2;go_roundw
     case rel=>
      refine⟨i+1,j+1,Vv,rfl,rfl,?_⟩;exact a.o
     case measure=>simp[intOf];omega
   .obtain rfl:j=l.length:=Vv;obtain⟨Z,H,M,T,Q,A⟩:=s;have T:Hid (i=(kt ns l).length):=by show i=_;rw[Z,ch (aE _)]
    clear Z;rw[ch (aE _),cu (aE _)]at Q
    obtain⟨f,d,a,j,e,k⟩:∃f,wr.heap[g]?=some (.cells f 249 (0,0))/\f.size=c*4/\c<=maxLen/\l.length<=c/\Hid (f.toList.take (i*4)=(kt ns l).flatMap eC):=by
     rcases Q.2 with⟨q,_⟩|⟨F,V,f,q,p,a,e,m,n,o⟩;.cases q
     .cases q;refine⟨f,a,n,m,e,?_⟩;show _=_;have t:f.toList.take (i*4)=(f.toList.take (l.length*4)).take (i*4):=by rw[List.take_take,Nat.min_eq_left Vv]
      have u:i*4=((kt ns l).flatMap eC).length:=by rw[oT,<-T.o]
      rw[t,o,bj,u,List.take_left]
    have e:∀a W,(Builtin.clear_ #[181] a #[.slice (some ⟨g,i*4,none⟩) (l.length-i) W]).run prog wr= .ok (.tuple #[]) (wr.setRow g (f.toList.take (i*4)++nB (l.length-i)++f.toList.drop (i*4+(l.length-i)*4)).toArray):=λa W=>vV wr a g (i*4) (l.length-i) W f Vv d Vv
    have h:i<l.length:=Vv;clear Q;go_wp2;go_ret;have a:(nB (l.length-i)).length=(l.length-i)*4:=by simp[nB,Builtin.zeroCells]
    refine⟨_,rfl,rfl,?_,jZ A (.inl rfl)⟩;rw[<-T.o];refine⟨by rw[oT,<-T.o],.inr ⟨g,c,_,rfl,aP _,setRow_heap _ _ _ _ _ _ d,Vv,j,?_,?_⟩⟩;.grind
    .have t:i*4=(f.toList.take (i*4)).length:=by grind
     have u:∀A B:List Value,A.length=i*4->(A++B).take (i*4)=A:=λA B h=>by rw[<-h,List.take_left]
     rw[List.toList_toArray,u _ _ t.sy];exact k.o
end
end
end Go.Proofs.YtfebdimolnobaaaGreatDoor
