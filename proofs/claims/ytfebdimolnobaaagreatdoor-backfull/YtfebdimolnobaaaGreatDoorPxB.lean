import Derived.Test.YtfebdimolnobaaaGreatDoorBuK
import Derived.Test.YtfebdimolnobaaaGreatDoorDfE
import Derived.Test.YtfebdimolnobaaaGreatDoorDfH
set_option maxRecDepth 100000
set_option maxHeartbeats 8000000
set_option linter.all false
namespace Go.Proofs.YtfebdimolnobaaaGreatDoor
open Go.RowKit Go.Proofs.Tryz
def me (b:d9):MT:=⟨b.name.1,b.parts.flatMap λp=>p.fields.map (ic p.oneof)⟩
def er (bs:List d9):eF:=⟨(gF bs).map me,(bs.filter λb=>b.enum).map λb=>b.name.1⟩
def Ao:∀(l:List (ap)) (s:ap) (k:Nat),l.contains s=false->Di l s k=none
 | [],s,k,_=>rfl
 |x::l,s,k,h=>by
  rw[bm,dv]at h;rw[Di,dQ (by simp_all)];exact Ao l s (k+1) h.2
def Ap:∀(l:List (ap)) (s:ap) (k:Nat),l.contains s=true->∃n,Di l s k=some n
 | [],s,k,h=>by grind
 |x::l,s,k,h=>by
  rw[Di];by_cases q:(s==x)=true;.simp_all
  .rw[dQ q];rw[bm,cO]at h;exact Ap l s (k+1) (h.resolve_left q)
def DI (t:au):∀(z:List (au×Nat)) (mp:an),(z.foldl (λmp x=>jF mp x.1 x.2) mp t).isSome=(fk (z.map (·.1)) t||(mp t).isSome)
 | [],mp=>VB
 |x::z,mp=>by
  rw[List.foldl_cons,DI t z];unfold jF fk gQ;grind
def sf (z:List (au×Nat))(t:au):(mR z t).isSome=fk (z.map (·.1)) t:=by
 unfold mR;rw[DI];simp
def jl (l:aA)(s:au):fk l s=true<->∃x∈l,x.toList=s.toList:=by
 unfold fk;simp
def Fp {bs:List d9}(f:DH bs){t:au}(h:fk (fL bs) t=true):fk ((bs.filter λb=>b.enum).map λb=>b.name.1) t= !(fk (el bs) t):=by
 have key:∀b∈bs,∀c∈bs,b.name.1.toList=t.toList->c.name.1.toList=t.toList->b.enum=c.enum:=(by intro b e c k a d;have⟨i,p⟩:=du e;have⟨j,q⟩:=du k;have l:=f.names;unfold fL at l;rw[cw,cg]at l;grind);have⟨x,o,g⟩:=(jl _ _).1 h;obtain⟨b,e,rfl⟩:=aS.1 o;cases he:b.enum
 .have a:fk (el bs) t=true:=(jl _ _).2 ⟨_,aS.2 ⟨b,bA.2 ⟨e,by grind⟩,rfl⟩,g⟩;rw[a];cases d:fk ((bs.filter λb=>b.enum).map λb=>b.name.1) t;.rfl
  .have⟨y,m,n⟩:=(jl _ _).1 d;grind
 .have a:fk ((bs.filter λb=>b.enum).map λb=>b.name.1) t=true:=(jl _ _).2 ⟨_,aS.2 ⟨b,bA.2 ⟨e,Vv⟩,rfl⟩,g⟩;rw[a];cases d:fk (el bs) t;.rfl
  .have⟨y,m,n⟩:=(jl _ _).1 d;obtain⟨c,k,rfl⟩:=aS.1 m;grind
def wE {bs:List d9}(a:DH bs){z:List (au×Nat)}(g:z.map (·.1)=el bs){t:au}(f:dX t=3\/(dX t=1/\fk (fL bs) t=true)):(er bs).base t=jC (mR z) t:=by
 unfold eF.base jC;by_cases h3:dX t=3;.rw[dR h3];have⟨n,i⟩:=Ap m9 t.toList 0 (nj h3);unfold ol;simp_all
 .rw[dQ h3];have⟨h,e⟩:=f.resolve_left h3
  have d:m9.contains t.toList=false:=by
   cases q:m9.contains t.toList;.rfl
   .exfalso;have c:=Dw t;rw[show jK t.toList=true from q]at c;simp_all
  rw[Ao _ _ _ d,sf,g];show(if fk ((bs.filter λb=>b.enum).map λb=>b.name.1) t then 15 else 16)=_;rw[Fp a e];cases fk (el bs) t<;>rfl
section
open VH
def PM.without (m:PM)(ns:ar):PM:= .mk (m.fs.filter λf=>decide (f.1∉ns)) m.unk
def vC (m:PM)(n:Int):m.without [n]=m.put n []:=by
 show PM.mk _ _=PM.mk (ik n [] true m.fs) m.unk;rw[mZ];simp
def ri (S:eF)(k:Nat)(T:Option MT)(w:aw)(Z:ax)(db:Nat)(m:PM)(nv:Value)(ns:ar)(h:eQ S (k+1) T w Z db m)(i:w.ownsRow 0 3 1 nv ns.length (gE ns))(s:ns.length<=2199023255000)(t:∀b,nv.ownBlock=some b->¬Z b):
  Calls prog 184 #[ah db,nv] w (kD S k T w Z db (m.without ns)):=by
 obtain⟨o,q,p,rfl⟩:=d7 i;obtain⟨sv,uv,l,Y,c,F⟩:=h;have⟨j,M⟩:=ec w #[.slice o q p] 35;have d:=c.O (λb _ a=>j.block b a);have O:=nA F (λb _ a=>j.block b a);have P:=eD i λb a=>j.block b (i.lt b a).2
 have Q:=c.c.row.lt;have W:=c.c.blk.lt;have E:=I6 _ sv l w.heap.size (.slice o q p) ns d.c.row d.c.form d.c.len M P s (λe=>by have:=(Q _ e).2;omega) (λb a e=>t b a (c.zs b e));obtain⟨J,L,K,rfl⟩:=d7 c.c.row;have⟨H,I⟩:=d.c.blk.I;have R:=c.yl;have f:w.heap.size<=(w.alloc (am #[.slice o q p] 35)).heap.size:=j.size;clear F;unfold ye at E;go_in
 go_wp2_with fail;generalize w.alloc (am #[.slice o q p] 35)=w0 at*;refine E.V ?_;rintro e w1 ⟨v',rfl,n,C,g⟩;obtain⟨v,z,y,rfl⟩:=d7 C;clear H I;have N:w1.heap[db]?=w0.heap[db]?:=g.block db d.c.blk.lt (λe=>c.c.ne e.sy);have B:dZ w1 db #[.slice J L K,uv] 183:=N.J d.c.blk;have⟨H,I⟩:=B.I;go_wp2;go_end0
 have r:∀b,b<w0.heap.size->b≠db->(Value.slice J L K).ownBlock≠some b->(w1.setCell (aj db 0) (.slice v z y)).heap[b]?=w0.heap[b]?:=λb a U V=>by
  rw[dY,dQ (λe=>U e.sy)];exact g.block b a (λe=>V e.sy)
 have D:(Value.slice v z y).ownBlock≠some db:=by rw[n];exact c.c.ne
 have f:fP w Z w0 Z:=(fP.refl w Z).G j;refine⟨rfl,Z,f.J ⟨g.os,g.tape,g.output,by simpa using g.size,λb a G=>r b a (λe=>G (e▸c.zd)) (λe=>G (c.zs b e)),λb a=> .inl a⟩,?_⟩;refine⟨.slice v z y,uv,kt ns l,Y,⟨⟨⟨B.set 0 _,?_,λx u=>c.c.form x (bA.1 u).1,c.c.srt.filter _,D,aM Ll c.c.len⟩,?_,c.zd,λb a=>c.zs b (n▸a),c.zu,λb a=>c.su b (n▸a),c.ud⟩,c.yz,?_,c.yd,λb a=>c.ys b (n▸a),c.yu⟩,?_⟩
 .refine eD C λb a=> ?_
  rw[dY,dQ (λe=>D (by rw[a,e]))]
 .exact eD d.un λb a=>r b (d.un.lt b a).2 (λe=>c.ud (e▸a)) (λe=>c.su b e a)
 .intro b a;have d:=R b a;have d:=g.size;simp;omega
 .refine nA ?_ (λb a X=>r b X (λe=>c.yd (e▸a)) (λe=>c.ys b e a));exact O.filter λx f A u=>by rw[yf,u.1]
def QY:(prog.info? 5).map (λi=>(i.zero,i.size,i.bytes))=some (some (.int .u8 0),1,1):=VA
def vW (w:aw)(ty:TypeId)(v:Value)(n:Nat)(xs:ay)(d:w.ownsRow 0 5 1 v n xs)(s:au)(m:n+s.size<=2^47):
  ∃v' w',(Builtin.append_ #[140,9] ty #[v,ag s]).run prog w= .ok v' w'/\w'.ownsRow 0 5 1 v' (n+s.size) (xs++Lib.strCells s)/\w.grownBy w' v.ownBlock/\∀b,v'.ownBlock=some b->v.ownBlock=some b\/w.heap.size<=b:=by
 have⟨e,h,o,i,p⟩:=info_parts QY;have l:prog.underlying 140=some (.slice 5):=underlying140;have f:prog.underlying 9=some .string:=underlying9;have x:n+s.size<=maxLen:=VC;rcases d.2 with⟨rfl,rfl⟩|⟨g,a,z,rfl,G,E,H,I,J,K⟩;.have⟨v',w',c,k,r,_⟩:=Lib.run_append_own_string (P:=prog) w w.heap.size 140 9 ty 5 e l f h o i p (ai) 0 xs (by have:=d.1;exact⟨this,.inl ⟨rfl,rfl⟩⟩) s x m (aE _);exact⟨v',w',c,pr k (aP _),r,λb m=> .inr (k.lt b m).1⟩
 .have⟨v',w',c,k,r,_⟩:=Lib.run_append_own_string (P:=prog) w 0 140 9 ty 5 e l f h o i p _ n xs d s x m (aP _);refine⟨v',w',c,k,r,λb y=> ?_⟩;by_cases hr:n+s.size<=a;.have:=Lib.run_append_room_string (P:=prog) w 140 9 ty 5 e l f h i g n a z E s hr Vv;rw[this]at c;cases c;exact .inl y
  .have hlen:xs.length=n*e.size:=by rw[i];exact d.1
   have:=Lib.run_append_grow_string (P:=prog) w 140 9 ty 5 e _ l f h o (aj g 0) n a xs hlen (λj u t=>(eJ d (by
    by_cases q:0<n;.exact q
    .have C:xs.length=0:=by rw[hlen];simp[show n=0 by omega]
     rw[bF C]at t;simp at t)).elim λF A=>by
     obtain⟨B,_,_,D⟩:=A;cases B
     rw[Addr.add_lit];simpa using D w rfl j u t) s Vv Vv (by rw[p];exact growslice_fits Vv Vv)
   rw[this]at c;cases c;exact .inr (by cases y;exact aE _)
def Ce (S:eF)(k:Nat)(T:Option MT)(w:aw)(Z:ax)(db:Nat)(m:PM)(s:au)(h:eQ S (k+1) T w Z db m)(p:m.unk.size+s.size<=2^47):
  Calls prog 135 #[ah db,ag s] w (kD S k T w Z db (m.O s)):=by
 obtain⟨sv,uv,l,Y,a,v⟩:=h;obtain⟨y,A,z,rfl⟩:=d7 a.un;have⟨v',w1,D,r,g,n⟩:=vW w 140 _ _ _ a.un s p;obtain⟨c,f,d,rfl⟩:=d7 r;have⟨N,O⟩:=a.c.blk.I;have C:w1.heap[db]?=w.heap[db]?:=g.block db a.c.blk.lt (λe=>a.ud e.sy);have t:dZ w1 db #[sv,.slice y A z] 183:=C.J a.c.blk;have⟨L,M⟩:=t.I
 have B:Hid (kD S k T w Z db (m.O s) (.returned (.tuple #[])) (w1.setCell (aj db 1) (.slice c f d))):=by
  have K:=a.c.blk.lt
  have o:∀b,b<w.heap.size->b≠db->(Value.slice y A z).ownBlock≠some b->(w1.setCell (aj db 1) (.slice c f d)).heap[b]?=w.heap[b]?:=λb i I J=>by
   rw[dY,dQ (λe=>I e.sy)];exact g.block b i (λe=>J e.sy)
  have u:(Value.slice c f d).ownBlock≠some db:=λe=>(n db e).elim a.ud (λq=>Vv)
  have E:∀b,(Value.slice c f d).ownBlock=some b->¬Y b:=λb e q=>(n b e).elim (λe=>a.yu b e q) (λe=>by have:=a.yl b q;omega)
  have F:∀b,sv.ownBlock=some b->(Value.slice c f d).ownBlock≠some b:=λb e q=>(n b q).elim (a.su b e) (λq=>by have:=(a.c.row.lt b e).2;omega)
  have j:w.heap.size<=(w1.setCell (aj db 1) (.slice c f d)).heap.size:=by simpa using g.size
  refine⟨rfl,λb=>Z b\/(Value.slice c f d).ownBlock=some b,⟨g.os,g.tape,g.output,j,λb i x=>o b i (λe=>x (e▸a.zd)) (λe=>x (a.zu b e)),λb i=>i.elim .inl (λe=>(n b e).imp (a.zu b) id)⟩,?_⟩;refine⟨sv,.slice c f d,l,Y,⟨⟨⟨t.set 1 _,?_,a.c.form,a.c.srt,a.c.ne,a.c.len⟩,?_,.inl a.zd,λb e=> .inl (a.zs b e),λb e=> .inr e,F,u⟩,λb q=> .inl (a.yz b q),λb q=>aI (a.yl b q) j,a.yd,a.ys,E⟩,?_⟩;.exact eD a.c.row λb e=>o b (a.c.row.lt b e).2 (λq=>a.c.ne (q▸e)) (a.su b e)
  .have G:(m.O s).unk=m.unk++s:=rfl;have H:Lib.strCells (m.unk++s)=Lib.strCells m.unk++Lib.strCells s:=(by unfold Lib.strCells;rw[ByteArray.data_append,Array.toList_append,bI]);rw[G,bJ,H];exact eD r λb e=>by rw[dY,dQ (λq:db=b=>u (by rw[q];exact e))]
  .exact nA v λb q p=>o b p (λe=>a.yd (e▸q)) (λe=>a.yu b e q)
 clear a v;go_in
 go_wp2_with (at_builtin;refine Lib.wpList_append_run _ rfl _ _ _ _ rfl _ _ rfl rfl _ _ D ?_)
 go_end0;exact B.o
def Hl (S:eF)(k:Nat)(T:Option MT)(w:aw)(Z:ax)(db:Nat)(m:PM)(n:Int)(v:LV)(h:eQ S (k+1) T w Z db m)(s:oO S T n .vals)(r:(∀kd,oO S T n kd->kd= .vals)\/∀f∈m.fs,f.1≠n)(E:m.fs.length<2199023255000)(D:∀b,Z b->b<w.heap.size):
  Calls prog 193 #[ah db,aa n,wN v] w (kD S k T w Z db (if v.1=0/\gQ v.2 eS=true then m.put n []else m.put n [re v])):=by
 have⟨j,z⟩:=ec w #[.int .u64 v.1,ag v.2,ai,Vp] 55;have⟨F,G⟩:=z.I;have y:=h.O (λb _ g=>j.block b g);have d:=Cb S k T _ Z db m n v y s r E;have l:∀{m':PM} {e:Ending} {w':aw},kD S k T (w.Vn #[.int .u64 v.1,ag v.2,ai,Vp] 55) Z db m' e w'->kD S k T w Z db m' e w':=λ⟨t,p,u,x⟩=>⟨t,p,((fP.refl w Z).G j).J u,x⟩
 have A:dZ _ (w.heap.size+1) _ _:=dZ.new1 w (am #[.int .u64 v.1,ag v.2,ai,Vp] 55) #[aa n] 3
 have i:=ri S k T ((w.alloc (am #[.int .u64 v.1,ag v.2,ai,Vp] 55)).alloc (am #[aa n] 3)) Z db m (Vr (w.heap.size+1) 1 1) [n] (y.O (λb _ g=>Below.l _ _ b g)) ⟨rfl,.inr ⟨w.heap.size+1,1,#[aa n],rfl,aP _,A,Vw,by simp[maxLen],rfl,rfl⟩⟩ Vw (λb g a=>by
  have:w.heap.size+1=b:=by simpa [Value.ownBlock]using g
  have:=D b a
  omega)
 rw[vC]at i;have o:∀{m':PM} {e:Ending} {w':aw},kD S k T ((w.Vn #[.int .u64 v.1,ag v.2,ai,Vp] 55).Vn #[aa n] 3) Z db m' e w'->kD S k T w Z db m' e w':=λ⟨t,p,u,x⟩=>⟨t,p,(((fP.refl w Z).G j).alloc _).J u,x⟩
 by_cases a:v.1=0
 .have C:(v.1==0)=true:=by simp[a]
  by_cases hs:gQ v.2 eS=true
  .have B:(v.2.toList== [])=true:=by rw[<-show eS.toList= []from by decide+kernel];exact hs
   rw[dR ⟨a,hs⟩];clear a hs d l;unfold wN;go_in
   go_wp2_with fail;refine i.V ?_;rintro e w1 c;obtain rfl:=c.1;go_wp2;go_end0;exact o c
  .have B:(v.2.toList== [])=false:=by rw[<-show eS.toList= []from by decide+kernel];exact cn.2 hs
   rw[dQ (λq=>hs q.2)];clear a hs i o;unfold wN at d⊢;go_in
   go_wp2_with fail;refine d.V ?_;rintro e w1 c;obtain rfl:=c.1;go_wp2;go_end0;exact l c
 .have C:(v.1==0)=false:=by simp[a]
  rw[dQ (λq=>a q.1)];clear a i o;unfold wN at d⊢;go_in
  go_wp2_with fail;refine d.V ?_;rintro e w1 c;obtain rfl:=c.1;go_wp2;go_end0;exact l c
def eQ.forget {S:eF}:∀{k:Nat} {T:Option MT} {w:aw} {Z:ax} {db:Nat} {m:PM},eQ S k T w Z db m->eQ S k none w Z db m
 |0,_,_,_,_,_,h=>h
 |k+1,T,w,_,_,_,⟨sv,uv,l,Y,hy,hs⟩=>⟨sv,uv,l,Y,hy,hs.imp λx f A _ _ _ h=>by
   obtain⟨c,d⟩:=h;refine⟨c,?_⟩;have a:∀n kd,oO S none n kd:=λ_ _ _ _ e=>by cases e
   rcases d with⟨_,lv,h⟩|⟨_,b,B,h⟩|⟨t,_,g,b,B,h⟩;.exact .inl ⟨a _ _,lv,h⟩
   .exact .inr (.inl ⟨a _ _,b,B,{h with lone:=(λ⟨_,_,e,_⟩=>by cases e),sub:=h.sub.imp λp v C _ _ _ q=>⟨q.1,eQ.forget q.2⟩}⟩)
   .exact .inr (.inr ⟨t,a _ _,g,b,B,h⟩)⟩
end
end Go.Proofs.YtfebdimolnobaaaGreatDoor
