import Derived.Test.YtfebdimolnobaaaGreatDoorCkC
import Derived.Test.YtfebdimolnobaaaGreatDoorRefA
set_option maxRecDepth 100000
set_option maxHeartbeats 8000000
set_option linter.all false
namespace Go.Proofs.YtfebdimolnobaaaGreatDoor
open Go.RowKit Go.Proofs.Tryz
section
open Go.Maps
attribute [local go_sem] jk jm jn
open Tq
def eQ.get {w:aw}{S:ax}:∀{bs:List dS} {cs:ay} {i:Nat} {b:dS},eQ w S cs bs->bs[i]?=some b->∃pa pn pc va vn vc,
   cs[i*6+0]?=some (.bool b.enum)/\cs[i*6+1]?=some (aa (dN b.name.1))/\cs[i*6+2]?=some (ae b.name.1)/\cs[i*6+3]?=some (aa b.name.2)/\cs[i*6+4]?=some (.slice pa pn pc)/\cs[i*6+5]?=some (.slice va vn vc)/\jP w S b (.slice pa pn pc) (.slice va vn vc)
 | [],_,_,_,_,h=>by simp at h
 |q::bs,cs,0,b,⟨pa,pn,pc,va,vn,vc,rest,h1,h2,h3⟩,h=>by
  simp at h;subst h h1
  exact⟨pa,pn,pc,va,vn,vc,rfl,rfl,rfl,rfl,rfl,rfl,h2⟩
 |q::bs,cs,i+1,b,⟨pa,pn,pc,va,vn,vc,rest,h1,h2,h3⟩,h=>by
  subst h1;obtain⟨g,a,c,d,e,f,j,k,l,m,n,o,p⟩:=eQ.get h3 (i:=i) (by simpa using h);refine⟨g,a,c,d,e,f,?_,?_,?_,?_,?_,?_,p⟩;.rw[show(i+1)*6+0=(i*6+0)+1+1+1+1+1+1 from by omega];simpa using j
  .rw[show(i+1)*6+1=(i*6+1)+1+1+1+1+1+1 from by omega];simpa using k
  .rw[show(i+1)*6+2=(i*6+2)+1+1+1+1+1+1 from by omega];simpa using l
  .rw[show(i+1)*6+3=(i*6+3)+1+1+1+1+1+1 from by omega];simpa using m
  .rw[show(i+1)*6+4=(i*6+4)+1+1+1+1+1+1 from by omega];simpa using n
  .rw[show(i+1)*6+5=(i*6+5)+1+1+1+1+1+1 from by omega];simpa using o
structure oU (b:dS):Prop where
 name:b.name.1.size<=2000
 vals:b.values.length<=2001
 vnum:∀v∈b.values,jL v.2.1
 parts:lk b.parts<=2001
 fnum:∀p∈b.parts,∀f∈p.fields,jL f.num.1
def fD (types:aA):aA->Nat->List dS->Except Nat Unit
 |_,_,[]=> .ok ()
 |names,m,b::bs=>
  if gE names b.name.1 then .error b.name.2
  else if b.enum then
   match jq [] b.values with
   | .error p=> .error p
   | .ok _=>fD types (names++ [b.name.1]) m bs
  else if decide (6<m+1)then .error b.name.2
  else
   match gF types [] [] b.parts with
   | .error p=> .error p
   | .ok _=>fD types (names++ [b.name.1]) (m+1) bs
def eZ (bs:List dS):aA:=bs.map λb=>b.name.1
def SF (w:aw)(ta:aC)(tn tc:Nat)(bs:List dS)(cs:ay)(S:ax)(a:d5 w S 152 6 (.slice ta tn tc) bs.length cs)(m:eQ w S cs bs)(hlen:bs.length<=2001)(n:∀b∈bs,oU b):
  Calls prog 120 #[.agg #[.slice ta tn tc]] w λe w'=>e= .returned (.map (some (w.heap.size+1)))/\eW w' (w.heap.size+1) (eZ bs)/\aj w w':=by
 have L:=d9 a.1;subst L;have c:= @run_makeMap prog;have v:aj w ((w.alloc (ak #[.slice ta bs.length tc] 87)).alloc (Obj.map #[] 0)):=(Tc w _).alloc Tf _;have z:eW ((w.S6 #[.slice ta bs.length tc] 87).alloc (Obj.map #[] 0)) (w.heap.size+1) []:=(by have:=World.ownsMap_made (w.S6 #[.slice ta bs.length tc] 87) prog 9 (unitElem (H:=Unit));simpa [eW,setOf]using this);go_in
 go_wp2;go_loopw [10] (λi wr=>∃(k:Nat),k<=bs.length/\i=aa k/\eW wr (w.heap.size+1) (eZ (bs.take k))/\aj w wr) (λi _=>bs.length-(intOf i).toNat)
 case atStart=>exact⟨0,aM _,rfl,z,v⟩
 case round=>
  clear z v;obtain⟨k,c,rfl,f,d⟩:=hrel;by_cases hlt:k<bs.length
  .obtain⟨b,h⟩:=gx hlt;have O:=n b (aO h);obtain⟨g,rfl,_,M,A⟩:=dV a.1 Te;obtain⟨p,r,q,s,u,t,o,B,C,D,E,F,K⟩:=m.get h;have c:=A wr (d.block g M);rw[Nat.add_zero]at o;have R:=c _ _ o;have T:=c _ _ B;have U:=c _ _ C;have V:=c _ _ D;have W:=c _ _ E;have X:=c _ _ F;have Z:=dP.new wr #[.bool b.enum,aa (dN b.name.1),ae b.name.1,aa b.name.2,.slice p r q,.slice s u t] 152;have y:=d.alloc d.size (ak #[.bool b.enum,aa (dN b.name.1),ae b.name.1,aa b.name.2,.slice p r q,.slice s u t] 152);clear A c o B C D E F;have j:Hid (eZ (bs.take (k+1))=eZ (bs.take k)++ [b.name.1]):=(by unfold Hid eZ;rw[bu,h];simp);have J:eW (wr.S6 #[.bool b.enum,aa (dN b.name.1),ae b.name.1,aa b.name.2,.slice p r q,.slice s u t] 152) (w.heap.size+1) (eZ (bs.take k)):=f.O (Below.l _ _ _ f.lt);have N:(eZ (bs.take k)).length<maxLen:=(by unfold eZ maxLen;rw[bm,bG];omega);have l:b.name.1.size<=maxLen:=by have:=O.name;unfold maxLen;omega
   clear h K;go_wp2_with fail;clear R T U V W X;refine(Sa _ (w.heap.size+1) _ b.name.1 J N l).V ?_;rintro e Y ⟨rfl,P,I⟩;have G:aj w Y:=y.J (I.to_below y.size (by intro x Q;simp at Q;omega));go_wp2;go_roundw
   case rel=>exact⟨k+1,Te,by go_num,by rw[j.o];exact P,G⟩
   case measure=>simp[intOf];omega
  .have j:Hid (bs.take k=bs):=ck Te;go_wp2;go_ret;refine⟨rfl,?_,d⟩;rw[j.o]at f;exact f
def SG (w:aw)(ta:aC)(tn tc:Nat)(bs:List dS)(cs:ay)(S:ax)(f:d5 w S 152 6 (.slice ta tn tc) bs.length cs)(K:eQ w S cs bs)(hlen:bs.length<=2001)(L:∀b∈bs,oU b)(n:GOK w):
  Calls prog 71 #[.agg #[.slice ta tn tc]] w λe w'=>At (fD (eZ bs) [] 0 bs) e/\aj w w':=by
 have a:=d9 f.1;subst a;have a:= @run_makeMap prog;obtain⟨d,X⟩:=eY w #[.slice ta bs.length tc] 87;have k:d5 (w.S6 #[.slice ta bs.length tc] 87) S 152 6 (.slice ta bs.length tc) bs.length cs:=f.O (λb _ j=>Below.l _ _ _ j);have i:eQ (w.S6 #[.slice ta bs.length tc] 87) S cs bs:=K.O (λb _ j=>Below.l _ _ _ j);obtain⟨types,a⟩:∃t,Hid (eZ bs=t):=⟨_,rfl⟩;rw[a.o];generalize hr:fD types [] 0 bs=r;have h:Hid (fD types [] 0 bs=r):=hr;clear hr;go_in
 go_wp2_with fail;refine(SF _ ta bs.length tc bs cs S k i hlen L).V ?_;rw[a.o];rintro e w2 ⟨rfl,Q,a⟩;have U:aj w w2:=d.J (a.V Tf);have m:=(X.G a X.lt).alloc (Obj.map #[] 0);have c:w.heap.size+1+1<w2.heap.size:=by have:=Q.lt;simp at this;omega
 have c:eW (w2.alloc (Obj.map #[] 0)) (w.heap.size+1+1) types:=(by have:=Q.O (w':=(w2.alloc (Obj.map #[] 0))) (Below.l _ _ _ Q.lt);simpa using this);have g:=c.lt;have g:aj w (w2.alloc (Obj.map #[] 0)):=U.alloc U.size _;have l:eW (w2.alloc (Obj.map #[] 0)) w2.heap.size []:=(by have:=World.ownsMap_made w2 prog 9 (unitElem (H:=Unit));simpa [eW,setOf]using this);have p:∀o,(w.alloc o).heap.size=w.heap.size+1:=Tf;obtain⟨y,z⟩:=m.I;clear X k i Q a d U;go_wp2;clear y z;go_loopw [4,13] (λm i wr=>∃(k a:Nat) (names:aA),k<=bs.length/\i=aa k/\m=aa a/\a<=k/\names.length<=k/\Hid (fD types names a (bs.drop k)=r)/\eW wr w2.heap.size names/\eW wr (w.heap.size+1+1) types/\aj w wr) (λ_ i _=>bs.length-(intOf i).toNat)
 case atStart=>exact⟨0,0,[],aM _,rfl,rfl,aD _,Tf,h,l,c,g⟩
 case round=>
  clear l c g h;obtain⟨k,a,names,g,rfl,rfl,c,d,V,N,W,M⟩:=hrel;by_cases hlt:k<bs.length
  .obtain⟨b,j⟩:=gx hlt;have R:=L b (aO j);have h:bs.drop k=b::bs.drop (k+1):=(by rw[aS hlt];rw[aP hlt]at j;rw[Option.some.inj j]);have v:Hid (fD types names a (b::bs.drop (k+1))=r):=by rw[<-h];exact V
   obtain⟨g,rfl,_,x,d⟩:=dV f.1 Te;obtain⟨A,C,B,q,u,s,c,f,m,o,p,t,i⟩:=K.get j;have l:=d wr (M.block g x);rw[Nat.add_zero]at c;have x:=l _ _ c;have D:=l _ _ f;have F:=l _ _ m;have G:=l _ _ o;have H:=l _ _ p;have I:=l _ _ t;have Y:=dP.new wr #[.bool b.enum,aa (dN b.name.1),ae b.name.1,aa b.name.2,.slice A C B,.slice q u s] 152;have E:=M.alloc M.size (ak #[.bool b.enum,aa (dN b.name.1),ae b.name.1,aa b.name.2,.slice A C B,.slice q u s] 152);clear d l c f m o p t;have g:eW (wr.S6 #[.bool b.enum,aa (dN b.name.1),ae b.name.1,aa b.name.2,.slice A C B,.slice q u s] 152) w2.heap.size names:=N.O (Below.l _ _ _ N.lt);have d:eW (wr.S6 #[.bool b.enum,aa (dN b.name.1),ae b.name.1,aa b.name.2,.slice A C B,.slice q u s] 152) (w.heap.size+1+1) types:=W.O (Below.l _ _ _ W.lt);have c:=N.lt;clear j h V N W;go_wp2_with fail;clear x D F G H I;refine(Rk _ w2.heap.size names _ _ _ g Te).V ?_;cases h1:gE names b.name.1;rotate_left
   .rintro e D ⟨rfl,c⟩;obtain rfl:r= .error b.name.2:=by rw[<-v.o,fD];simp only[h1,if_true]
    unfold dX;go_wp2;exact⟨rfl,rfl,E.J (c.V E.size)⟩
   rintro e D ⟨rfl,T,Z⟩;have h:aj w D:=E.J (Z.to_below E.size (by intro x c;simp at c;omega));have O:dP D wr.heap.size #[.bool b.enum,aa (dN b.name.1),ae b.name.1,aa b.name.2,.slice A C B,.slice q u s] 152:=(Z.block _ Y.lt Tg).J Y;have P:eW D (w.heap.size+1+1) types:=d.O (Z.block _ d.lt Tg);have l:=i.O (w':=D) (λc _ G=>h.block c G);have f:GOK D:=n.O (h.block _ n.lt);have j:=O.lt;obtain⟨j,m,o,t⟩:=l;clear Y g d E i;obtain⟨y,z⟩:=O.I;cases hen:b.enum
   .cases h3:decide (6<a+1);rotate_left
    .have g:(6:Int)<(a:Int)+1:=by have:=dI h3;omega
     obtain rfl:r= .error b.name.2:=by rw[<-v.o,fD];simp only[h1,hen,h3,aN,if_true,if_false]
     go_wp2_with fail;refine(ki _ _ b.name.1 b.name.2).V ?_;rintro e I ⟨rfl,d⟩;unfold dX;go_wp2;exact⟨rfl,rfl,h.J (d.V h.size)⟩
    have g:decide ((6:Int)<(a:Int)+1)=false:=by have:=of_decide_eq_false h3;simp;omega
    go_wp2_with fail;refine(rM _ _ b.name.1 b.name.2).V ?_;rintro e I ⟨rfl,d⟩;clear y z g;have J:=h.J (d.V h.size);have n:=O.G d O.lt;have g:=P.O (d.block _ P.lt);have i:=T.O (d.block _ T.lt);have l:=m.O (w':=I) (λc _ G=>d.block c G);have m:=o.O (w':=I) (λc _ G=>d.block c G);have c:=f.O (d.block _ f.lt);obtain⟨y,z⟩:=n.I;go_wp2_with fail;clear y z;refine(SE _ (w.heap.size+1+1) types _ _ _ _ A C B q u s b.parts j S l m g R.parts R.fnum c).V ?_
    cases h2:gF types [] [] b.parts with
    |error p=>
     rintro e w6 ⟨n,F⟩;obtain rfl:e=dX 3 p:=n;obtain rfl:r= .error p:=by rw[<-v.o,fD];simp only[h1,hen,h2,h3,aN,if_false]
     unfold dX;go_wp2
     exact⟨rfl,rfl,J.J (F.V J.size)⟩
    |ok j=>
     rintro e w6 ⟨n,F⟩;obtain rfl:e= .returned (.tuple #[]):=n;have c:Hid (fD types (names++ [b.name.1]) (a+1) (bs.drop (k+1))=r):=(by have:=v.o;rw[fD]at this;simp only[h1,hen,h2,h3,aN,if_false]at this;exact this);go_wp2;go_roundw
     case rel=>exact⟨k+1,a+1,names++ [b.name.1],Te,by go_num,by go_num,Te,Tg,c,i.O (F.block _ i.lt),g.O (F.block _ g.lt),J.J (F.V J.size)⟩
     case measure=>simp[intOf];omega
   .go_wp2_with fail;clear y z;refine(SD _ _ _ _ _ _ _ _ q u s b.values t.1 R.vals R.vnum f).V ?_
    cases h2:jq [] b.values with
    |error p=>
     rintro e I ⟨n,d⟩;obtain rfl:e=dX 3 p:=n;obtain rfl:r= .error p:=by rw[<-v.o,fD];simp only[h1,hen,h2,aN,if_true,if_false]
     unfold dX;go_wp2
     exact⟨rfl,rfl,h.J (d.V h.size)⟩
    |ok j=>
     rintro e I ⟨n,d⟩;obtain rfl:e= .returned (.tuple #[]):=n;have c:Hid (fD types (names++ [b.name.1]) a (bs.drop (k+1))=r):=(by have:=v.o;rw[fD]at this;simp only[h1,hen,h2,aN,if_true,if_false]at this;exact this);go_wp2;go_roundw
     case rel=>exact⟨k+1,a,names++ [b.name.1],Te,by go_num,rfl,Te,Tg,c,T.O (d.block _ T.lt),P.O (d.block _ P.lt),h.J (d.V h.size)⟩
     case measure=>simp[intOf];omega
  .have a:bs.drop k= []:=by rw[ci];omega
   obtain rfl:r= .ok ():=by rw[<-V.o,a];rfl
   clear a;go_wp2;go_end0;exact⟨rfl,M⟩
end
section
open Tq
def py {α:Type}(w:aw)(rb:Nat)(s:au)(deep:Int)(r:Fx (α×Nat))(V:α->Value)(e:Ending)(w':aw):Prop:=
 dY [rb] w w'/\(match r with
 | .error x=>e=dX x.1 x.2
 | .ok x=>e= .returned (V x.1)/\d6 w' rb s x.2 deep)
def dY.set1 {bs:aB}{a b:aw}(h:dY bs a b){c:Nat}(d:c∈bs)(off:Nat)(u:Value):dY bs a (b.setCell (ai c off) u):=
 h.J ⟨rfl,rfl,rfl,Tf,λk _ f=>by
  rw[dM,dG];intro e;rw[e]at d
  exact f d⟩
def O7:∀c:Fin 256,bits .andNot .u8 ((c.val:Nat):Int) 128=((c.val%128:Nat):Int)/\(bits .and .u8 ((c.val:Nat):Int) 128==0)=decide (c.val<128):=Ti
def FH {c:Int}(a:0<=c)(h1:c<256):bits .andNot .u8 c 128=c%128/\(bits .and .u8 c 128==0)=decide (c<128):=by
 obtain⟨n,rfl⟩:=bS a;have:=O7 ⟨n,Te⟩;refine⟨?_,?_⟩;.rw[this.1];simp
 .rw[this.2,bV];simp;omega
def MQ {n x:Int}{k:Nat}(c:0<=n)(h1:n<2^k)(g:0<=x)(d:n+x*2^k<2^64):bits .or .u64 n (x*2^k)=n+x*2^k:=by
 obtain⟨a,rfl⟩:=bS c;obtain⟨b,rfl⟩:=bS g;have e:((b:Int)*2^k)=((b*2^k:Nat):Int):=by push_cast;rfl
 rw[e]at d⊢;have f:a<2^k:=by exact_mod_cast h1
 rw[bits_or_u64_nat a (b*2^k) Te Te,Nat.or_comm,<-Nat.shiftLeft_eq,<-Nat.shiftLeft_add_eq_or_of_lt f,Nat.shiftLeft_eq]
 push_cast
 omega
def d6.drewN {w:aw}{rb:Nat}{s:au}{a:Nat}{deep:Int}(h:d6 w rb s a deep)(q:Nat):d6 (w.drewN q) rb s a deep:=h
def mx (w:aw)(rb:Nat)(s:au)(a:Nat)(deep:Int)(h:d6 w rb s a deep)(hs:s.size<=2^47):
  Calls prog 182 #[ag rb] w (py w rb s deep (j8 s a s.size) (Value.int .u64)):=by
 obtain⟨r,E⟩:∃r,Hid (j8 s a s.size=r):=⟨_,rfl⟩;rw[E.o];have⟨C,D⟩:=dP.I h;go_in
 go_wp2;clear C D;go_loopw [4,5] (λv L wr=>∃(i:Nat) (n:Int),i<=9/\v= .int .u64 n/\L=aa ((7*i:Nat):Int)/\0<=n/\n<2^(7*i)/\Hid (wL s a s.size (10-i) i n=r)/\d6 wr rb s (a+i) deep/\dY [rb] w wr) (λ_ L _=>63-(intOf L).toNat)
 case atStart=>exact⟨0,0,Te,rfl,rfl,Te,Tf,E,h,dY.refl _ _⟩
 case round=>
  clear E;obtain⟨i,n,hi,rfl,rfl,T,U,b,o,M⟩:=hrel;have hrl:=dP.lt o;obtain⟨m,A⟩:∃m,10-i=m+1:=⟨9-i,Te⟩;have d:Hid (n<2^(7*i)):=U;clear U;by_cases hlt:a+i<s.size
  .have H:=gX (t:=s) (k:=a+i) hlt;have N:=iy s (a+i);obtain⟨c,p⟩:=Td (fR s (a+i));have g:Hid (fR s (a+i)=c):=p;rw[p]at H N;clear p;obtain⟨K,V⟩:=N;obtain⟨z,B⟩:=Td (a+i);have j:Hid (a+i=z):=B;rw[B]at o hlt;have W:(s[z].toNat:Int)=c:=by simp only[<-B];exact H
   clear B H;go_wp2_with fail;refine(tN _ _ _ _ _ o).V ?_;rintro e w2 ⟨rfl,q,rfl⟩;rw[decide_eq_true hlt];have O:=o.drewN q;have Y:=M.drewN q;generalize wr.drewN q=wq at*;have hzl:(z:Int)<(s.size:Int):=Te;have⟨C,D⟩:=dP.I O;go_upto_region 6 with fail
   go_quiet (fail);have u:d6 (wq.drewN nq) rb s z deep:=O.drewN nq;have x:=Y.drewN nq;generalize wq.drewN nq=w3 at*;clear C D;have⟨C,D⟩:=dP.I u;by_cases h9:i=9/\1<c;.obtain⟨rfl,R⟩:=h9;have f:Hid (r= .error (7,(a:Int))):=(by have:=b.o;rw[A,wL,dH (by have:=j.o;omega),dH ⟨rfl,by rw[g.o];exact R⟩]at this;exact this.sy);clear d b;go_wp2_with fail;refine(IM _ _ _).V ?_;rintro e w4 ⟨rfl,rfl⟩;go_wp2;rw[f.o];exact⟨rfl,x,rfl⟩
   .have P:¬(7*(i:Int)==63)=true\/¬1<c:=by
     by_cases h:i=9;.exact .inr (λp=>h9 ⟨h,p⟩)
     .exact .inl Tg
    have y:=AH (i:=i) (c:=c) T d.o;have Q:Hid (n+c%128*2^(7*i)<2^(7*(i+1))):=y.2;have I:=y.1;have l:0<=c%128:=Int.emod_nonneg _ Th;have J:0<=c%128*2^(7*i):=Int.mul_nonneg l (Int.le_of_lt (Int.pow_pos Th))
    have G:n+c%128*2^(7*i)<2^64:=by
     by_cases h:i=9
     .subst h;have h1:=d.o;have R:¬1<c:=λh=>h9 ⟨rfl,h⟩
      have:c%128=c:=Int.emod_eq_of_lt K Te;rw[this];simp only[Nat.reduceMul,Int.reducePow]at*;omega
     .have h2:(2:Int)^(7*(i+1))<=2^63:=wS Te;have h1:=y.2;omega
    have F:Hid (bits BinOp.or IntKind.u64 n (IntKind.u64.wrap (IntKind.u64.wrap (bits BinOp.andNot IntKind.u8 c 128)*2^(7*i)))=n+c%128*2^(7*i)):=(by have Z:=gL l Te;have TL:=gL J Te;show bits BinOp.or IntKind.u64 n (IntKind.u64.wrap (IntKind.u64.wrap (bits BinOp.andNot IntKind.u8 c 128)*2^(7*i)))=n+c%128*2^(7*i);rw[(FH K V).1,Z,TL];exact MQ T d.o l G);have S:=(FH K V).2;clear y;by_cases hc8:c<128
    .have f:Hid (r= .ok (n+c%128*2^(7*i),z+1)):=(by have:=b.o;rw[A,wL,dH (by have:=j.o;omega),dG (by rw[g.o];exact h9),g.o,dH hc8,j.o]at this;exact this.sy);rw[decide_eq_true hc8]at S;clear b d Q I l J G;cases TM:(7*(i:Int)==63);.go_wp2;go_ret;rw[f.o,<-F.o];exact⟨x.set1 Tf _ _,rfl,by unfold d6;simpa using dP.set u 1 (aa ((z:Int)+1))⟩
     .have X:decide ((1:Int)<c)=false:=by rcases P with h|h<;>simp_all
      go_wp2;go_ret;rw[f.o,<-F.o];exact⟨x.set1 Tf _ _,rfl,by unfold d6;simpa using dP.set u 1 (aa ((z:Int)+1))⟩
    .have hi8:i<9:=by
      by_cases h:i=9;.exact absurd ⟨h,Te⟩ h9
      .omega
     have TM:(7*(i:Int)==63)=false:=Tg;have TN:Hid (wL s a s.size (10-(i+1)) (i+1) (n+c%128*2^(7*i))=r):=(by have:=b.o;rw[A,wL,dH (by have:=j.o;omega),dG (by rw[g.o];exact h9),g.o,dG hc8]at this;rw[show 10-(i+1)=m from by omega];exact this);rw[decide_eq_false hc8]at S;have TO:Hid (0<=n+c%128*2^(7*i)):=I;clear b d I l J G P;go_wp2;refine⟨⟨i+1,n+c%128*2^(7*i),Te,by rw[F.o],by congr 1,TO.o,Q.o,TN,?_,x.set1 Tf _ _⟩,by simp[intOf];omega⟩;have e1:((a+(i+1):Nat):Int)=(z:Int)+1:=by have:=j.o;omega
     unfold d6;rw[e1];simpa using dP.set u 1 (aa ((z:Int)+1))
  .have f:Hid (r= .error (6,(a:Int))):=(by have:=b.o;rw[A,wL,dG hlt]at this;exact this.sy);clear d b;go_wp2_with fail;refine(tN _ _ _ _ _ o).V ?_;rintro e w2 ⟨rfl,q,rfl⟩;rw[decide_eq_false hlt];go_wp2_with fail;refine(IM _ _ _).V ?_;rintro e w4 ⟨rfl,rfl⟩;go_wp2;rw[f.o];exact⟨rfl,M.drewN q,rfl⟩
end
def gT (so:Int)(s x:au):Bool:=
 if so=0 then x.toList==s.toList&& !(s.toList== [])else if so=1 then dN x==1 else if so=2 then dN x==2 else dN x==3||dN x==1
def sW (so:Int)(s:au)(x:W):W:=if gT so s x.1 then x else(⟨#[]⟩,x.2)
def mA (so:Int)(s:au)(x:W)(i:Nat):Nat:=if gT so s x.1 then i+1 else i
def mB (so:Int)(s:au)(x:W)(bad:Int):Int:=if gT so s x.1 then bad else if bad<0 then x.2 else bad
def sX (x:W):Value:= .agg #[ae x.1,aa x.2]
def dP.new1 (w:aw)(o:Obj)(cs:aq)(T:TypeId):dP ((w.alloc o).alloc (.cells cs T)) (w.heap.size+1) cs T:=by
 have h:=dP.new (w.alloc o) cs T;have e:(w.alloc o).heap.size=w.heap.size+1:=Tf;rw[e]at h;exact h
def dY.sets {bs:aB}{a:aw}{c:Nat}(d:c∈bs\/a.heap.size<=c):∀(vs:ay) (o:Nat) {b:aw},dY bs a b->dY bs a (b.setCells c o vs)
 | [],_,_,h=>h
 |v::vs,o,b,h=>by
  have g:dY bs a (b.setCell (ai c o) v):=by
   refine⟨h.os,h.tape,h.output,by simpa [World.setCell]using h.size,λk i f=> ?_⟩;rw[Below.heap_setCell _ _ _ _ (λe=> ?_)];.exact h.block k i f
   .rcases d with d|d;.exact f (e▸d)
    .simp at e;omega
  have:=dY.sets d vs (o+1) g;simpa [World.setCells]using this
def SN (w:aw)(rb lo:Nat)(wv c3 c4 c5 c6 c7:Value)(i:Nat)(bad:Int)(ws:List W)(x:W)(so:Int)(q:so=0\/so=1\/so=2\/so=3)(s:au)(hlen:ws.length<=2001)
  (K:dP w rb #[wv,aa i,aa bad,c3,c4,c5,c6,c7] 100) (p:w.ownsRow lo 102 2 wv ws.length (ws.flatMap Cy)) (F:ws[i]?=some x):
  Calls prog 74 #[ag rb,aa so,ae s] w λe w'=>e= .returned (sX (sW so s x))/\
   dP w' rb #[wv,aa (mA so s x i),aa (mB so s x bad),c3,c4,c5,c6,c7] 100/\dY [rb] w w':=by
 obtain⟨R,T,S,rfl⟩:=dO p;obtain⟨rfl,E,g,rfl,C,v⟩:=ol p F;have y:(w.S6 #[S8,aa 0] 102).heap[g]?=w.heap[g]?:=Below.l _ _ _ C;have⟨J,L⟩:=v _ y;have B:(i:Int)<(ws.length:Int):=Te;have u:=dP.new w #[S8,aa 0] 102;have r:=K.alloc (ak #[S8,aa 0] 102);have M:=K.lt;have⟨G,H⟩:=r.I;have t:dY [rb] w (w.S6 #[S8,aa 0] 102):=(dY.refl _ _).alloc _;go_in
 go_wp2;go_region
 clear J L v y G H B;have b:dP ((w.S6 #[S8,aa 0] 102).S6 #[ae x.1,aa x.2] 102).drew w.heap.size #[S8,aa 0] 102:=(u.alloc _).drew;have o:dP ((w.S6 #[S8,aa 0] 102).S6 #[ae x.1,aa x.2] 102).drew (w.heap.size+1) #[ae x.1,aa x.2] 102:=(dP.new1 w _ _ _).drew;have c:dP ((w.S6 #[S8,aa 0] 102).S6 #[ae x.1,aa x.2] 102).drew rb _ 100:=(r.alloc _).drew;have d:dY [rb] w ((w.S6 #[S8,aa 0] 102).S6 #[ae x.1,aa x.2] 102).drew:=(t.alloc _).drew;clear u r t K;go_wp2_with fail;refine(Rz _ x.1).V ?_;rintro e w3 ⟨rfl,l⟩;replace b:=b.G l b.lt;replace o:=o.G l o.lt;replace c:=c.G l c.lt;replace d:=d.G l;clear l;have⟨z,A⟩:=o.I;go_wp2_with fail;refine(SJ _ x.1).V ?_;rintro e _ ⟨rfl,rfl⟩;go_wp2_with fail;clear z A;refine(SK _ x.1).V ?_;rintro e U ⟨rfl,l⟩;replace b:=b.G l b.lt;replace o:=o.G l o.lt;replace c:=c.G l c.lt;replace d:=d.G l;clear l;have⟨z,A⟩:=o.I;have⟨N,O⟩:=c.I;have⟨P,Q⟩:=b.I;have a:rb≠w.heap.size:=Te;have I:rb≠w.heap.size+1:=Te;cases hS:gT so s x.1
 .have j:Hid (sW so s x=(⟨#[]⟩,x.2)):=by unfold sW;rw[hS];rfl
  have h:Hid (mA so s x i=i):=by unfold mA;rw[hS];rfl
  have f:Hid (mB so s x bad=if bad<0 then(x.2:Int)else bad):=by unfold mB;rw[hS];rfl
  have n:Hid (gT so s x.1=false):=hS;clear hS;rcases q with rfl|rfl|rfl|rfl
  .cases m:(x.1.toList==s.toList)
   .cases hb:decide (bad<0)
    .have k:¬bad<0:=of_decide_eq_false hb;go_wp2;refine dJ (dW results74 _ _ rfl (b.sets_all [_,_] rfl) underlying102 Tj) rfl ⟨?_,?_,?_⟩;.rw[j.o];rfl
     .rw[h.o,f.o,dG Te];exact c.sets_other a.sy [_,_] 0
     .exact d.sets (.inr (aD _)) [_,_] 0
    .have k:bad<0:=dI hb;go_wp2;refine dJ (dW results74 _ _ rfl ((b.other 2 _ a).sets_all [_,_] rfl) underlying102 Tj) rfl ⟨?_,?_,?_⟩;.rw[j.o];rfl
     .rw[h.o,f.o,dH k];exact(c.set 2 _).sets_other a.sy [_,_] 0
     .exact(d.set (bn.2 rfl) _ _).sets (.inr (aD _)) [_,_] 0
   .have D:(s.toList== [])=true:=by have:=n.o;rw[gT,dH rfl,m]at this;simpa using this
    cases hb:decide (bad<0)
    .have k:¬bad<0:=of_decide_eq_false hb;go_wp2;refine dJ (dW results74 _ _ rfl (b.sets_all [_,_] rfl) underlying102 Tj) rfl ⟨?_,?_,?_⟩;.rw[j.o];rfl
     .rw[h.o,f.o,dG Te];exact c.sets_other a.sy [_,_] 0
     .exact d.sets (.inr (aD _)) [_,_] 0
    .have k:bad<0:=dI hb;go_wp2;refine dJ (dW results74 _ _ rfl ((b.other 2 _ a).sets_all [_,_] rfl) underlying102 Tj) rfl ⟨?_,?_,?_⟩;.rw[j.o];rfl
     .rw[h.o,f.o,dH k];exact(c.set 2 _).sets_other a.sy [_,_] 0
     .exact(d.set (bn.2 rfl) _ _).sets (.inr (aD _)) [_,_] 0
  .have m:(dN x.1==1)=false:=by have:=n.o;simpa [gT]using this
   cases hb:decide (bad<0)
   .have k:¬bad<0:=of_decide_eq_false hb;go_wp2;refine dJ (dW results74 _ _ rfl (b.sets_all [_,_] rfl) underlying102 Tj) rfl ⟨?_,?_,?_⟩;.rw[j.o];rfl
    .rw[h.o,f.o,dG Te];exact c.sets_other a.sy [_,_] 0
    .exact d.sets (.inr (aD _)) [_,_] 0
   .have k:bad<0:=dI hb;go_wp2;refine dJ (dW results74 _ _ rfl ((b.other 2 _ a).sets_all [_,_] rfl) underlying102 Tj) rfl ⟨?_,?_,?_⟩;.rw[j.o];rfl
    .rw[h.o,f.o,dH k];exact(c.set 2 _).sets_other a.sy [_,_] 0
    .exact(d.set (bn.2 rfl) _ _).sets (.inr (aD _)) [_,_] 0
  .have m:(dN x.1==2)=false:=by have:=n.o;simpa [gT]using this
   cases hb:decide (bad<0)
   .have k:¬bad<0:=of_decide_eq_false hb;go_wp2;refine dJ (dW results74 _ _ rfl (b.sets_all [_,_] rfl) underlying102 Tj) rfl ⟨?_,?_,?_⟩;.rw[j.o];rfl
    .rw[h.o,f.o,dG Te];exact c.sets_other a.sy [_,_] 0
    .exact d.sets (.inr (aD _)) [_,_] 0
   .have k:bad<0:=dI hb;go_wp2;refine dJ (dW results74 _ _ rfl ((b.other 2 _ a).sets_all [_,_] rfl) underlying102 Tj) rfl ⟨?_,?_,?_⟩;.rw[j.o];rfl
    .rw[h.o,f.o,dH k];exact(c.set 2 _).sets_other a.sy [_,_] 0
    .exact(d.set (bn.2 rfl) _ _).sets (.inr (aD _)) [_,_] 0
  .have m:(dN x.1==3||dN x.1==1)=false:=by have:=n.o;simpa [gT]using this
   cases hb:decide (bad<0)
   .have k:¬bad<0:=of_decide_eq_false hb;go_wp2;refine dJ (dW results74 _ _ rfl (b.sets_all [_,_] rfl) underlying102 Tj) rfl ⟨?_,?_,?_⟩;.rw[j.o];rfl
    .rw[h.o,f.o,dG Te];exact c.sets_other a.sy [_,_] 0
    .exact d.sets (.inr (aD _)) [_,_] 0
   .have k:bad<0:=dI hb;go_wp2;refine dJ (dW results74 _ _ rfl ((b.other 2 _ a).sets_all [_,_] rfl) underlying102 Tj) rfl ⟨?_,?_,?_⟩;.rw[j.o];rfl
    .rw[h.o,f.o,dH k];exact(c.set 2 _).sets_other a.sy [_,_] 0
    .exact(d.set (bn.2 rfl) _ _).sets (.inr (aD _)) [_,_] 0
 .have j:Hid (sW so s x=x):=by unfold sW;rw[hS];rfl
  have h:Hid (mA so s x i=i+1):=by unfold mA;rw[hS];rfl
  have f:Hid (mB so s x bad=bad):=by unfold mB;rw[hS];rfl
  have n:Hid (gT so s x.1=true):=hS;clear hS;rcases q with rfl|rfl|rfl|rfl
  .have m:(x.1.toList==s.toList)=true/\(s.toList== [])=false:=by have:=n.o;simpa [gT]using this
   obtain⟨m,D⟩:=m;go_wp2;refine dJ (dW results74 _ _ rfl ((b.other 1 _ a).sets_all [_,_] rfl) underlying102 Tj) rfl ⟨?_,?_,?_⟩;.rw[j.o];rfl
   .rw[h.o,f.o];exact(c.set 1 _).sets_other a.sy [_,_] 0
   .exact(d.set (bn.2 rfl) _ _).sets (.inr (aD _)) [_,_] 0
  .have m:(dN x.1==1)=true:=by have:=n.o;simpa [gT]using this
   go_wp2;refine dJ (dW results74 _ _ rfl ((b.other 1 _ a).sets_all [_,_] rfl) underlying102 Tj) rfl ⟨?_,?_,?_⟩;.rw[j.o];rfl
   .rw[h.o,f.o];exact(c.set 1 _).sets_other a.sy [_,_] 0
   .exact(d.set (bn.2 rfl) _ _).sets (.inr (aD _)) [_,_] 0
  .have m:(dN x.1==2)=true:=by have:=n.o;simpa [gT]using this
   go_wp2;refine dJ (dW results74 _ _ rfl ((b.other 1 _ a).sets_all [_,_] rfl) underlying102 Tj) rfl ⟨?_,?_,?_⟩;.rw[j.o];rfl
   .rw[h.o,f.o];exact(c.set 1 _).sets_other a.sy [_,_] 0
   .exact(d.set (bn.2 rfl) _ _).sets (.inr (aD _)) [_,_] 0
  .have m:(dN x.1==3||dN x.1==1)=true:=by have:=n.o;simpa [gT]using this
   go_wp2;refine dJ (dW results74 _ _ rfl ((b.other 1 _ a).sets_all [_,_] rfl) underlying102 Tj) rfl ⟨?_,?_,?_⟩;.rw[j.o];rfl
   .rw[h.o,f.o];exact(c.set 1 _).sets_other a.sy [_,_] 0
   .exact(d.set (bn.2 rfl) _ _).sets (.inr (aD _)) [_,_] 0
section
variable {w w':aw} {P:Value->PM->Prop} {Z:ax} {vv v:Value} {l:List PV} {n k:Nat} {m:PM}
theorem d5.nil (w:aw)(Z:ax)(T:TypeId)(k:Nat):d5 w Z T k (ah) 0 []:=⟨aX _ _ _ _,λb a=>by cases a⟩
def nQ (P:Value->PM->Prop):ay->List PV->Prop
 |cs,[]=>cs= []
 |cs,v::vs=>∃mv rest,cs= .int .u64 v.1::ae v.2.1::mv::ae v.2.2.unk::rest/\P mv v.2.2/\nQ P rest vs
def fk (P:Value->PM->Prop)(w:aw)(Z:ax)(vv:Value)(l:List PV):Prop:=
 ∃Tr,d5 w Z 55 4 vv l.length Tr/\nQ P Tr l
def mD (P:Value->PM->Prop)(w:aw)(Z:ax):ay->List PF->Prop
 |cs,[]=>cs= []
 |cs,f::fs=>∃vv rest,cs=aa f.1::vv::rest/\fk P w Z vv f.2/\mD P w Z rest fs
def gQ:Nat->aw->(ax)->Value->PM->Prop
 |0,_,_,_,_=>False
 |k+1,w,Z,v,m=>∃cs,d5 w Z 58 2 v m.fs.length cs/\mD (gQ k w Z) w Z cs m.fs
theorem nQ.imp {Q:Value->PM->Prop}(h:∀v m,P v m->Q v m):∀{l:List PV} {cs:ay},nQ P cs l->nQ Q cs l
 | [],_,h1=>h1
 |_::_,_,⟨mv,rest,h1,h2,h3⟩=>⟨mv,rest,h1,h _ _ h2,nQ.imp h h3⟩
theorem fk.O {Q:Value->PM->Prop}(e:∀v m,P v m->Q v m)(f:∀b,Z b->b<w.heap.size->w'.heap[b]?=w.heap[b]?)(h:fk P w Z vv l):fk Q w' Z vv l:=by
 obtain⟨a,c,d⟩:=h;exact⟨a,c.O f,d.imp e⟩
theorem mD.O {Q:Value->PM->Prop}(a:∀v m,P v m->Q v m)(c:∀b,Z b->b<w.heap.size->w'.heap[b]?=w.heap[b]?):∀{fs:List PF} {cs:ay},mD P w Z cs fs->mD Q w' Z cs fs
 | [],_,h1=>h1
 |_::_,_,⟨vv,rest,h1,h2,h3⟩=>⟨vv,rest,h1,h2.O a c,mD.O a c h3⟩
theorem gQ.O (a:∀b,Z b->b<w.heap.size->w'.heap[b]?=w.heap[b]?):∀{k:Nat} {v:Value} {m:PM},gQ k w Z v m->gQ k w' Z v m
 |0,_,_,h=>h
 |_+1,_,_,⟨cs,h1,h2⟩=>⟨cs,h1.O a,h2.O (λ_ _ h=>gQ.O a h) a⟩
theorem gQ.G (a:Below n w w')(d:w.heap.size<=n)(h:gQ k w Z v m):gQ k w' Z v m:=
 h.O (λb _ c=>a.block b (aI c d))
theorem fk.G (a:Below n w w')(c:w.heap.size<=n)(h:fk (gQ k w Z) w Z v l):fk (gQ k w' Z) w' Z v l:=
 h.O (λ_ _ h=>h.G a c) (λb _ d=>a.block b (aI d c))
theorem mD.G (a:Below n w w')(c:w.heap.size<=n){cs:ay}{l:List PF}(h:mD (gQ k w Z) w Z cs l):mD (gQ k w' Z) w' Z cs l:=
 h.O (λ_ _ h=>h.G a c) (λb _ d=>a.block b (aI d c))
theorem fk.V {Q:Value->PM->Prop}{Y:ax}(e:∀v m,P v m->Q v m)(f:∀b,Z b->b<w.heap.size->Y b)(h:fk P w Z vv l):fk Q w Y vv l:=by
 obtain⟨a,c,d⟩:=h;exact⟨a,c.V f,d.imp e⟩
theorem mD.V {Q:Value->PM->Prop}{Y:ax}(a:∀v m,P v m->Q v m)(c:∀b,Z b->b<w.heap.size->Y b):∀{fs:List PF} {cs:ay},mD P w Z cs fs->mD Q w Y cs fs
 | [],_,h1=>h1
 |_::_,_,⟨vv,rest,h1,h2,h3⟩=>⟨vv,rest,h1,h2.V a c,mD.V a c h3⟩
theorem gQ.V {Y:ax}(a:∀b,Z b->b<w.heap.size->Y b):∀{k:Nat} {v:Value} {m:PM},gQ k w Z v m->gQ k w Y v m
 |0,_,_,h=>h
 |_+1,_,_,⟨cs,h1,h2⟩=>⟨cs,h1.V a,h2.V (λ_ _ h=>gQ.V a h) a⟩
theorem nQ.len:∀{l:List PV} {cs:ay},nQ P cs l->cs.length=l.length*4
 | [],_,h=>by rw[show _= []from h];rfl
 |_::l,_,⟨mv,rest,h1,_,h3⟩=>by rw[h1];simp[h3.len];omega
theorem nQ.append:∀{l r:List PV} {cs ds:ay},nQ P cs l->nQ P ds r->nQ P (cs++ds) (l++r)
 | [],_,_,_,h1,h2=>by rw[show _= []from h1];exact h2
 |_::l,r,_,ds,⟨mv,rest,h1,h3,h4⟩,h2=>by rw[h1];exact⟨mv,rest++ds,rfl,h3,h4.append h2⟩
theorem mD.append:∀{l r:List PF} {cs ds:ay},mD P w Z cs l->mD P w Z ds r->mD P w Z (cs++ds) (l++r)
 | [],_,_,_,h1,h2=>by rw[show _= []from h1];exact h2
 |_::l,r,_,ds,⟨mv,rest,h1,h3,h4⟩,h2=>by rw[h1];exact⟨mv,rest++ds,rfl,h3,h4.append h2⟩
theorem nQ.get:∀{l:List PV} {cs:ay},nQ P cs l->∀{i:Nat} {v:PV},l[i]?=some v->
  ∃mv,P mv v.2.2/\cs[i*4]?=some (.int .u64 v.1)/\cs[i*4+1]?=some (ae v.2.1)/\cs[i*4+2]?=some mv/\cs[i*4+3]?=some (ae v.2.2.unk)
 | [],_,_,i,v,h=>by simp at h
 |x::l,_,⟨mv,rest,h1,h2,h3⟩,0,v,h=>by
  simp at h;subst h;subst h1
  exact⟨mv,h2,rfl,rfl,rfl,rfl⟩
 |x::l,_,⟨mv,rest,h1,h2,h3⟩,i+1,v,h=>by
  have⟨a,b,c,d,f,g⟩:=h3.get (i:=i) (v:=v) (by simpa using h);subst h1;have e:∀j,(i+1)*4+j=(i*4+j)+4:=λj=>Te
  refine⟨a,b,?_,?_,?_,?_⟩;.rw[show(i+1)*4=i*4+4 from by omega];exact c
  .rw[e];exact d
  .rw[e];exact f
  .rw[e];exact g
theorem mD.get:∀{l:List PF} {cs:ay},mD P w Z cs l->∀{i:Nat} {f:PF},l[i]?=some f->
  ∃vv,fk P w Z vv f.2/\cs[i*2]?=some (aa f.1)/\cs[i*2+1]?=some vv
 | [],_,_,i,v,h=>by simp at h
 |x::l,_,⟨vv,rest,h1,h2,h3⟩,0,v,h=>by
  simp at h;subst h;subst h1
  exact⟨vv,h2,rfl,rfl⟩
 |x::l,_,⟨vv,rest,h1,h2,h3⟩,i+1,v,h=>by
  have⟨a,b,c,d⟩:=h3.get (i:=i) (f:=v) (by simpa using h);subst h1;refine⟨a,b,?_,?_⟩;.rw[show(i+1)*2=i*2+2 from by omega];exact c
  .rw[show(i+1)*2+1=(i*2+1)+2 from by omega];exact d
theorem fk.nil (P:Value->PM->Prop)(w:aw)(Z:ax):fk P w Z (ah) []:=⟨[],d5.nil _ _ _ _,rfl⟩
theorem gQ.none (k:Nat)(w:aw)(Z:ax):gQ (k+1) w Z (.slice .none 0 0) PM.none:=⟨[],d5.nil _ _ _ _,rfl⟩
theorem fk.form (h:fk P w Z vv l):∃a c,vv= .slice a l.length c:=by
 obtain⟨d,b,_⟩:=h;obtain⟨a,n,c,rfl⟩:=dO b.1;rw[d9 b.1];exact⟨a,c,rfl⟩
theorem gQ.form (h:gQ k w Z v m):∃a c,v= .slice a m.fs.length c:=by
 cases k with
 |zero=>exact h.elim
 |succ k=>
  obtain⟨cs,b,_⟩:=h;obtain⟨a,n,c,rfl⟩:=dO b.1;rw[d9 b.1];exact⟨a,c,rfl⟩
end
def PA (w:World)(s:ByteArray)(b:s.size<=268435456):
  Calls prog 308 #[.string s] w λe w'=>e= .returned (.bool (Qx s))/\w'=w:=by
 obtain⟨R,Y⟩:=Td (Qx s);have a:Hid (BX s.size s=R):=Y;rw[Y];clear Y;go_in
 go_wp2;go_loop [0] (λv=>∃(f:Nat) (t:ByteArray),t.size<=f/\t.size<=268435456/\Hid (BX f t=R)/\v= .string t) (λv=>match v with| .string t=>t.size|_=>0)
 case atStart=>exact⟨s.size,s,aD _,b,a,rfl⟩
 case round=>
  obtain⟨f,t,b,c,L,rfl⟩:=hrel;clear a;by_cases h0:t.size=0
  .have b:(t.toList== [])=true:=by rw[lY];simp[h0]
   have a:Hid (R=true):=by
    rw[<-L.o]
    cases f with
    |zero=>rfl
    |succ f=>rw[BX,dH h0];rfl
   go_wp2;go_ret;exact⟨by rw[a.o];rfl,rfl⟩
  .have b:(t.toList== [])=false:=by rw[lY];simp[h0]
   obtain⟨f,rfl⟩:∃f',f=f'+1:=⟨f-1,Te⟩;have m:Hid (R=match Ee t with|none=>false|some n=>BX f (t.extract n t.size)):=(by rw[<-L.o,BX,dG h0];rfl);have b:=gX (t:=t) (k:=0) Te;have u:=iy t 0;obtain⟨c,Z⟩:=Td (fR t 0);have K:Hid (fR t 0=c):=Z;rw[Z]at b u;obtain⟨b,d⟩:=u;clear Z L;have hlen:(0:Int)<(t.size:Int):=Te;by_cases g4:240<=c
   .have l:Hid (Ee t=wM t 4 65536 (c-240)):=(by unfold Ee;rw[K.o];rw[dH Te];exact rfl);by_cases hsz:t.size<4;.have B:(t.size:Int)<4:=Te;have a:Hid (R=false):=(by rw[m.o,l.o,wM,dH hsz];rfl);clear m l;go_wp2;go_ret;exact⟨by rw[a.o];rfl,rfl⟩
    .have B:¬(t.size:Int)<4:=Te;go_wp2;go_loop [5,6] (λI i=>∃(j:Nat) (x:Int),1<=j/\j<=4/\0<=x/\(4=1->x<128)/\(2<=4->j<=1->x<32)/\(2<=4->j<=2->x<2048)/\(2<=4->j<=3->x<131072)/\x<8388608/\Hid (pP t (4-1) 1 (c-240)=pP t (4-j) j x)/\I= .int .i64 x/\i= .int .i64 j) (λ_ i=>4-(intOf i).toNat)
     case atStart=>exact⟨1,(c-240),Te,Te,Te,Te,Te,Te,Te,Te,rfl,by go_num,rfl⟩
     case round=>
      obtain⟨j,x,N,O,P,J,Q,S,T,U,g,rfl,rfl⟩:=hrel;by_cases hlt:j<4
      .have W:(j:Int)<4:=Te;have X:(j:Int)<(t.size:Int):=Te;have C:=gX (t:=t) (k:=j) Te;have z:=iy t j;obtain⟨b,p⟩:=Td (fR t j);have y:Hid (fR t j=b):=p;rw[p]at C z;obtain⟨u,V⟩:=z;clear p;obtain⟨q,r⟩:∃q,4-j=q+1:=⟨4-j-1,Te⟩;by_cases d:b<128\/191<b
       .have a:Hid (R=false):=(by rw[m.o,l.o,wM,dG hsz,g.o,r,pP,y.o,dH d];rfl);clear m l g;rcases d with d|d;.go_wp2;go_ret;exact⟨by rw[a.o];rfl,rfl⟩
        .have D:¬b<128:=Te;go_wp2;go_ret;exact⟨by rw[a.o];rfl,rfl⟩
       .have D:¬b<128:=Te;have M:¬191<b:=Te;have a:Hid (pP t (4-1) 1 (c-240)=pP t (4-(j+1)) (j+1) (64*x+b-128)):=(by rw[g.o,r,pP,y.o,dG d,show 4-(j+1)=q from by omega];rfl);clear g r;go_wp2;go_round
        case rel=>exact⟨j+1,64*x+b-128,Te,Te,Te,λh=>absurd h Th,Te,Te,Te,Te,a,by go_num,by go_num⟩
        case measure=>simp[intOf];omega
      .obtain rfl:j=4:=Te;have o:Hid (R=match(if x<65536\/1114111<x\/(55296<=x/\x<=57343)then none else some 4)with|none=>false|some n=>BX f (t.extract n t.size)):=(by rw[m.o,l.o,wM,dG hsz,g.o];rfl);clear m l g;by_cases d:x<65536\/1114111<x\/(55296<=x/\x<=57343)
       .have a:Hid (R=false):=(by rw[o.o,dH d];rfl);clear o;by_cases E:x<65536;.go_wp2;go_ret;exact⟨by rw[a.o];rfl,rfl⟩
        .by_cases F:1114111<x;.go_wp2;go_ret;exact⟨by rw[a.o];rfl,rfl⟩
         .have G:55296<=x:=Te;have H:x<=57343:=Te;go_wp2;go_ret;exact⟨by rw[a.o];rfl,rfl⟩
       .have E:¬x<65536:=Te;have F:¬1114111<x:=Te;have a:Hid (BX f (t.extract 4 t.size)=R):=(by rw[o.o,dG d];rfl);have A:(t.extract 4 t.size).size=t.size-4:=by rw[aU];omega
        clear o;by_cases G:55296<=x
        .have H:¬x<=57343:=Te;go_wp2;go_round
         case rel=>exact⟨f,t.extract 4 t.size,Te,Te,a,rfl⟩
         case measure=>simp[A];omega
        .go_wp2;go_round
         case rel=>exact⟨f,t.extract 4 t.size,Te,Te,a,rfl⟩
         case measure=>simp[A];omega
   .by_cases g3:224<=c
    .have l:Hid (Ee t=wM t 3 2048 (c-224)):=(by unfold Ee;rw[K.o];rw[dG Te,dH Te];exact rfl);by_cases hsz:t.size<3;.have B:(t.size:Int)<3:=Te;have a:Hid (R=false):=(by rw[m.o,l.o,wM,dH hsz];rfl);clear m l;go_wp2;go_ret;exact⟨by rw[a.o];rfl,rfl⟩
     .have B:¬(t.size:Int)<3:=Te;go_wp2;go_loop [5,6] (λI i=>∃(j:Nat) (x:Int),1<=j/\j<=3/\0<=x/\(3=1->x<128)/\(2<=3->j<=1->x<32)/\(2<=3->j<=2->x<2048)/\(2<=3->j<=3->x<131072)/\x<8388608/\Hid (pP t (3-1) 1 (c-224)=pP t (3-j) j x)/\I= .int .i64 x/\i= .int .i64 j) (λ_ i=>3-(intOf i).toNat)
      case atStart=>exact⟨1,(c-224),Te,Te,Te,Te,Te,Te,Te,Te,rfl,by go_num,rfl⟩
      case round=>
       obtain⟨j,x,N,O,P,J,Q,S,T,U,g,rfl,rfl⟩:=hrel;by_cases hlt:j<3
       .have W:(j:Int)<3:=Te;have X:(j:Int)<(t.size:Int):=Te;have C:=gX (t:=t) (k:=j) Te;have z:=iy t j;obtain⟨b,p⟩:=Td (fR t j);have y:Hid (fR t j=b):=p;rw[p]at C z;obtain⟨u,V⟩:=z;clear p;obtain⟨q,r⟩:∃q,3-j=q+1:=⟨3-j-1,Te⟩;by_cases d:b<128\/191<b
        .have a:Hid (R=false):=(by rw[m.o,l.o,wM,dG hsz,g.o,r,pP,y.o,dH d];rfl);clear m l g;rcases d with d|d;.go_wp2;go_ret;exact⟨by rw[a.o];rfl,rfl⟩
         .have D:¬b<128:=Te;go_wp2;go_ret;exact⟨by rw[a.o];rfl,rfl⟩
        .have D:¬b<128:=Te;have M:¬191<b:=Te;have a:Hid (pP t (3-1) 1 (c-224)=pP t (3-(j+1)) (j+1) (64*x+b-128)):=(by rw[g.o,r,pP,y.o,dG d,show 3-(j+1)=q from by omega];rfl);clear g r;go_wp2;go_round
         case rel=>exact⟨j+1,64*x+b-128,Te,Te,Te,λh=>absurd h Th,Te,Te,Te,Te,a,by go_num,by go_num⟩
         case measure=>simp[intOf];omega
       .obtain rfl:j=3:=Te;have o:Hid (R=match(if x<2048\/1114111<x\/(55296<=x/\x<=57343)then none else some 3)with|none=>false|some n=>BX f (t.extract n t.size)):=(by rw[m.o,l.o,wM,dG hsz,g.o];rfl);clear m l g;by_cases d:x<2048\/1114111<x\/(55296<=x/\x<=57343)
        .have a:Hid (R=false):=(by rw[o.o,dH d];rfl);clear o;by_cases E:x<2048;.go_wp2;go_ret;exact⟨by rw[a.o];rfl,rfl⟩
         .by_cases F:1114111<x;.go_wp2;go_ret;exact⟨by rw[a.o];rfl,rfl⟩
          .have G:55296<=x:=Te;have H:x<=57343:=Te;go_wp2;go_ret;exact⟨by rw[a.o];rfl,rfl⟩
        .have E:¬x<2048:=Te;have F:¬1114111<x:=Te;have a:Hid (BX f (t.extract 3 t.size)=R):=(by rw[o.o,dG d];rfl);have A:(t.extract 3 t.size).size=t.size-3:=by rw[aU];omega
         clear o;by_cases G:55296<=x
         .have H:¬x<=57343:=Te;go_wp2;go_round
          case rel=>exact⟨f,t.extract 3 t.size,Te,Te,a,rfl⟩
          case measure=>simp[A];omega
         .go_wp2;go_round
          case rel=>exact⟨f,t.extract 3 t.size,Te,Te,a,rfl⟩
          case measure=>simp[A];omega
    .by_cases g2:192<=c
     .have l:Hid (Ee t=wM t 2 128 (c-192)):=(by unfold Ee;rw[K.o];rw[dG Te,dG Te,dH Te];exact rfl);by_cases hsz:t.size<2;.have B:(t.size:Int)<2:=Te;have a:Hid (R=false):=(by rw[m.o,l.o,wM,dH hsz];rfl);clear m l;go_wp2;go_ret;exact⟨by rw[a.o];rfl,rfl⟩
      .have B:¬(t.size:Int)<2:=Te;go_wp2;go_loop [5,6] (λI i=>∃(j:Nat) (x:Int),1<=j/\j<=2/\0<=x/\(2=1->x<128)/\(2<=2->j<=1->x<32)/\(2<=2->j<=2->x<2048)/\(2<=2->j<=3->x<131072)/\x<8388608/\Hid (pP t (2-1) 1 (c-192)=pP t (2-j) j x)/\I= .int .i64 x/\i= .int .i64 j) (λ_ i=>2-(intOf i).toNat)
       case atStart=>exact⟨1,(c-192),Te,Te,Te,Te,Te,Te,Te,Te,rfl,by go_num,rfl⟩
       case round=>
        obtain⟨j,x,N,O,P,J,Q,S,T,U,g,rfl,rfl⟩:=hrel;by_cases hlt:j<2
        .have W:(j:Int)<2:=Te;have X:(j:Int)<(t.size:Int):=Te;have C:=gX (t:=t) (k:=j) Te;have z:=iy t j;obtain⟨b,p⟩:=Td (fR t j);have y:Hid (fR t j=b):=p;rw[p]at C z;obtain⟨u,V⟩:=z;clear p;obtain⟨q,r⟩:∃q,2-j=q+1:=⟨2-j-1,Te⟩;by_cases d:b<128\/191<b
         .have a:Hid (R=false):=(by rw[m.o,l.o,wM,dG hsz,g.o,r,pP,y.o,dH d];rfl);clear m l g;rcases d with d|d;.go_wp2;go_ret;exact⟨by rw[a.o];rfl,rfl⟩
          .have D:¬b<128:=Te;go_wp2;go_ret;exact⟨by rw[a.o];rfl,rfl⟩
         .have D:¬b<128:=Te;have M:¬191<b:=Te;have a:Hid (pP t (2-1) 1 (c-192)=pP t (2-(j+1)) (j+1) (64*x+b-128)):=(by rw[g.o,r,pP,y.o,dG d,show 2-(j+1)=q from by omega];rfl);clear g r;go_wp2;go_round
          case rel=>exact⟨j+1,64*x+b-128,Te,Te,Te,λh=>absurd h Th,Te,Te,Te,Te,a,by go_num,by go_num⟩
          case measure=>simp[intOf];omega
        .obtain rfl:j=2:=Te;have o:Hid (R=match(if x<128\/1114111<x\/(55296<=x/\x<=57343)then none else some 2)with|none=>false|some n=>BX f (t.extract n t.size)):=(by rw[m.o,l.o,wM,dG hsz,g.o];rfl);clear m l g;by_cases d:x<128\/1114111<x\/(55296<=x/\x<=57343)
         .have a:Hid (R=false):=(by rw[o.o,dH d];rfl);clear o;by_cases E:x<128;.go_wp2;go_ret;exact⟨by rw[a.o];rfl,rfl⟩
          .by_cases F:1114111<x;.go_wp2;go_ret;exact⟨by rw[a.o];rfl,rfl⟩
           .have G:55296<=x:=Te;have H:x<=57343:=Te;go_wp2;go_ret;exact⟨by rw[a.o];rfl,rfl⟩
         .have E:¬x<128:=Te;have F:¬1114111<x:=Te;have a:Hid (BX f (t.extract 2 t.size)=R):=(by rw[o.o,dG d];rfl);have A:(t.extract 2 t.size).size=t.size-2:=by rw[aU];omega
          clear o;by_cases G:55296<=x
          .have H:¬x<=57343:=Te;go_wp2;go_round
           case rel=>exact⟨f,t.extract 2 t.size,Te,Te,a,rfl⟩
           case measure=>simp[A];omega
          .go_wp2;go_round
           case rel=>exact⟨f,t.extract 2 t.size,Te,Te,a,rfl⟩
           case measure=>simp[A];omega
     .by_cases g1:128<=c;.have a:Hid (R=false):=(by rw[m.o];unfold Ee;rw[K.o,dG g4,dG g3,dG g2,dH g1];rfl);clear m;go_wp2;go_ret;exact⟨by rw[a.o];rfl,rfl⟩
      .have l:Hid (Ee t=wM t 1 0 c):=(by unfold Ee;rw[K.o];rw[dG Te,dG Te,dG Te,dG Te];exact rfl);by_cases hsz:t.size<1;.have B:(t.size:Int)<1:=Te;have a:Hid (R=false):=(by rw[m.o,l.o,wM,dH hsz];rfl);clear m l;go_wp2;go_ret;exact⟨by rw[a.o];rfl,rfl⟩
       .have B:¬(t.size:Int)<1:=Te;go_wp2;go_loop [5,6] (λI i=>∃(j:Nat) (x:Int),1<=j/\j<=1/\0<=x/\(1=1->x<128)/\(2<=1->j<=1->x<32)/\(2<=1->j<=2->x<2048)/\(2<=1->j<=3->x<131072)/\x<8388608/\Hid (pP t (1-1) 1 c=pP t (1-j) j x)/\I= .int .i64 x/\i= .int .i64 j) (λ_ i=>1-(intOf i).toNat)
        case atStart=>exact⟨1,c,Te,Te,Te,Te,Te,Te,Te,Te,rfl,by go_num,rfl⟩
        case round=>
         obtain⟨j,x,N,O,P,J,Q,S,T,U,g,rfl,rfl⟩:=hrel;by_cases hlt:j<1
         .have W:(j:Int)<1:=Te;have X:(j:Int)<(t.size:Int):=Te;have C:=gX (t:=t) (k:=j) Te;have z:=iy t j;obtain⟨b,p⟩:=Td (fR t j);have y:Hid (fR t j=b):=p;rw[p]at C z;obtain⟨u,V⟩:=z;clear p;obtain⟨q,r⟩:∃q,1-j=q+1:=⟨1-j-1,Te⟩;by_cases d:b<128\/191<b
          .have a:Hid (R=false):=(by rw[m.o,l.o,wM,dG hsz,g.o,r,pP,y.o,dH d];rfl);clear m l g;rcases d with d|d;.go_wp2;go_ret;exact⟨by rw[a.o];rfl,rfl⟩
           .have D:¬b<128:=Te;go_wp2;go_ret;exact⟨by rw[a.o];rfl,rfl⟩
          .have D:¬b<128:=Te;have M:¬191<b:=Te;have a:Hid (pP t (1-1) 1 c=pP t (1-(j+1)) (j+1) (64*x+b-128)):=(by rw[g.o,r,pP,y.o,dG d,show 1-(j+1)=q from by omega];rfl);clear g r;go_wp2;go_round
           case rel=>exact⟨j+1,64*x+b-128,Te,Te,Te,Te,Te,Te,Te,Te,a,by go_num,by go_num⟩
           case measure=>simp[intOf];omega
         .obtain rfl:j=1:=Te;have o:Hid (R=match(if x<0\/1114111<x\/(55296<=x/\x<=57343)then none else some 1)with|none=>false|some n=>BX f (t.extract n t.size)):=(by rw[m.o,l.o,wM,dG hsz,g.o];rfl);clear m l g;by_cases d:x<0\/1114111<x\/(55296<=x/\x<=57343)
          .have a:Hid (R=false):=(by rw[o.o,dH d];rfl);clear o;by_cases E:x<0;.go_wp2;go_ret;exact⟨by rw[a.o];rfl,rfl⟩
           .by_cases F:1114111<x;.go_wp2;go_ret;exact⟨by rw[a.o];rfl,rfl⟩
            .have G:55296<=x:=Te;have H:x<=57343:=Te;go_wp2;go_ret;exact⟨by rw[a.o];rfl,rfl⟩
          .have E:¬x<0:=Te;have F:¬1114111<x:=Te;have a:Hid (BX f (t.extract 1 t.size)=R):=(by rw[o.o,dG d];rfl);have A:(t.extract 1 t.size).size=t.size-1:=by rw[aU];omega
           clear o;by_cases G:55296<=x
           .have H:¬x<=57343:=Te;go_wp2;go_round
            case rel=>exact⟨f,t.extract 1 t.size,Te,Te,a,rfl⟩
            case measure=>simp[A];omega
           .go_wp2;go_round
            case rel=>exact⟨f,t.extract 1 t.size,Te,Te,a,rfl⟩
            case measure=>simp[A];omega
end Go.Proofs.YtfebdimolnobaaaGreatDoor
