import Derived.Test.YtfebdimolnobaaaGreatDoorCkA
import Derived.Test.YtfebdimolnobaaaGreatDoorRefB
set_option maxRecDepth 100000
set_option maxHeartbeats 8000000
set_option linter.all false
namespace Go.Proofs.YtfebdimolnobaaaGreatDoor
open Go.RowKit Go.Proofs.Tryz
section
open Go.Maps
attribute [local go_sem] jS jT jU
open VH
def fx.get {w:aw}{S:ax}:∀{bs:List d9} {cs:ay} {i:Nat} {b:d9},fx w S cs bs->bs[i]?=some b->∃pa pn pc va vn vc,
   cs[i*6+0]?=some (.bool b.enum)/\cs[i*6+1]?=some (aa (dX b.name.1))/\cs[i*6+2]?=some (ag b.name.1)/\cs[i*6+3]?=some (aa b.name.2)/\cs[i*6+4]?=some (.slice pa pn pc)/\cs[i*6+5]?=some (.slice va vn vc)/\kI w S b (.slice pa pn pc) (.slice va vn vc)
 | [],_,_,_,_,h=>by simp at h
 |q::bs,cs,0,b,⟨pa,pn,pc,va,vn,vc,rest,h1,h2,h3⟩,h=>by
  simp at h;subst h h1
  exact⟨pa,pn,pc,va,vn,vc,rfl,rfl,rfl,rfl,rfl,rfl,h2⟩
 |q::bs,cs,i+1,b,⟨pa,pn,pc,va,vn,vc,rest,h1,h2,h3⟩,h=>by
  subst h1;obtain⟨a,c,d,e,f,g,j,k,l,m,n,o,p⟩:=fx.get h3 (i:=i) (by simpa using h);refine⟨a,c,d,e,f,g,?_,?_,?_,?_,?_,?_,p⟩;.rw[show(i+1)*6+0=(i*6+0)+1+1+1+1+1+1 from by omega];simpa using j
  .rw[show(i+1)*6+1=(i*6+1)+1+1+1+1+1+1 from by omega];simpa using k
  .rw[show(i+1)*6+2=(i*6+2)+1+1+1+1+1+1 from by omega];simpa using l
  .rw[show(i+1)*6+3=(i*6+3)+1+1+1+1+1+1 from by omega];simpa using m
  .rw[show(i+1)*6+4=(i*6+4)+1+1+1+1+1+1 from by omega];simpa using n
  .rw[show(i+1)*6+5=(i*6+5)+1+1+1+1+1+1 from by omega];simpa using o
structure pw (b:d9):Prop where
 name:b.name.1.size<=2000
 vals:b.values.length<=2001
 vnum:∀v∈b.values,lq v.2.1
 parts:mN b.parts<=2001
 fnum:∀p∈b.parts,∀f∈p.fields,lq f.num.1
def fR (types:aA):aA->Nat->List d9->Except Nat Unit
 |_,_,[]=> .ok ()
 |names,m,b::bs=>
  if iT names b.name.1 then .error b.name.2
  else if b.enum then
   match lr [] b.values with
   | .error p=> .error p
   | .ok _=>fR types (names++ [b.name.1]) m bs
  else if decide (6<m+1)then .error b.name.2
  else
   match gS types [] [] b.parts with
   | .error p=> .error p
   | .ok _=>fR types (names++ [b.name.1]) (m+1) bs
def fL (bs:List d9):aA:=bs.map λb=>b.name.1
def U0 (w:aw)(ta:aC)(tn tc:Nat)(bs:List d9)(cs:ay)(S:ax)(a:eP w S 152 6 (.slice ta tn tc) bs.length cs)(m:fx w S cs bs)(hlen:bs.length<=2001)(n:∀b∈bs,pw b):
  Calls prog 120 #[.agg #[.slice ta tn tc]] w λe w'=>e= .returned (.map (some (w.heap.size+1)))/\fy w' (w.heap.size+1) (fL bs)/\ak w w':=by
 have N:=fj a.1;subst N;have c:= @run_makeMap prog;have v:ak w ((w.alloc (am #[.slice ta bs.length tc] 87)).alloc (Obj.map #[] 0)):=(Vt w _).alloc Vw _;have z:fy ((w.Vn #[.slice ta bs.length tc] 87).alloc (Obj.map #[] 0)) (w.heap.size+1) []:=(by have:=World.ownsMap_made (w.Vn #[.slice ta bs.length tc] 87) prog 9 (unitElem (H:=Unit));simpa [fy,setOf]using this);go_in
 go_wp2;go_loopw [10] (λi wr=>∃(k:Nat),k<=bs.length/\i=aa k/\fy wr (w.heap.size+1) (fL (bs.take k))/\ak w wr) (λi _=>bs.length-(intOf i).toNat)
 case atStart=>exact⟨0,aP _,rfl,z,v⟩
 case round=>
  clear z v;obtain⟨k,c,rfl,f,d⟩:=hrel;by_cases hlt:k<bs.length
  .obtain⟨b,h⟩:=gx hlt;have I:=n b (aL h);obtain⟨g,rfl,_,O,A⟩:=eJ a.1 Vv;obtain⟨p,r,q,s,u,t,o,B,C,D,E,F,M⟩:=m.get h;have c:=A wr (d.block g O);rw[Nat.add_zero]at o;have R:=c _ _ o;have T:=c _ _ B;have U:=c _ _ C;have V:=c _ _ D;have W:=c _ _ E;have X:=c _ _ F;have Z:=dZ.new wr #[.bool b.enum,aa (dX b.name.1),ag b.name.1,aa b.name.2,.slice p r q,.slice s u t] 152;have y:=d.alloc d.size (am #[.bool b.enum,aa (dX b.name.1),ag b.name.1,aa b.name.2,.slice p r q,.slice s u t] 152);clear A c o B C D E F;have j:Hid (fL (bs.take (k+1))=fL (bs.take k)++ [b.name.1]):=(by unfold Hid fL;rw[bT,h];simp);have L:fy (wr.Vn #[.bool b.enum,aa (dX b.name.1),ag b.name.1,aa b.name.2,.slice p r q,.slice s u t] 152) (w.heap.size+1) (fL (bs.take k)):=f.O (Below.l _ _ _ f.lt);have P:(fL (bs.take k)).length<maxLen:=(by unfold fL maxLen;rw[bO,bN];omega);have l:b.name.1.size<=maxLen:=by have:=I.name;unfold maxLen;omega
   clear h M;go_wp2_with fail;clear R T U V W X;refine(Ux _ (w.heap.size+1) _ b.name.1 L P l).V ?_;rintro e Y ⟨rfl,J,K⟩;have G:ak w Y:=y.J (K.to_below y.size (by intro x Q;simp at Q;omega));go_wp2;go_roundw
   case rel=>exact⟨k+1,Vv,by go_num,by rw[j.o];exact J,G⟩
   case measure=>simp[intOf];omega
  .have j:Hid (bs.take k=bs):=ch Vv;go_wp2;go_ret;refine⟨rfl,?_,d⟩;rw[j.o]at f;exact f
def U1 (w:aw)(ta:aC)(tn tc:Nat)(bs:List d9)(cs:ay)(S:ax)(f:eP w S 152 6 (.slice ta tn tc) bs.length cs)(K:fx w S cs bs)(hlen:bs.length<=2001)(L:∀b∈bs,pw b)(n:GOK w):
  Calls prog 71 #[.agg #[.slice ta tn tc]] w λe w'=>Bv (fR (fL bs) [] 0 bs) e/\ak w w':=by
 have a:=fj f.1;subst a;have a:= @run_makeMap prog;obtain⟨c,X⟩:=ec w #[.slice ta bs.length tc] 87;have i:eP (w.Vn #[.slice ta bs.length tc] 87) S 152 6 (.slice ta bs.length tc) bs.length cs:=f.O (λb _ j=>Below.l _ _ _ j);have k:fx (w.Vn #[.slice ta bs.length tc] 87) S cs bs:=K.O (λb _ j=>Below.l _ _ _ j);obtain⟨types,a⟩:∃t,Hid (fL bs=t):=⟨_,rfl⟩;rw[a.o];generalize hr:fR types [] 0 bs=r;have g:Hid (fR types [] 0 bs=r):=hr;clear hr;go_in
 go_wp2_with fail;refine(U0 _ ta bs.length tc bs cs S i k hlen L).V ?_;rw[a.o];rintro e w2 ⟨rfl,T,a⟩;have U:ak w w2:=c.J (a.V Vw);have l:=(X.G a X.lt).alloc (Obj.map #[] 0);have d:w.heap.size+1+1<w2.heap.size:=by have:=T.lt;simp at this;omega
 have Z:fy (w2.alloc (Obj.map #[] 0)) (w.heap.size+1+1) types:=(by have:=T.O (w':=(w2.alloc (Obj.map #[] 0))) (Below.l _ _ _ T.lt);simpa using this);have d:=Z.lt;have d:ak w (w2.alloc (Obj.map #[] 0)):=U.alloc U.size _;have h:fy (w2.alloc (Obj.map #[] 0)) w2.heap.size []:=(by have:=World.ownsMap_made w2 prog 9 (unitElem (H:=Unit));simpa [fy,setOf]using this);have m:∀o,(w.alloc o).heap.size=w.heap.size+1:=Vw;obtain⟨y,z⟩:=l.I;clear X i k T a c U;go_wp2;clear y z;go_loopw [4,13] (λm i wr=>∃(k a:Nat) (names:aA),k<=bs.length/\i=aa k/\m=aa a/\a<=k/\names.length<=k/\Hid (fR types names a (bs.drop k)=r)/\fy wr w2.heap.size names/\fy wr (w.heap.size+1+1) types/\ak w wr) (λ_ i _=>bs.length-(intOf i).toNat)
 case atStart=>exact⟨0,0,[],aP _,rfl,rfl,aE _,Vw,g,h,Z,d⟩
 case round=>
  clear h Z d g;obtain⟨k,a,names,g,rfl,rfl,c,d,V,N,W,M⟩:=hrel;by_cases hlt:k<bs.length
  .obtain⟨b,j⟩:=gx hlt;have O:=L b (aL j);have h:bs.drop k=b::bs.drop (k+1):=(by rw[be hlt];rw[aO hlt]at j;rw[Option.some.inj j]);have v:Hid (fR types names a (b::bs.drop (k+1))=r):=by rw[<-h];exact V
   obtain⟨g,rfl,_,x,d⟩:=eJ f.1 Vv;obtain⟨A,C,B,q,u,s,c,f,m,o,p,t,i⟩:=K.get j;have l:=d wr (M.block g x);rw[Nat.add_zero]at c;have x:=l _ _ c;have D:=l _ _ f;have F:=l _ _ m;have G:=l _ _ o;have H:=l _ _ p;have I:=l _ _ t;have Y:=dZ.new wr #[.bool b.enum,aa (dX b.name.1),ag b.name.1,aa b.name.2,.slice A C B,.slice q u s] 152;have E:=M.alloc M.size (am #[.bool b.enum,aa (dX b.name.1),ag b.name.1,aa b.name.2,.slice A C B,.slice q u s] 152);clear d l c f m o p t;have g:fy (wr.Vn #[.bool b.enum,aa (dX b.name.1),ag b.name.1,aa b.name.2,.slice A C B,.slice q u s] 152) w2.heap.size names:=N.O (Below.l _ _ _ N.lt);have d:fy (wr.Vn #[.bool b.enum,aa (dX b.name.1),ag b.name.1,aa b.name.2,.slice A C B,.slice q u s] 152) (w.heap.size+1+1) types:=W.O (Below.l _ _ _ W.lt);have c:=N.lt;clear j h V N W;go_wp2_with fail;clear x D F G H I;refine(Tu _ w2.heap.size names _ _ _ g Vv).V ?_;cases h1:iT names b.name.1;rotate_left
   .rintro e D ⟨rfl,c⟩;obtain rfl:r= .error b.name.2:=by rw[<-v.o,fR];simp only[h1,if_true]
    unfold d5;go_wp2;exact⟨rfl,rfl,E.J (c.V E.size)⟩
   rintro e D ⟨rfl,P,c⟩;have h:ak w D:=E.J (c.to_below E.size (by intro x f;simp at f;omega));have Q:dZ D wr.heap.size #[.bool b.enum,aa (dX b.name.1),ag b.name.1,aa b.name.2,.slice A C B,.slice q u s] 152:=(c.block _ Y.lt Vx).J Y;have R:fy D (w.heap.size+1+1) types:=d.O (c.block _ d.lt Vx);have j:=i.O (w':=D) (λc _ G=>h.block c G);have f:GOK D:=n.O (h.block _ n.lt);have l:=Q.lt;obtain⟨l,m,n,o⟩:=j;clear Y g d E i;obtain⟨y,z⟩:=Q.I;cases hen:b.enum
   .cases h3:decide (6<a+1);rotate_left
    .have g:(6:Int)<(a:Int)+1:=by have:=of_decide_eq_true h3;omega
     obtain rfl:r= .error b.name.2:=by rw[<-v.o,fR];simp only[h1,hen,h3,aU,if_true,if_false]
     go_wp2_with fail;refine(lp _ _ b.name.1 b.name.2).V ?_;rintro e I ⟨rfl,d⟩;unfold d5;go_wp2;exact⟨rfl,rfl,h.J (d.V h.size)⟩
    have g:decide ((6:Int)<(a:Int)+1)=false:=by have:=of_decide_eq_false h3;simp;omega
    go_wp2_with fail;refine(rY _ _ b.name.1 b.name.2).V ?_;rintro e I ⟨rfl,d⟩;clear y z g;have J:=h.J (d.V h.size);have p:=Q.G d Q.lt;have g:=R.O (d.block _ R.lt);have i:=P.O (d.block _ P.lt);have j:=m.O (w':=I) (λc _ G=>d.block c G);have m:=n.O (w':=I) (λc _ G=>d.block c G);have c:=f.O (d.block _ f.lt);obtain⟨y,z⟩:=p.I;go_wp2_with fail;clear y z;refine(UZ _ (w.heap.size+1+1) types _ _ _ _ A C B q u s b.parts l S j m g O.parts O.fnum c).V ?_
    cases h2:gS types [] [] b.parts with
    |error p=>
     rintro e w6 ⟨n,F⟩;obtain rfl:e=d5 3 p:=n;obtain rfl:r= .error p:=by rw[<-v.o,fR];simp only[h1,hen,h2,h3,aU,if_false]
     unfold d5;go_wp2
     exact⟨rfl,rfl,J.J (F.V J.size)⟩
    |ok j=>
     rintro e w6 ⟨n,F⟩;obtain rfl:e= .returned (.tuple #[]):=n;have c:Hid (fR types (names++ [b.name.1]) (a+1) (bs.drop (k+1))=r):=(by have:=v.o;rw[fR]at this;simp only[h1,hen,h2,h3,aU,if_false]at this;exact this);go_wp2;go_roundw
     case rel=>exact⟨k+1,a+1,names++ [b.name.1],Vv,by go_num,by go_num,Vv,Vx,c,i.O (F.block _ i.lt),g.O (F.block _ g.lt),J.J (F.V J.size)⟩
     case measure=>simp[intOf];omega
   .go_wp2_with fail;clear y z;refine(UY _ _ _ _ _ _ _ _ q u s b.values o.1 O.vals O.vnum f).V ?_
    cases h2:lr [] b.values with
    |error p=>
     rintro e I ⟨n,d⟩;obtain rfl:e=d5 3 p:=n;obtain rfl:r= .error p:=by rw[<-v.o,fR];simp only[h1,hen,h2,aU,if_true,if_false]
     unfold d5;go_wp2
     exact⟨rfl,rfl,h.J (d.V h.size)⟩
    |ok j=>
     rintro e I ⟨n,d⟩;obtain rfl:e= .returned (.tuple #[]):=n;have c:Hid (fR types (names++ [b.name.1]) a (bs.drop (k+1))=r):=(by have:=v.o;rw[fR]at this;simp only[h1,hen,h2,aU,if_true,if_false]at this;exact this);go_wp2;go_roundw
     case rel=>exact⟨k+1,a,names++ [b.name.1],Vv,by go_num,rfl,Vv,Vx,c,P.O (d.block _ P.lt),R.O (d.block _ R.lt),h.J (d.V h.size)⟩
     case measure=>simp[intOf];omega
  .have a:bs.drop k= []:=by rw[cU];omega
   obtain rfl:r= .ok ():=by rw[<-V.o,a];rfl
   clear a;go_wp2;go_end0;exact⟨rfl,M⟩
end
section
variable {a:aC} {w w':aw} {n c k:Nat} {m:PM} {P:Value->PM->Prop} {Z:ax} {vv v:Value} {l:List PV}
theorem Jf (a:Addr):a.add 0=a:=by unfold Addr.add;simp
theorem lK {a:Addr}{j:Nat}{x:Option Value}(h:w.cell? (a.add (n+(j+1)))=x):w.cell? (aj ((a.add n).block) ((a.add n).off+(j+1)))=x:=by
 rw[show((aj ((a.add n).block) ((a.add n).off+(j+1))):Addr)=a.add (n+(j+1))by unfold Addr.add;by_cases h:n=0<;>simp[h,dg]];exact h
def iz (w:aw)(Z:ax)(v:Value)(n:Nat)(xs:ay):Prop:=
 ∃a c,v= .slice a n c/\n<=c/\(0<n->∃ad:Addr,a=some ad/\Z ad.block/\ad.block<w.heap.size/\∀w':aw,w'.heap[ad.block]?=w.heap[ad.block]?->∀p u,xs[p]?=some u->w'.cell? (ad.add p)=some u)
section
variable {w w':aw} {Z Y:ax} {v:Value} {n:Nat} {xs:ay}
theorem iz.form (h:iz w Z v n xs):∃a c,v= .slice a n c:=by
 obtain⟨a,c,h,_⟩:=h;exact⟨a,c,h⟩
theorem iz.cap (h:iz w Z (.slice a n c) n xs):n<=c:=by
 obtain⟨d,e,h,b,_⟩:=h;cases h;exact b
theorem iz.at {m:Nat}(h:iz w Z (.slice a m c) n xs)(hn:0<n):∃ad:Addr,a=some ad/\Z ad.block/\ad.block<w.heap.size/\∀w':aw,w'.heap[ad.block]?=w.heap[ad.block]?->∀p u,xs[p]?=some u->w'.cell? (ad.add p)=some u:=by
 obtain⟨d,e,h,_,b⟩:=h;cases h;exact b hn
theorem iz.O (h:iz w Z v n xs)(hk:∀b,Z b->b<w.heap.size->w'.heap[b]?=w.heap[b]?):iz w' Z v n xs:=by
 obtain⟨a,c,j,d,k⟩:=h;refine⟨a,c,j,d,λl=> ?_⟩;have⟨i,m,f,g,o⟩:=k l;have e:=hk _ f g;refine⟨i,m,f,?_,λw2 d=>o w2 (d.J e)⟩;rw[bU g]at e;exact(bK.1 e).1
theorem iz.V (h:iz w Z v n xs)(hz:∀b,Z b->b<w.heap.size->Y b):iz w Y v n xs:=by
 obtain⟨a,c,f,g,i⟩:=h;refine⟨a,c,f,g,λj=> ?_⟩;have⟨e,k,l,d,m⟩:=i j;exact⟨e,k,hz _ l d,d,m⟩
theorem eP.rd {T:TypeId}(h:eP w Z T k v n xs):iz w Z v n xs:=by
 obtain⟨a,c,rfl⟩:=iB h.1;refine⟨a,c,rfl,?_,λl=> ?_⟩
 .rcases h.1.2 with⟨b,i⟩|⟨g,e,f,b,i,q,r,s,t,x⟩;.cases b;omega
  .cases b;omega
 .obtain⟨g,rfl,_,d,j⟩:=eJ h.1 l;refine⟨(aj g 0),rfl,h.2 g rfl,d,λw' o p u m=> ?_⟩;have:=j w' o p u m
  rwa [show((aj g 0):Addr).add p=(aj g p)by unfold Addr.add;by_cases h:p=0<;>simp[h]]
end
def pS (P:Value->PM->Prop)(w:aw)(Z:ax)(vv:Value)(l:List PV):Prop:=∃VI,iz w Z vv l.length VI/\kC P VI l
def tH (P:Value->PM->Prop)(w:aw)(Z:ax):ay->List PF->Prop
 |cs,[]=>cs= []
 |cs,f::fs=>∃vv rest,cs=aa f.1::vv::rest/\pS P w Z vv f.2/\tH P w Z rest fs
def gV:Nat->aw->(ax)->Value->PM->Prop
 |0,_,_,_,_=>False
 |k+1,w,Z,v,m=>∃cs,iz w Z v m.fs.length cs/\tH (gV k w Z) w Z cs m.fs
theorem pS.O {Q:Value->PM->Prop}(e:∀v m,P v m->Q v m)(f:∀b,Z b->b<w.heap.size->w'.heap[b]?=w.heap[b]?)(h:pS P w Z vv l):pS Q w' Z vv l:=by
 obtain⟨a,c,d⟩:=h;exact⟨a,c.O f,d.imp e⟩
theorem tH.O {Q:Value->PM->Prop}(a:∀v m,P v m->Q v m)(c:∀b,Z b->b<w.heap.size->w'.heap[b]?=w.heap[b]?):∀{fs:List PF} {cs:ay},tH P w Z cs fs->tH Q w' Z cs fs
 | [],_,h=>h
 |_::_,_,⟨vv,rest,h1,h2,h3⟩=>⟨vv,rest,h1,h2.O a c,tH.O a c h3⟩
theorem gV.O (a:∀b,Z b->b<w.heap.size->w'.heap[b]?=w.heap[b]?):∀{k:Nat} {v:Value} {m:PM},gV k w Z v m->gV k w' Z v m
 |0,_,_,h=>h
 |_+1,_,_,⟨cs,h1,h2⟩=>⟨cs,h1.O a,h2.O (λ_ _ h=>gV.O a h) a⟩
theorem gV.G (a:Below n w w')(d:w.heap.size<=n)(h:gV k w Z v m):gV k w' Z v m:=
 h.O (λb _ c=>a.block b (aI c d))
theorem pS.G (a:Below n w w')(c:w.heap.size<=n)(h:pS (gV k w Z) w Z v l):pS (gV k w' Z) w' Z v l:=
 h.O (λ_ _ h=>h.G a c) (λb _ d=>a.block b (aI d c))
theorem tH.G (a:Below n w w')(c:w.heap.size<=n){cs:ay}{l:List PF}(h:tH (gV k w Z) w Z cs l):tH (gV k w' Z) w' Z cs l:=
 h.O (λ_ _ h=>h.G a c) (λb _ d=>a.block b (aI d c))
theorem tH.V {Q:Value->PM->Prop}{Y:ax}(a:∀v m,P v m->Q v m)(c:∀b,Z b->b<w.heap.size->Y b):∀{fs:List PF} {cs:ay},tH P w Z cs fs->tH Q w Y cs fs
 | [],_,h=>h
 |_::_,_,⟨vv,rest,h1,⟨VI,h2,h4⟩,h3⟩=>⟨vv,rest,h1,⟨VI,h2.V c,h4.imp a⟩,tH.V a c h3⟩
theorem gV.V {Y:ax}(a:∀b,Z b->b<w.heap.size->Y b):∀{k:Nat} {v:Value} {m:PM},gV k w Z v m->gV k w Y v m
 |0,_,_,h=>h
 |_+1,_,_,⟨cs,h1,h2⟩=>⟨cs,h1.V a,h2.V (λ_ _ h=>gV.V a h) a⟩
theorem tH.get:∀{l:List PF} {cs:ay},tH P w Z cs l->∀{i:Nat} {f:PF},l[i]?=some f->
  ∃vv,pS P w Z vv f.2/\cs[i*2]?=some (aa f.1)/\cs[i*2+1]?=some vv
 | [],_,_,i,v,h=>by simp at h
 |x::l,_,⟨vv,rest,h1,h2,h3⟩,0,v,h=>by
  subst h1;simp at h;subst h
  exact⟨vv,h2,rfl,rfl⟩
 |x::l,_,⟨vv,rest,h1,h2,h3⟩,i+1,v,h=>by
  subst h1;have⟨vv,a,b,c⟩:=tH.get h3 (i:=i) (f:=v) (by simpa using h);exact⟨vv,a,by rw[show(i+1)*2=i*2+1+1 by omega];simpa using b,by rw[show(i+1)*2+1=i*2+1+1+1 by omega];simpa using c⟩
theorem pS.form (h:pS P w Z vv l):∃a c,vv= .slice a l.length c:=by
 obtain⟨d,b,_⟩:=h;exact b.form
theorem gV.form (h:gV k w Z v m):∃a c,v= .slice a m.fs.length c:=by
 cases k with
 |zero=>exact h.elim
 |succ k=>
  obtain⟨cs,b,_⟩:=h;exact b.form
theorem mD.rn {Q:Value->PM->Prop}(a:∀v m,P v m->Q v m):∀{fs:List PF} {cs:ay},mD P w Z cs fs->tH Q w Z cs fs
 | [],_,h=>h
 |_::_,_,⟨vv,rest,h1,⟨VI,h2,h4⟩,h3⟩=>⟨vv,rest,h1,⟨VI,h2.rd,h4.imp a⟩,mD.rn a h3⟩
theorem qZ.rn:∀{k:Nat} {v:Value} {m:PM},qZ k w Z v m->gV k w Z v m
 |0,_,_,h=>h
 |_+1,_,_,⟨cs,h1,h2⟩=>⟨cs,h1.rd,h2.rn (λ_ _ h=>qZ.rn h)⟩
end
section
variable {b c:au} {e a deep e':Nat} {S:eF}
structure Ag (b c:au)(e:Nat):Prop where
 at_:∀i,i<e->gh c i=gh b i
 ext:∀i j,j<=e->c.extract i j=b.extract i j
theorem Ag.refl (b:au)(e:Nat):Ag b b e:=⟨λ_ _=>rfl,λ_ _ _=>rfl⟩
theorem Ag.less {f:Nat}(h:Ag b c e)(a:f<=e):Ag b c f:=⟨λi d=>h.at_ i Vv,λi j g=>h.ext i j Vv⟩
theorem mt (b:au)(i:Nat):gh b i=((b.data.toList[i]?).map λx=>(x.toNat:Int)).getD 0:=by
 unfold gh;split;.rename_i h;rw[bS,bU (show i<b.data.size from h)];rfl
 simp_all
theorem o8 (b t:au):(b++t).data.toList=b.data.toList++t.data.toList:=Vw
theorem Pp (b t:au)(i:Nat):gh (b++t) (b.size+i)=gh t i:=by
 rw[mt,mt,o8,cj Vw];simp
theorem Ag.app (b t:au):Ag b (b++t) b.size:=by
 refine⟨λi e=> ?_,λi j f=> ?_⟩;.rw[mt,mt,o8,cy (by simpa using e)]
 .have a:∀c:au,(c.extract i j).data.toList=(c.data.toList.take j).drop i:=λc=>by
   rw[cM,Array.toList_extract,List.extract_eq_take_drop,List.drop_take]
  have d:((b++t).extract i j).data.toList=(b.extract i j).data.toList:=(by rw[a,a,o8,dm (by simpa using f)]);exact cS (cX.1 d)
theorem MH (h:Ag b c e):∀f i n,mK c a e f i n=mK b a e f i n
 |0,_,_=>rfl
 |f+1,i,n=>by
  rw[mK,mK];split;.rename_i d;rw[h.at_ _ d,MH h f]
  .rfl
theorem Gs (h:Ag b c e):fO c a e=fO b a e:=by
 have d:∀a,iV c a e=iV b a e:=λa=>MH h 10 0 0
 unfold fO;rw[d a];split;.rfl
 .rename_i t fr _;rw[d fr];have g:fr+8<=e->c.extract fr (fr+8)=b.extract fr (fr+8):=λq=>h.ext _ _ q
  have f:fr+4<=e->c.extract fr (fr+4)=b.extract fr (fr+4):=λq=>h.ext _ _ q
  simp_all
theorem CF {k:Nat}(h:Ag b c e):∀F l a,fY c k e F l a=fY b k e F l a
 |0,_,_=>rfl
 |F+1,l,a=>by
  rw[fY,fY];have d:iV c a e=iV b a e:=MH h 10 0 0;rw[d];split
  .split
   .split;.rfl
    .rw[CF h F]
   .simp only;generalize(if eM k=5 then 4 else 8)=z;split;.rw[h.ext _ _ ‹_›,CF h F]
    .rfl
  .rfl
def kF (S:eF)(b:au)(F:Nat)(d:MT)(m:PM)(r:pO)(deep:Nat):Fx PM:=
 match ed d.fs r.num with
 |none=> .ok (m.O (b.extract r.a r.e))
 |some f=>if r.kind=fX S f then qr S b F d f m r deep
  else if r.kind=2/\f.isRep=true then(match mL S b f (m.get f.num) r.fr r.e with| .error x=> .error x| .ok l=> .ok (m.put f.num l))
  else .ok (m.O (b.extract r.a r.e))
theorem jz {F:Nat}{d:MT}{m:PM}{r:pO}(h:a<e)(c:fO b a e= .ok r):eY S b (F+1) d m a e deep=La S b F d r.e e deep (kF S b F d m r deep):=by
 unfold kF;split;.rename_i i;exact pB h c λf q=>by simp_all
 .rename_i f i;split;.exact Az h c i ‹_›
  .split;.rename_i k j;exact xV h c i k j.1 j.2
   .rename_i k j
    exact pB h c λg q=>by
     simp_all
theorem oe:∀(F G:Nat) (d:MT) (m:PM) (a e deep:Nat),Ag b c e->e-a<F->e-a<G->eY S c G d m a e deep=eY S b F d m a e deep
 |0,_,_,_,_,_,_,_,h,_=>absurd h Vv
 |_+1,0,_,_,_,_,_,_,_,h=>absurd h Vv
 |F+1,G+1,d,m,a,e,deep,hA,hF,hG=>by
  by_cases hl:a<e
  .have i:=Gs (a:=a) hA
   cases hr:fO b a e with
   |error x=>rw[jn hl hr,jn hl (i.J hr)]
   |ok r=>
    rw[jz hl hr,jz hl (i.J hr)];have⟨o,p,q,s,g,_⟩:=jf hr;have j:=hA.less g
    have k:kF S c G d m r deep=kF S b F d m r deep:=by
     have l:c.extract r.a r.e=b.extract r.a r.e:=hA.ext _ _ g;have n:c.extract r.fr r.e=b.extract r.fr r.e:=hA.ext _ _ g;unfold kF;rw[l];split;.rfl
     .rename_i f _;split
      .have:ot S c G f m r deep=ot S b F f m r deep:=by
        unfold ot zO oj;rw[n];split;.rename_i sub _;rw[oe F G sub _ r.fr r.e (deep+1) j Vv Vv]
        .rfl
       unfold qr;rw[this]
      .unfold mL;rw[CF j]
    rw[k];unfold La;split;.rfl
    .exact oe F G d _ r.e e deep hA Vv Vv
  .rw[iR hl,iR hl]
theorem MJ (d:e<=e'):∀f i n,(∀x,mK b a e f i n= .ok x->mK b a e' f i n= .ok x)/\∀c p,mK b a e f i n= .error (c,p)->c≠6->mK b a e' f i n= .error (c,p)
 |0,_,_=>⟨λ_ h=>h,λ_ _ h _=>h⟩
 |f+1,i,n=>by
  rw[mK,mK];by_cases hl:a+i<e
  .rw[dR hl,dR (show a+i<e' by omega)];split;.simp
   .split;.simp
    .exact MJ d f _ _
  grind
theorem xh (d:e<=e'):(∀x,iV b a e= .ok x->iV b a e'= .ok x)/\∀c p,iV b a e= .error (c,p)->c≠6->iV b a e'= .error (c,p):=MJ d 10 0 0
theorem CG (g:e<=e'):(∀r,fO b a e= .ok r->fO b a e'= .ok r)/\∀c p,fO b a e= .error (c,p)->c≠6->fO b a e'= .error (c,p):=by
 have d:∀{α:Type} {c p:Int} {k:Nat} {X:Fx α},(Except.error ((6:Int),(k:Int)):Fx α)= .error (c,p)->c≠6->X= .error (c,p):=λh f=>by
  simp_all
 have⟨i,j⟩:=xh (b:=b) (a:=a) g;unfold fO
 cases hv:iV b a e with
 |error x=>
  refine⟨λr h=>(by cases h),λc p h f=> ?_⟩;have h:Except.error x=Except.error (c,p):=h;cases h
  rw[j c p hv f]
 |ok x=>
  obtain⟨t,fr⟩:=x;rw[i _ hv];simp only;have⟨u1,u2⟩:=xh (b:=b) (a:=fr) g;split;.simp
  grind
theorem rt (f:e<=e'):∀(F G:Nat) (d:MT) (m:PM) (a:Nat),a<=e->e-a<F->e'-a<G->
  (∀c p,eY S b F d m a e deep= .error (c,p)->c≠6->eY S b G d m a e' deep= .error (c,p))/\
  ∀m',eY S b F d m a e deep= .ok m'->∀K,e'-e<K->eY S b G d m a e' deep=eY S b K d m' e e' deep
 |0,_,_,_,_,_,h,_=>absurd h Vv
 |_+1,0,_,_,_,_,_,h=>absurd h Vv
 |F+1,G+1,d,m,a,ha,hF,hG=>by
  by_cases hl:a<e
  .cases hr:fO b a e with
   |error x=>
    rw[jn hl hr];refine⟨λc p h i=> ?_,λm' h=>(by cases h)⟩;cases h
    exact jn Vv ((CG f).2 c p hr i)
   |ok r=>
    have⟨n,o,q,s,l,_⟩:=jf hr;rw[jz hl hr,jz Vv ((CG f).1 r hr)]
    have j:kF S b G d m r deep=kF S b F d m r deep:=by
     unfold kF qr ot zO;split;.rfl
     .split
      .split;.rename_i sub _;rw[oe F G sub _ r.fr r.e (deep+1) (Ag.refl _ _) Vv Vv]
       .rfl
      .rfl
    rw[j]
    cases hq:kF S b F d m r deep with
    |error x=>exact⟨λc p h _=>h,λm' h=>(by cases h)⟩
    |ok k=>exact rt f F G d k r.e l Vv Vv
  .rw[iR hl];obtain rfl:a=e:=Vv;refine⟨λc p h=>(by cases h),λm' h K g=> ?_⟩;cases h;exact oe K (G+1) d m a e' deep (Ag.refl _ _) g Vv
theorem yY {t:au}:∀f i n,(∀m z,mK t a e f i n= .ok (m,z)->mK (b++t) (b.size+a) (b.size+e) f i n= .ok (m,b.size+z))/\∀c p,mK t a e f i n= .error (c,p)->mK (b++t) (b.size+a) (b.size+e) f i n= .error (c,b.size+p)
 |0,_,_=>by
  refine⟨λm z h=>(by cases h),λc p h=> ?_⟩;cases h
  rfl
 |f+1,i,n=>by
  rw[mK,mK,show b.size+a+i=b.size+(a+i)by omega,Pp];by_cases hl:a+i<e
  .rw[dR hl,dR (show b.size+(a+i)<b.size+e by omega)];split;.simp
   .split;·(simp;omega)
    .exact yY f _ _
  grind
end
def pO.sh (r:pO)(k:Nat):pO:=⟨r.num,r.kind,k+r.a,k+r.fr,k+r.e,r.n⟩
def o9 (c:au)(i j:Nat):(c.extract i j).data.toList=(c.data.toList.take j).drop i:=by
 rw[cM,Array.toList_extract,List.extract_eq_take_drop,List.drop_take]
def jA {a b:au}(h:a.data.toList=b.data.toList):a=b:=cS (cX.1 h)
def tO (b t:au)(i j:Nat):(b++t).extract (b.size+i) (b.size+j)=t.extract i j:=by
 refine jA ?_;simp
section
variable {b t:au}
def Im {a e:Nat}{m:Int}{z:Nat}(h:iV t a e= .ok (m,z)):iV (b++t) (b.size+a) (b.size+e)= .ok (m,b.size+z):=(yY 10 0 0).1 m z h
def Gt {a e:Nat}{r:pO}(h:fO t a e= .ok r):fO (b++t) (b.size+a) (b.size+e)= .ok (r.sh b.size):=by
 unfold fO at*
 cases h1:iV t a e with
 |error x=>simp_all
 |ok x=>
  obtain⟨n,fr⟩:=x;rw[h1]at h;rw[Im h1];simp only at*;split at h;.cases h
  .rw[dQ ‹_›];split at h
   .rw[dR ‹_›]
    cases h2:iV t fr e with
    |error x=>simp_all
    |ok x=>
     rw[h2]at h;rw[Im h2];cases h;rfl
   .rw[dQ ‹_›];split at h
    .rw[dR ‹_›];split at h;.rw[dR Vv];cases h;rw[dg,tO];rfl
     .cases h
    .rw[dQ ‹_›];split at h
     .rw[dR ‹_›];split at h;.rw[dR Vv];cases h;rw[dg,tO];rfl
      .cases h
     .rw[dQ ‹_›];split at h
      .rw[dR ‹_›]
       cases h2:iV t fr e with
       |error x=>simp_all
       |ok x=>
        obtain⟨q,c⟩:=x;rw[h2]at h;rw[Im h2];simp only at*;split at h;.rw[dR Vv];cases h;simp[pO.sh,dg]
        .cases h
      .cases h
def CH {k e:Nat}{l':List PV}:∀F l a,fY t k e F l a= .ok l'->fY (b++t) k (b.size+e) F l (b.size+a)= .ok l'
 |0,_,_,h=>h
 |F+1,l,a,h=>by
  rw[fY]at*;by_cases hl:a<e
  .rw[dR hl]at h;rw[dR (show b.size+a<b.size+e by omega)];split at h
   .rw[dR ‹_›]
    cases h2:iV t a e with
    |error x=>simp_all
    |ok x=>
     rw[h2]at h;rw[Im h2];exact CH F _ _ h
   .rw[dQ ‹_›];simp only at*;generalize(if eM k=5 then 4 else 8)=z at*;split at h;.rw[dR Vv,dg,tO];exact CH F _ _ h
    .cases h
  grind
def xi {S:eF}:∀(F:Nat) (d:MT) (m:PM) (a e deep:Nat) (m':PM),eY S t F d m a e deep= .ok m'->eY S (b++t) F d m (b.size+a) (b.size+e) deep= .ok m'
 |0,_,_,_,_,_,_,h=>h
 |F+1,d,m,a,e,deep,m',h=>by
  by_cases hl:a<e
  .cases hr:fO t a e with
   |error x=>rw[jn hl hr]at h;cases h
   |ok r=>
    rw[jz hl hr]at h;rw[jz Vv (Gt hr)]
    cases hs:kF S t F d m r deep with
    |error x=>rw[hs]at h;cases h
    |ok m1=>
     rw[hs]at h
     have i:kF S (b++t) F d m (r.sh b.size) deep= .ok m1:=by
      have l:(b++t).extract (r.sh b.size).a (r.sh b.size).e=t.extract r.a r.e:=tO b t r.a r.e;have n:(b++t).extract (r.sh b.size).fr (r.sh b.size).e=t.extract r.fr r.e:=tO b t r.fr r.e;unfold kF at*;rw[l];show(match ed d.fs r.num with|none=>_|some f=>if r.kind=fX S f then _ else if r.kind=2/\f.isRep=true then _ else _)=_;split at hs;.simp_all
      .rename_i f j
       try (rw[j];simp only)
       split at hs
       .rw[dR ‹_›];unfold qr at*
        have:∀v,ot S t F f m r deep= .ok v->ot S (b++t) F f m (r.sh b.size) deep= .ok v:=λv c=>by
         unfold ot zO oj at*;rw[n];split at c
         .rename_i sub _;split at c;.cases c
          .rename_i o g;split at g;.grind
           .rw[dQ ‹_›,show(r.sh b.size).fr=b.size+r.fr from rfl,show(r.sh b.size).e=b.size+r.e from rfl,xi F sub _ r.fr r.e (deep+1) o g];exact c
         .split at c;.rw[dR ‹_›];grind
          .rw[dQ ‹_›];exact c
        cases c:ot S t F f m r deep with
        |error x=>rw[c]at hs;cases hs
        |ok v=>simp_all
       .rw[dQ ‹_›];split at hs
        .rw[dR ‹_›];unfold mL at*;split at hs;.cases hs
         .rename_i p k;rw[show(r.sh b.size).fr=b.size+r.fr from rfl,show(r.sh b.size).e=b.size+r.e from rfl,show b.size+r.e-(b.size+r.fr)=r.e-r.fr by omega,CH _ _ _ k];exact hs
        simp_all
     rw[i];exact xi F d m1 r.e e deep m' h
  .rw[iR hl]at h;rw[iR Vv];exact h
end
def rd (S:eF)(t:au)(d:MT)(m:PM)(deep:Nat):Fx PM:=eY S t (t.size+1) d m 0 t.size deep
def ML (S:eF)(nm b:au):jj S nm b=match S.msg nm with|none=> .error (5,0)|some d=>rd S b d PM.none 1:=rfl
section
variable {S:eF} {d:MT} {m m1 m2:PM} {deep:Nat} {s t:au}
def Y4 (h:t.size=0):rd S t d m deep= .ok m:=iR Vv
def Gu (h1:rd S s d m deep= .ok m1)(h2:rd S t d m1 deep= .ok m2):rd S (s++t) d m deep= .ok m2:=by
 unfold rd at*;have a:(s++t).size=s.size+t.size:=Vw;rw[<-oe (s.size+1) (s.size+1) d m 0 s.size deep (Ag.app s t) Vv Vv]at h1;rw[(rt Vv _ _ d m 0 (aP _) Vv Vv).2 m1 h1 (t.size+1) Vv,a];exact xi (t.size+1) d m1 0 t.size deep m2 h2
def Td (h:rd S t d m deep= .ok m1){F:Nat}(a:t.size<F):eY S (s++t) F d m s.size (s.size+t.size) deep= .ok m1:=by
 rw[oe (b:=s++t) (t.size+1) F d m s.size (s.size+t.size) deep (Ag.refl _ _) Vv Vv];exact xi (t.size+1) d m 0 t.size deep m1 h
def CI {r:pO}(a:fO t 0 t.size= .ok r)(f:r.e=t.size)(c:kF S t t.size d m r deep= .ok m1):rd S t d m deep= .ok m1:=by
 have⟨_,_,e,_,_,_⟩:=jf a;unfold rd;rw[jz Vv a,c];exact iR Vv
end
def bl (l:ap):au:=⟨l.toArray⟩
def iJ (l:ap):(bl l).data.toList=l:=rfl
def fT (l:ap):(bl l).size=l.length:=VB
def pH (l r:ap):bl (l++r)=bl l++bl r:=jA (by rw[o8,iJ,iJ,iJ])
def CJ (b:au):bl b.data.toList=b:=jA rfl
end Go.Proofs.YtfebdimolnobaaaGreatDoor
