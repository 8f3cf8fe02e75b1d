import Derived.Test.YtfebdimolnobaaaGreatDoorTreeOK
import Derived.Test.YtfebdimolnobaaaGreatDoorRrB
import Derived.Shelf.SlSortCmp.NoneTotal
set_option maxRecDepth 100000
set_option maxHeartbeats 8000000
set_option linter.all false
namespace Go.Proofs.YtfebdimolnobaaaGreatDoor
open Go.RowKit Go.Proofs.Tryz
section
open Go.Maps Go.Sort
section
variable {α:Type} [Inhabited α] {enc:α->Value}
def DE {w:aw}{g n:Nat}{os:Array Obj}{VI:aq}{e:TypeId}{fr:Nat×Nat}(d:Array α)(a:w.heap[g]?=some (.cells VI e fr)):
  (sortWorld enc w g 0 n d os).heap[g]?=some (.cells (putCells enc 0 d VI) e fr):=by
 have b:g<w.heap.size:=(bK.1 a).1;unfold sortWorld;rw[heap_grow_old _ _ (by simpa using b)];simp[putRow,mapBlock,Sort.ahead,Array.getElem?_modify,a,onCells]
def uw {w:aw}{g n:Nat}{os:Array Obj}(d:Array α):w.grownBy (sortWorld enc w g 0 n d os) (some g):=by
 refine⟨rfl,rfl,rfl,by simp[sortWorld],λk b a=> ?_⟩;unfold sortWorld;rw[heap_grow_old _ _ (by simpa using b)];have:g≠k:=λe=>a (by rw[e])
 simp[putRow,mapBlock,Sort.ahead,Array.getElem?_modify,this]
def DF (VI:aq)(ts:List α)(h:ts.length<=VI.size):(putCells enc 0 ts.toArray VI).toList.take ts.length=ts.map enc:=by
 apply List.ext_getElem?;intro j;by_cases hj:j<ts.length;.rw[cC hj,bS];simp[putCells,hj,show j<VI.size by omega]
 .rw[List.getElem?_take_eq_none Vv,bg Vx]
def DG {w:aw}{base g cap n m:Nat}{e:TypeId}{os:Array Obj}{VI:aq}{ts:List α}(b:ts.length=m)(a:base<=g)(f:w.heap[g]?=some (.cells VI e (0,0)))
  (h1:m<=cap) (c:cap<=maxLen) (d:VI.size=cap*1):
  (sortWorld enc w g 0 n ts.toArray os).ownsRow base e 1 (Vr g m cap) m (ts.map enc):=
 ⟨by simp[b],.inr ⟨g,cap,_,rfl,a,DE _ f,h1,c,by simp[putCells,d],by rw[Nat.mul_one,<-b];exact DF VI ts Vv⟩⟩
def Aj {w:aw}{g:Nat}{VI:aq}{e:TypeId}{ss:List α}(c:w.heap[g]?=some (.cells VI e (0,0)))(f:VI.toList.take ss.length=ss.map enc):Holds enc w g 0 ss.toArray:=by
 intro j d;have a:j<ss.length:=by simpa using d
 refine⟨?_,by simp[World.frozen?,c]⟩;have b:(VI.toList.take ss.length)[j]?=(ss.map enc)[j]?:=by rw[f]
 rw[cC a]at b;simp only[World.cell?,c,Nat.zero_add];simp only[Option.isSome_none,aU,if_false];rw[<-bS,b];simp[a]
end
def Ak {β:Type}{p:β->Prop}:∀l:List β,(∀x∈l,p x)->∃D:List {x:β//p x},D.map (·.1)=l
 | [],_=>⟨[],rfl⟩
 |x::l,h=>by
  have⟨D,a⟩:=Ak l (λy b=>h y (aY _ b));exact⟨⟨x,h x aZ⟩::D,by simp[a]⟩
def lH (w:aw)(g:Nat):Type:={x:Int×Nat//w.cell? (aj x.2 0)=some (aa x.1)/\x.2≠g}
def lH.enc {w:aw}{g:Nat}(x:lH w g):Value:=ii (some x.1.2)
def lH.cf {w:aw}{g:Nat}(x y:lH w g):Int:=lG x.1.1 y.1.1
def lH.lt {w:aw}{g:Nat}(x y:lH w g):ltOf (lH.cf (w:=w) (g:=g)) x y=decide (x.1.1<y.1.1):=by
 unfold ltOf lH.cf;rw[cH];simp[nW]
def lH.swo (w:aw)(g:Nat):SWO (ltOf (lH.cf (w:=w) (g:=g)))where
 irrefl x:=by rw[lH.lt];simp
 trans x y z h1 h2:=by rw[lH.lt]at*;simp at*;omega
 ntrans x y z h1 h2:=by rw[lH.lt]at*;simp at*;omega
def QN (w:aw)(lo:Nat)(v:Value)(l:List (Int×Nat))(e:Ending)(w':aw):Prop:=
 e= .returned (.tuple #[])/\∃l':List (Int×Nat),l'.Perm l/\l'.Pairwise (λa b=>a.1<=b.1)/\w'.ownsRow lo 212 1 v l.length (fA (l'.map (·.2)))/\w.grownBy w' v.ownBlock
def QO (w:aw)(lo:Nat)(v:Value)(l:List (Int×Nat))(d:w.ownsRow lo 212 1 v l.length (fA (l.map (·.2))))(W:∀x∈l,w.cell? (aj x.2 0)=some (aa x.1))(K:∀x∈l,v.ownBlock≠some x.2)(a:l.length<=2001):
  Vq 112 #[v,.func (.func 113) #[] #[]] w (QN w lo v l):=by
 by_cases h0:l= [];.subst h0;obtain⟨a,c,rfl⟩:=iB d;refine(AnyF.slices_SortFunc_none (P:=prog) (ρ:=Tryz.sortF_ren) {Tryz.sortF with} a c _ w).V ?_;rintro e w' ⟨rfl,rfl⟩;exact⟨rfl,[],List.Perm.refl _,List.Pairwise.nil,d,⟨rfl,rfl,rfl,aE _,λ_ _ _=>rfl⟩⟩
 .rcases d.2 with⟨rfl,T⟩|⟨g,o,f,rfl,V,r,c,Z,P,b⟩;.exact absurd (bF T) h0
  .have L:g<w.heap.size:=dZ.lt r;have C:∀x∈l,w.cell? (aj x.2 0)=some (aa x.1)/\x.2≠g:=λx E=>⟨W x E,λe=>K x E (by rw[e];rfl)⟩
   have⟨F,O⟩:=List.exists_mem_of_ne_nil l h0;haveI:Inhabited (lH w g):=⟨⟨F,C F O⟩⟩;obtain⟨D,p⟩:∃D:List (lH w g),D.map (·.1)=l:=Ak l C;have A:D.length=l.length:=by rw[<-p];simp
   have G:fA (l.map (·.2))=D.map lH.enc:=(by rw[<-p];unfold fA;rw[bM,bM];rfl);have S:∀args w,(callFunc 113 args).run prog w= .ok (.enter 113 args) w:=enters_of func113 VA rfl
   have J:CmpLays1 prog 113 #[] (lH.enc (w:=w) (g:=g)) lH.cf g 0 D.toArray.size w:=by
    intro m os B h x y
    have s:∀z:lH w g,(sortWorld lH.enc w g 0 m B os).cell? (aj z.1.2 0)=some (aa z.1.1):=λz=>by
     have d:=aV _ _ z.2.1;have M:=(uw (enc:=lH.enc) (w:=w) (g:=g) (n:=m) (os:=os) B).block z.1.2 d (λe=>z.2.2 (Option.some.inj e));exact(bE (a:=(aj z.1.2 0)) M).J z.2.1
    refine(QM x.1.2 y.1.2 x.1.1 y.1.1 _ (s x) (s y)).V ?_;rintro e w' ⟨rfl,q,rfl⟩;exact⟨rfl,q,#[],by rw[grow_empty]⟩
   have U:Holds lH.enc w g 0 D.toArray:=Aj r (by rw[A,<-G];simpa using b);have u:=Any.slices_SortFunc Tryz.sortF lH.enc (λ_=>rfl) lH.cf (lH.swo w g) 113 #[] g 0 o D.toArray w S J U L Vx;have k:(D.toArray.size)=l.length:=by simpa using A
   rw[k]at u;refine u.V ?_;rintro e w' ⟨rfl,b,n,os,t,H,rfl⟩;have h:b.size=l.length:=by rw[t.1];exact k
   refine⟨rfl,b.toList.map (·.1),?_,?_,?_,uw b⟩;.have f:=t.2.2;rw[<-k]at f;rw[dI,show D.toArray.size=b.size from by rw[h];exact k,dI]at f;rw[<-p];exact List.Perm.map _ (by simpa using f)
   .rw[cw,cg];intro i j X Y Q;have N:i<b.size:=by simpa using X
    have I:j<b.size:=by simpa using Y
    have f:=H i j (aP _) Q Vv;rw[lH.lt,getElem!_pos b i N,getElem!_pos b j I]at f;simp at f⊢;exact f
   .have R:fA ((b.toList.map (·.1)).map (·.2))=b.toList.map lH.enc:=(by unfold fA;rw[bM,bM];rfl);rw[R];have:=DG (enc:=lH.enc) (n:=n) (os:=os) (ts:=b.toList) (m:=l.length) (by simpa using h) V r c Z P;simpa using this
end
section
open VH
def pP (s:au)(a:Nat)(n:Int):Fx (au×Nat):=if(a:Int)+n<=s.size then .ok (s.extract a (a+n.toNat),a+n.toNat)else .error (6,a)
def xK (w:aw)(rb:Nat)(s:au)(a:Nat)(deep:Int)(n:Int)(h:ei w rb s a deep)(m:a<=s.size)(p:s.size<=2^47)(b:0<=n)(d:n<2^64):
  Calls prog 196 #[ah rb,.int .u64 n] w (pV w rb s deep (pP s a n) Value.string):=by
 obtain⟨L,i⟩:=Vu (s.extract a s.size);have f:L.size=s.size-a:=by rw[<-i,bf];omega
 have l:Hid (∀(w:aw),ei w rb s a deep->Vq 272 #[ah rb] w λe w'=>e= .returned (ag L)/\∃q,w'=w.drewN q):=λw h=>by
  rw[<-i];exact Fr w rb s a deep h m
 have C:IntKind.u64.wrap (L.size:Int)=(L.size:Int):=gU Vv Vv;unfold pP;by_cases hle:(a:Int)+n<=s.size
 .rw[dR hle];obtain⟨k,rfl⟩:=bG b;have u:Hid (a+k<=s.size):=by show a+k<=s.size;omega
  have y:(k:Int)<=2^47:=Vv;have v:(a:Int)<=2^47:=Vv;have x:decide (L.size<k)=false:=Vx;have z:IntKind.i64.wrap (k:Int)=(k:Int):=by simp[IntKind.wrap,IntKind.bits,IntKind.signed];omega
  clear i f hle b d m p;go_in
  go_wp2_with fail;refine(l.o _ h).V ?_;rintro e w2 ⟨rfl,q,rfl⟩;have g:=h.drewN q;have j:ee [rb] w (w.drewN q):=(ee.refl _ _).drewN q;generalize w.drewN q=wq at*;have⟨A,B⟩:=dZ.I g;clear h l;go_wp2_with fail;have o:ei (wq.setCell (aj rb 1) (aa ((a:Int)+(k:Int)))) rb s (a+k) deep:=by unfold ei;simpa using dZ.set g 1 (aa ((a:Int)+(k:Int)))
  have t:=j.set1 (c:=rb) Vw 1 (aa ((a:Int)+(k:Int)));refine(wG _ _ _ _ _ a o Vv u.o).V ?_;rintro e w3 ⟨rfl,r,rfl⟩;go_wp2;go_ret;exact⟨t.drewN r,rfl,o.drewN r⟩
 .rw[dQ hle];obtain⟨k,rfl⟩:=bG b;have x:decide (L.size<k)=true:=Vx;clear i f hle b d m p;go_in
  go_wp2_with fail;refine(l.o _ h).V ?_;rintro e w2 ⟨rfl,q,rfl⟩;have g:=h.drewN q;have j:ee [rb] w (w.drewN q):=(ee.refl _ _).drewN q;generalize w.drewN q=wq at*;have⟨A,B⟩:=dZ.I g;go_wp2_with fail;refine(JQ _ _ _).V ?_;rintro e D ⟨rfl,rfl⟩;go_wp2;exact⟨rfl,j,rfl⟩
def ft (s:au)(a:Nat):Fx (Nat×Nat):=
 match iV s a s.size with
 | .error x=> .error x
 | .ok x=>if(x.2:Int)+x.1<=s.size then .ok (x.2,x.2+x.1.toNat)else .error (6,x.2)
def GZ (w:aw)(rb:Nat)(s:au)(deep:Int)(r:Fx (Nat×Nat))(e:Ending)(w':aw):Prop:=
 ee [rb] w w'/\(match r with
 | .error x=>e=d5 x.1 x.2
 | .ok x=>∃nb,e= .returned (ah nb)/\w.heap.size<=nb/\nb≠rb/\ei w' nb (s.extract 0 x.2) x.1 deep/\ei w' rb s x.2 deep)
def oN (w:aw)(rb:Nat)(s:au)(a:Nat)(deep:Int)(h:ei w rb s a deep)(t:s.size<=2^47):
  Calls prog 197 #[ah rb] w (GZ w rb s deep (ft s a)):=by
 obtain⟨r,f⟩:∃r,Hid (ft s a=r):=⟨_,rfl⟩;rw[f.o];go_in
 go_wp2_with fail;refine(nw w rb s a deep h t).V ?_
 cases hv:iV s a s.size with
 |error x=>
  rintro e w2 ⟨g,k⟩;obtain rfl:e=d5 x.1 x.2:=k;obtain rfl:r= .error x:=by rw[<-f.o,ft,hv]
  unfold d5;go_wp2
  exact⟨rfl,g,rfl⟩
 |ok x=>
  obtain⟨n,z⟩:=x;have⟨C,D,F,E⟩:=jm hv;rintro e w2 ⟨g,k,i⟩;have i:=i;obtain rfl:e= .returned (.int .u64 n):=k;have⟨A,B⟩:=dZ.I i;go_wp2_with fail;refine(xK w2 rb s z deep n i E t C D).V ?_;unfold pP;by_cases hle:(z:Int)+n<=s.size
  .rw[dR hle];obtain rfl:r= .ok (z,z+n.toNat):=by rw[<-f.o,ft,hv];simp only;rw[dR hle]
   rintro e w3 ⟨j,d,c⟩;have d:=d;subst d;obtain⟨m,q⟩:=Vu (z+n.toNat);have c:=c;rw[q]at c;have l:Hid (z+n.toNat=m):=q;have v:m<=s.size:=Vv;have o:=g.J j;have u:rb<w3.heap.size:=dZ.lt c;have p:rb<w.heap.size:=dZ.lt h;have⟨A,B⟩:=dZ.I c;have b:dZ w3.drew rb #[ag s,aa m,aa deep] 244:=c;go_wp2
   go_region_held3 (λw'=>w'.cell? (aj rb 0)=some (ag s)/\w'.cell? (aj rb 1)=some (aa m)/\w'.cell? (aj rb 2)=some (aa deep))
    (first|exact⟨(b.alloc _).cell 0,(b.alloc _).cell 1,(b.alloc _).cell 2⟩|exact⟨b.cell 0,b.cell 1,b.cell 2⟩)
    (fail)
   all_goals
    go_wp2;go_ret;have y:=dZ.newAt (w:=w3) rfl #[ag (s.extract 0 m),aa z,aa deep] 244;exact⟨(o.alloc _).drew,_,rfl,by have:=o.size;omega,Vv,by show ei _ _ (s.extract 0 (z+n.toNat)) z deep;rw[l.o];exact y,by show ei _ _ s (z+n.toNat) deep;rw[l.o];exact b.alloc _⟩
  .rw[dQ hle];obtain rfl:r= .error (6,(z:Int)):=by rw[<-f.o,ft,hv];simp only;rw[dQ hle]
   rintro e w3 ⟨j,d⟩;obtain rfl:e=d5 6 z:=d;unfold d5;go_wp2;exact⟨rfl,g.J j,rfl⟩
def oo (s:au)(a:Nat)(deep lv:Int):Fx (Nat×Nat):=
 match ft s a with
 | .error x=> .error x
 | .ok x=>if 8<deep+lv then .error (11,x.1)else .ok x
def Ku (w:aw)(rb:Nat)(s:au)(deep:Int)(r:Fx (Nat×Nat))(e:Ending)(w':aw):Prop:=
 ee [rb] w w'/\(match r with
 | .error x=>e=d5 x.1 x.2
 | .ok x=>∃nb,e= .returned (ah nb)/\w.heap.size<=nb/\nb≠rb/\ei w' nb (s.extract 0 x.2) x.1 (deep+1)/\ei w' rb s x.2 deep)
def qV (w:aw)(rb:Nat)(s:au)(a:Nat)(deep lv:Int)(h:ei w rb s a deep)(z:s.size<=2^47)(p:0<=deep)(q:deep<=8)(v:0<=lv)(y:lv<=2):
  Calls prog 185 #[ah rb,aa lv] w (Ku w rb s deep (oo s a deep lv)):=by
 obtain⟨r,c⟩:∃r,Hid (oo s a deep lv=r):=⟨_,rfl⟩;rw[c.o];go_in
 go_wp2_with fail;refine(oN w rb s a deep h z).V ?_
 cases hv:ft s a with
 |error x=>
  rintro e w2 ⟨b,u⟩;obtain rfl:e=d5 x.1 x.2:=u;obtain rfl:r= .error x:=by rw[<-c.o,oo,hv]
  unfold d5;go_wp2
  exact⟨rfl,b,rfl⟩
 |ok x=>
  rintro e w2 ⟨b,d,rfl,l,f,g,m⟩;have⟨A,B⟩:=dZ.I g;by_cases hd:8<deep+lv
  .obtain rfl:r= .error (11,(x.1:Int)):=by rw[<-c.o,oo,hv];simp only;rw[dR hd]
   go_wp2_with fail;refine(JQ _ _ _).V ?_;rintro e C ⟨rfl,rfl⟩;go_wp2;exact⟨rfl,b,rfl⟩
  .have t:decide (8<deep+lv)=false:=Vx;obtain rfl:r= .ok x:=by rw[<-c.o,oo,hv];simp only;rw[dQ hd]
   go_wp2;go_ret;have n:ei (w2.setCell (aj d 2) (aa (deep+1))) d (s.extract 0 x.2) x.1 (deep+1):=by unfold ei;simpa using dZ.set g 2 (aa (deep+1))
   have o:ei (w2.setCell (aj d 2) (aa (deep+1))) rb s x.2 deep:=dZ.other m 2 _ f;refine⟨?_,d,rfl,l,f,n,o⟩;exact⟨b.os,b.tape,b.output,by simpa using b.size,λk i j=>by rw[dY,dQ Vv];exact b.block k i j⟩
def jY (s:au)(a:Nat):Fx ((Int×Int)×Nat):=
 match iV s a s.size with
 | .error x=> .error x
 | .ok x=>if x.1/8<1\/536870911<x.1/8 then .error (8,a)else if x.1%8=0\/x.1%8=1\/x.1%8=2\/x.1%8=5 then .ok ((x.1/8,x.1%8),x.2)else .error (9,a)
def Kv (w:aw)(rb:Nat)(s:au)(a:Nat)(deep:Int)(h:ei w rb s a deep)(H:s.size<=2^47):
  Calls prog 131 #[ah rb] w (pV w rb s deep (jY s a) (λx=> .agg #[aa x.1,aa x.2])):=by
 obtain⟨r,b⟩:∃r,Hid (jY s a=r):=⟨_,rfl⟩;rw[b.o];have u:ei (w.alloc (am #[aa 0,aa 0] 237)) rb s a deep:=dZ.alloc h _;have p:ee [rb] w (w.alloc (am #[aa 0,aa 0] 237)):=(ee.refl _ _).alloc _;have o:=dZ.new w #[aa 0,aa 0] 237;have F:rb<w.heap.size:=dZ.lt h;have⟨I,J⟩:=dZ.I u;go_in
 go_wp2_with fail;generalize(w.alloc (am #[aa 0,aa 0] 237))=w1 at*;clear I J;refine(nw w1 rb s a deep u H).V ?_
 cases hv:iV s a s.size with
 |error x=>
  rintro e w2 ⟨j,m⟩;obtain rfl:e=d5 x.1 x.2:=m;obtain rfl:r= .error x:=by rw[<-b.o,jY,hv]
  unfold d5;go_wp2
  exact⟨rfl,p.J j,rfl⟩
 |ok x=>
  obtain⟨t,z⟩:=x;have⟨v,P,Q,R⟩:=jm hv;rintro e w2 ⟨j,m,n⟩;have n:ei w2 rb s z deep:=n;obtain rfl:e= .returned (.int .u64 t):=m;have c:=p.J j;have d:dZ w2 w.heap.size #[aa 0,aa 0] 237:=(j.block _ o.lt Vx).J o;have K:t.tdiv 8=t/8:=Int.tdiv_eq_ediv_of_nonneg v;have l:t.tmod 8=t%8:=dD v;have f:IntKind.i64.wrap (t%8)=t%8:=by simp[IntKind.wrap,IntKind.bits,IntKind.signed];omega
  have g:Hid (∀x y:Value,ee [rb] w ((w2.setCell (aj w.heap.size 0) x).setCell (aj w.heap.size 1) y)):=λx y=>
   ⟨c.os,c.tape,c.output,by simpa using c.size,λk B C=>by rw[dY,dQ Vv,dY,dQ Vv];exact c.block k B C⟩
  have i:Hid (∀x y:Value,ei ((w2.setCell (aj w.heap.size 0) x).setCell (aj w.heap.size 1) y) rb s z deep):=λx y=>(dZ.other n 0 x Vv).other 1 y Vv
  have q:t/8<=536870911->IntKind.i64.wrap (t/8)=t/8:=λh=>by simp[IntKind.wrap,IntKind.bits,IntKind.signed];omega
  have⟨S,T⟩:=d.I;by_cases hA:t/8=0
  .obtain rfl:r= .error (8,(a:Int)):=by rw[<-b.o,jY,hv];simp only;rw[dR Vv]
   rw[hA]at K;go_wp2_with fail;refine(JQ _ _ _).V ?_;rintro e A ⟨rfl,rfl⟩;go_wp2;exact⟨rfl,c,rfl⟩
  .have D:(t/8==0)=false:=Vx;by_cases hB:536870911<t/8
   .obtain rfl:r= .error (8,(a:Int)):=by rw[<-b.o,jY,hv];simp only;rw[dR Vv]
    go_wp2_with fail;refine(JQ _ _ _).V ?_;rintro e A ⟨rfl,rfl⟩;go_wp2;exact⟨rfl,c,rfl⟩
   .have E:decide (536870911<t/8)=false:=Vx;have G:=q Vv;clear q;by_cases g0:t%8=0
    .obtain rfl:r= .ok ((t/8,0),z):=by rw[<-b.o,jY,hv];simp only;rw[dQ Vv,dR Vv,g0]
     rw[g0]at l;clear g0 f;go_wp2;exact dU (ew results131 _ _ rfl ((d.set 0 _).set 1 _) underlying237 VA) rfl ⟨g.o _ _,rfl,i.o _ _⟩
    have L:(t%8==0)=false:=by simp[g0]
    by_cases g1:t%8=1
    .obtain rfl:r= .ok ((t/8,1),z):=by rw[<-b.o,jY,hv];simp only;rw[dQ Vv,dR Vv,g1]
     rw[g1]at l;clear g1 f;go_wp2;exact dU (ew results131 _ _ rfl ((d.set 0 _).set 1 _) underlying237 VA) rfl ⟨g.o _ _,rfl,i.o _ _⟩
    have M:(t%8==1)=false:=by simp[g1]
    by_cases g2:t%8=2
    .obtain rfl:r= .ok ((t/8,2),z):=by rw[<-b.o,jY,hv];simp only;rw[dQ Vv,dR Vv,g2]
     rw[g2]at l;clear g2 f;go_wp2;exact dU (ew results131 _ _ rfl ((d.set 0 _).set 1 _) underlying237 VA) rfl ⟨g.o _ _,rfl,i.o _ _⟩
    have N:(t%8==2)=false:=by simp[g2]
    by_cases g5:t%8=5
    .obtain rfl:r= .ok ((t/8,5),z):=by rw[<-b.o,jY,hv];simp only;rw[dQ Vv,dR Vv,g5]
     rw[g5]at l;clear g5 f;go_wp2;exact dU (ew results131 _ _ rfl ((d.set 0 _).set 1 _) underlying237 VA) rfl ⟨g.o _ _,rfl,i.o _ _⟩
    have O:(t%8==5)=false:=by simp[g5]
    obtain rfl:r= .error (9,(a:Int)):=by rw[<-b.o,jY,hv];simp only;rw[dQ Vv,dQ Vv]
    go_wp2_with fail;refine(JQ _ _ _).V ?_;rintro e A ⟨rfl,rfl⟩;go_wp2;exact⟨rfl,c,rfl⟩
def zL (s:au)(j:Nat):Int:=IW s (s.size-j) j
def DJ (s:au):zL s s.size=0:=by unfold zL;rw[Nat.sub_self];rfl
def Au {s:au}{i:Nat}(h:i<s.size):zL s i=256*zL s (i+1)+gh s i:=by
 unfold zL;rw[show s.size-i=(s.size-(i+1))+1 from by omega,IW,dR h]
def BK:∀(k:Nat) (s:au) (j:Nat),s.size=j+k->0<=zL s j/\zL s j<256^k
 |0,s,j,h=>by
  rw[show j=s.size from by omega,DJ]
  decide
 |k+1,s,j,h=>by
  have ih:=BK k s (j+1) Vv;have a:=kT s j;rw[Au Vv,Int.pow_succ];omega
def Ox {x n:Int}(h:0<=x)(d:0<=n)(h1:n<256)(f:x*256+n<2^64):bits .or .u64 (x*256) n=x*256+n:=by
 obtain⟨a,rfl⟩:=bG h;obtain⟨b,rfl⟩:=bG d;have e:((a:Int)*256)=((a*256:Nat):Int):=Vv;rw[e]at f⊢;have g:b<2^8:=show b<256 by omega
 have c:a*256=a<<<8:=by rw[dx]
 rw[bits_or_u64_nat (a*256) b Vv Vv,c,<-dl g];omega
def DK (w:aw)(s:au)(D:s.size<=8):Calls prog 406 #[ag s] w λe w'=>e= .returned (.int .u64 (xE s))/\w'=w:=by
 have j:xE s=zL s 0:=rfl;rw[j];go_in
 go_wp2;go_loopw [3,4] (λv i wr=>∃(k:Nat),k<=s.size/\i=aa ((k:Int)-1)/\v= .int .u64 (zL s k)/\w=wr) (λ_ i _=>((intOf i)+1).toNat)
 case atStart=>exact⟨s.size,aE _,rfl,by rw[DJ],rfl⟩
 case round=>
  obtain⟨k,C,rfl,rfl,rfl⟩:=hrel
  cases k with
  |zero=>
   go_wp2;go_ret
   exact⟨rfl,rfl⟩
  |succ i=>
   have g:i<s.size:=Vv;have m:=jL (t:=s) (k:=i) g;have d:=kT s i;have a:=Au g;have b:=BK (s.size-(i+1)) s (i+1) Vv;have f:=BK (s.size-i) s i Vv
   have r:(256:Int)^(s.size-i)<=256^8:=by
    have:=dw (n:=256) Vy (show s.size-i<=8 by omega)
    exact_mod_cast this
   obtain⟨c,p⟩:=Vu (gh s i);rw[p]at m d a;obtain⟨x,z⟩:=Vu (zL s (i+1));rw[z]at a b⊢;have l:x*256+c<2^64:=(by rw[a]at f;have A:(256:Int)^8=2^64:=Vy;omega);have u:IntKind.u64.wrap (x*256)=x*256:=gU Vv Vv;have y:IntKind.u64.wrap c=c:=gU Vv Vv;have B:=Ox b.1 d.1 d.2 l;have q:(0:Int)<=(i:Int):=Vv;have o:(i:Int)+1-1=(i:Int):=Vv;have h:((i+1:Nat):Int)-1=(i:Int):=Vv;rw[h];clear h o b f r j;go_wp2;go_roundw
   case rel=>exact⟨i,Vv,rfl,by rw[a];congr 1;omega,trivial⟩
   case measure=>simp[intOf]
def ju (s:au)(a:Nat)(k:Nat):Fx (Int×Nat):=if a+k<=s.size then .ok (xE (s.extract a (a+k)),a+k)else .error (6,a)
def ux (s:au)(a k:Nat):pP s a k=if a+k<=s.size then .ok (s.extract a (a+k),a+k)else .error (6,(a:Int)):=by
 unfold pP;by_cases h:a+k<=s.size;.rw[dR h,dR Vv];simp
 .rw[dQ h,dQ Vv]
def BL (w:aw)(rb:Nat)(s:au)(a:Nat)(deep:Int)(h:ei w rb s a deep)(f:a<=s.size)(i:s.size<=2^47):
  Calls prog 352 #[ah rb] w (pV w rb s deep (ju s a 4) (Value.int .u64)):=by
 have b:=xK w rb s a deep 4 h f i Vy Vy;rw[show(4:Int)=((4:Nat):Int)from rfl,ux]at b;unfold ju;by_cases VI:a+4<=s.size
 .rw[dR VI]at b⊢;go_in
  go_wp2_with fail;refine b.V ?_;rintro e w2 ⟨d,c,g⟩;obtain rfl:e= .returned (ag (s.extract a (a+4))):=c;go_wp2_with fail;refine(DK w2 (s.extract a (a+4)) (by rw[bf];omega)).V ?_;rintro e w3 ⟨rfl,rfl⟩;go_wp2;go_ret;exact⟨d,rfl,g⟩
 .rw[dQ VI]at b⊢;go_in
  go_wp2_with fail;refine b.V ?_;rintro e w2 ⟨d,c⟩;obtain rfl:e=d5 6 a:=c;unfold d5;go_wp2;exact⟨rfl,d,rfl⟩
def wH (w:aw)(rb:Nat)(s:au)(a:Nat)(deep:Int)(h:ei w rb s a deep)(f:a<=s.size)(i:s.size<=2^47):
  Calls prog 353 #[ah rb] w (pV w rb s deep (ju s a 8) (Value.int .u64)):=by
 have b:=xK w rb s a deep 8 h f i Vy Vy;rw[show(8:Int)=((8:Nat):Int)from rfl,ux]at b;unfold ju;by_cases VI:a+8<=s.size
 .rw[dR VI]at b⊢;go_in
  go_wp2_with fail;refine b.V ?_;rintro e w2 ⟨d,c,g⟩;obtain rfl:e= .returned (ag (s.extract a (a+8))):=c;go_wp2_with fail;refine(DK w2 (s.extract a (a+8)) (by rw[bf];omega)).V ?_;rintro e w3 ⟨rfl,rfl⟩;go_wp2;go_ret;exact⟨d,rfl,g⟩
 .rw[dQ VI]at b⊢;go_in
  go_wp2_with fail;refine b.V ?_;rintro e w2 ⟨d,c⟩;obtain rfl:e=d5 6 a:=c;unfold d5;go_wp2;exact⟨rfl,d,rfl⟩
def sY (w:aw)(n:Int):Calls prog 348 #[.int .u64 n] w λe w'=>e= .returned (.int .u64 (n%4294967296))/\w'=w:=by
 have a:IntKind.u64.wrap (IntKind.u32.wrap n)=n%4294967296:=(by rw[IntKind.wrap_u32];exact gU Vv Vv);go_in
 go_wp2;go_ret;exact⟨rfl,rfl⟩
def px (w:aw)(n:Int):Calls prog 347 #[.int .u64 n] w λe w'=>e= .returned (.int .u64 (mQ n))/\w'=w:=by
 have a:IntKind.u64.wrap (IntKind.i32.wrap n)=mQ n:=by
  rw[IntKind.wrap_i32];unfold mQ;split;.rw[show(n+2147483648)%4294967296-2147483648=n%4294967296 from by omega];exact gU Vv Vv
  .simp[IntKind.wrap,IntKind.bits,IntKind.signed];omega
 have b:IntKind.u64.wrap (wrap32 n)=mQ n:=(by rw[<-a];congr 1;rw[IntKind.wrap_i32];unfold wrap32;rfl);go_in
 go_wp2;go_ret;exact⟨rfl,rfl⟩
def wI (w:aw)(n:Int)(a:0<=n):Calls prog 351 #[.int .u64 n] w λe w'=>e= .returned (.int .u64 (if 0<n then 1 else 0))/\w'=w:=by
 by_cases h:0<n
 .have b:(n==0)=false:=Vx;rw[dR h];go_in
  go_wp2;go_ret;exact⟨rfl,rfl⟩
 .obtain rfl:n=0:=Vv;rw[dQ h];go_in
  go_wp2;go_ret;exact⟨rfl,rfl⟩
def rO {n:Int}(c:0<=n)(h1:n<2^64):bits .xor .u64 n 18446744073709551615=18446744073709551615-n:=by
 obtain⟨a,rfl⟩:=bG c;have d:(BitVec.ofInt 64 (a:Int)).toNat=a:=(by rw[BitVec.ofInt_natCast,BitVec.toNat_ofNat];exact Nat.mod_eq_of_lt Vv);show IntKind.u64.wrap (((BitVec.ofInt 64 (a:Int))^^^(BitVec.ofInt 64 18446744073709551615)).toNat:Int)=_;have b:BitVec.ofInt 64 18446744073709551615=BitVec.allOnes 64:=Vy;rw[b,BitVec.xor_allOnes,BitVec.toNat_not,d];rw[gU Vv Vv];omega
def rP {n:Int}(c:0<=n)(h1:n<2^64):bits .xor .u64 n 0=n:=by
 obtain⟨a,rfl⟩:=bG c;have d:(BitVec.ofInt 64 (a:Int)).toNat=a:=(by rw[BitVec.ofInt_natCast,BitVec.toNat_ofNat];exact Nat.mod_eq_of_lt Vv);show IntKind.u64.wrap (((BitVec.ofInt 64 (a:Int))^^^(BitVec.ofInt 64 0)).toNat:Int)=_;have b:BitVec.ofInt 64 0=0#64:=Vy;rw[b,BitVec.xor_zero,d];exact gU Vv Vv
def BM {n:Int}(b:0<=n)(h1:n<2^64):bits .and .u64 n 1=n%2:=by
 obtain⟨a,rfl⟩:=bG b;rw[show(1:Int)=((1:Nat):Int)from rfl,bits_and_u64_nat a 1 Vv Vv,Nat.and_one_is_mod];omega
def Fs (w:aw)(n:Int)(b:0<=n)(h1:n<2^64):Calls prog 350 #[.int .u64 n] w λe w'=>e= .returned (.int .u64 (Dj n))/\w'=w:=by
 have a:=BM b h1;unfold Dj;by_cases h:n%2=1
 .rw[dR h];rw[h]at a;have d:IntKind.u64.wrap (-1)=18446744073709551615:=Vy;have f:=rO (n:=n/2) Vv Vv;go_in
  go_wp2;go_ret;exact⟨rfl,rfl⟩
 .rw[dQ h];have c:n%2=0:=Vv;rw[c]at a;have d:IntKind.u64.wrap 0=0:=Vy;have f:=rP (n:=n/2) Vv Vv;go_in
  go_wp2;go_ret;exact⟨rfl,rfl⟩
def Kw (w:aw)(n:Int):Calls prog 349 #[.int .u64 n] w λe w'=>e= .returned (.int .u64 (Dj (n%4294967296)))/\w'=w:=by
 go_in
 go_wp2_with fail;refine(sY w n).V ?_;rintro e w2 ⟨rfl,rfl⟩;go_wp2_with fail;refine(Fs _ (n%4294967296) Vv Vv).V ?_;rintro e w2 ⟨rfl,rfl⟩;go_wp2;go_ret;exact⟨rfl,rfl⟩
def eK (mp:an)(g:GF):Nat:=if g.form=4 then 16 else jC mp g.f.ty
def BQ:∀(l:List (ap)) (s:ap) (k n:Nat),Di l s k=some n->n<k+l.length
 | [],s,k,n,h=>by simp[Di]at h
 |x::l,s,k,n,h=>by
  unfold Di at h;split at h;.simp at h;subst h;simp
  .have:=BQ l s (k+1) n h;simp;omega
def uy (mp:an)(t:au):jC mp t<=16:=by
 unfold jC ol;split
 .cases h:Di m9 t.toList 0 with
  |none=>simp
  |some n=>
   have:=BQ m9 t.toList 0 n h;have e:m9.length=15:=rfl;simp;omega
 .split<;>omega
def mg (mp:an)(g:GF):eK mp g<=16:=by
 unfold eK;split;.omega
 .exact uy mp _
def fi.blk {w:aw}{P:ax}{mp:an}{g:GF}{fb:Nat}(h:fi w P mp g fb):
  ∃pv rv,dZ w fb #[aa g.f.num,aa g.form,aa (eK mp g),pv,rv] 220/\P fb/\eP w P 3 1 rv g.riv.length (gE g.riv)/\
   (if g.form=4 then∃eb,pv=ii (some eb)/\mM w P mp g.f.key g.f.ty eb else pv=ii (zJ mp g.f.ty)):=by
 unfold fi at h;unfold eK;split at h;.rename_i a;obtain⟨rv,eb,b,c,d,e⟩:=h;rw[dR a];refine⟨ii (some eb),rv,by rw[a];exact b,c,d,?_⟩;rw[dR a];exact⟨eb,rfl,e⟩
 .rename_i a;obtain⟨rv,b,c,d⟩:=h;rw[dQ a];exact⟨_,rv,b,c,d,by rw[dQ a]⟩
def mM.msg {w:aw}{P:ax}{mp:an}{k v:au}{eb:Nat}(h:mM w P mp k v eb):jk w P mp eb eS [lN oh k 1,lN qe v 2]:=by
 obtain⟨c,b,a,d,e,f,g,i⟩:=h;refine⟨c,[b,a],d,e,f,b,[a],rfl,?_,a,[],rfl,?_,rfl⟩;.unfold fi;rw[dQ (by simp[lN])];exact g
 .unfold fi;rw[dQ (by simp[lN])];exact i
def iw (mp:an)(g:GF):Bool:=(g.form==2)&&fo (eK mp g)
def mT (w:aw)(P:ax)(mp:an)(g:GF)(fb:Nat)(h:fi w P mp g fb):
  Calls prog 209 #[ah fb] w λe w'=>e= .returned (.bool (iw mp g))/\ak w w':=by
 have⟨f,k,c,_,_,_⟩:=h.blk;have d:=Fu;have a:=mg mp g;unfold iw;have⟨i,j⟩:=c.I;cases hf:(g.form==2)
 .go_in
  go_wp2;go_ret;exact⟨rfl,Below.refl _ _⟩
 .go_in
  go_wp2_with fail;refine(d w (eK mp g) f a).V ?_;rintro e w2 ⟨rfl,b⟩;go_wp2;go_ret;exact⟨rfl,b⟩
def mh (mp:an)(g:GF)(kind:Int):Bool:=(kind==(eM (eK mp g):Int))||((kind==2)&&iw mp g)
def QT (w:aw)(P:ax)(mp:an)(g:GF)(fb:Nat)(kind:Int)(h:fi w P mp g fb):
  Calls prog 183 #[ah fb,aa kind] w λe w'=>e= .returned (.bool (mh mp g kind))/\ak w w':=by
 have⟨l,o,j,_,_,_⟩:=h.blk;have f:=mg mp g;have c:=qp w (eK mp g) l f;have d:Hid (∀w2:aw,ak w w2->Vq 209 #[ah fb] w2 λe w'=>e= .returned (.bool (iw mp g))/\ak w2 w'):=λw2 a=>mT w2 P mp g fb (h.O (λb _ k=>a.block b k))
 unfold mh;have⟨m,n⟩:=j.I;generalize eK mp g=gb at*;generalize(eM gb:Int)=wb at*;generalize iw mp g=pg at*;cases hf:(kind==wb)
 .cases VL:(kind==2)
  .go_in
   go_wp2_with fail;refine c.V ?_;rintro e w2 ⟨rfl,a⟩;go_wp2;go_ret;exact⟨rfl,a⟩
  .go_in
   go_wp2_with fail;refine c.V ?_;rintro e w2 ⟨rfl,a⟩;go_wp2_with fail;refine(d.o w2 a).V ?_;rintro e w3 ⟨rfl,i⟩;go_wp2;go_ret;exact⟨rfl,eT a i⟩
 .go_in
  go_wp2_with fail;refine c.V ?_;rintro e w2 ⟨rfl,a⟩;go_wp2;go_ret;exact⟨rfl,a⟩
def ly (mp:an)(g:GF):Int:=if g.form=4/\jC mp g.f.ty=16 then 2 else if eK mp g=16 then 1 else 0
def uz (k v:au): [lN oh k 1,lN qe v 2].Pairwise (λx y=>x.f.num<=y.f.num):=by simp[lN]
def DM (k v:au):iL [lN oh k 1,lN qe v 2] 1=some (lN oh k 1):=by simp[iL,lN]
def DN (k v:au):iL [lN oh k 1,lN qe v 2] 2=some (lN qe v 2):=by simp[iL,lN]
def td (w:aw)(P:ax)(mp:an)(g:GF)(fb:Nat)(h:fi w P mp g fb):
  Calls prog 186 #[ah fb] w λe w'=>e= .returned (aa (ly mp g))/\w'=w:=by
 have⟨y,z,f,_,_,i⟩:=h.blk;have⟨k,x⟩:=f.I;unfold ly;by_cases hf:g.form=4
 .rw[dR hf]at i;obtain⟨o,rfl,p⟩:=i;have c:=qW w P mp o eS _ 2 p.msg (uz _ _) Vw;rw[DN]at c;have l:(g.form==4)=true:=by simp[hf]
  unfold ii at k;have a:eK mp g=16:=by unfold eK;rw[dR hf]
  rw[a]at k;by_cases ht:jC mp g.f.ty=16
  .rw[dR ⟨hf,ht⟩];clear hf h f;go_in
   go_wp2_with fail;refine c.V ?_;rintro e w2 ⟨⟨v,rfl,j⟩,rfl⟩;have⟨m,n,b,_,_,_⟩:=j.blk;have d:eK mp (lN qe g.f.ty 2)=16:=by unfold eK;rw[dQ (by simp[lN])];exact ht
   rw[d]at b;have⟨t,u⟩:=b.I;go_wp2;go_ret;exact⟨rfl,rfl⟩
  .rw[dQ (λq=>ht q.2),dR a];clear hf h f;go_in
   go_wp2_with fail;refine c.V ?_;rintro e w2 ⟨⟨v,rfl,j⟩,rfl⟩;have⟨m,n,b,_,_,_⟩:=j.blk;have d:eK mp (lN qe g.f.ty 2)=jC mp g.f.ty:=by unfold eK;rw[dQ (by simp[lN])];rfl
   rw[d]at b;have⟨t,u⟩:=b.I;have s:((jC mp g.f.ty:Int)==16)=false:=Vx;go_wp2;go_ret;exact⟨rfl,rfl⟩
 .have l:(g.form==4)=false:=by simp[hf]
  rw[dQ (λq=>hf q.1)];clear i;by_cases a:eK mp g=16
  .rw[dR a];rw[a]at k;clear hf;go_in
   go_wp2;go_ret;exact⟨rfl,rfl⟩
  .rw[dQ a];have r:((eK mp g:Int)==16)=false:=Vx;clear hf a;go_in
   go_wp2;go_ret;exact⟨rfl,rfl⟩
end
end Go.Proofs.YtfebdimolnobaaaGreatDoor
