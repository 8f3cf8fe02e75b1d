import Derived.Test.YtfebdimolnobaaaGreatDoorRdC
import Derived.Deep.Draws
import Derived.Maps.OwnSet
import Derived.Maps.OwnOps
set_option maxRecDepth 100000
set_option maxHeartbeats 8000000
set_option linter.all false
namespace Go.Proofs.YtfebdimolnobaaaGreatDoor
open Go.RowKit Go.Proofs.Tryz
section
attribute [local go_sem] jk jm jn
def lO:Option W->Int
 |some x=>dN x.1
 |none=>0
def jp:Option W->au
 |some x=>x.1
 |none=>⟨#[]⟩
def mY:Option W->Nat
 |some x=>x.2
 |none=>0
abbrev FC (f:ek):aq:= #[aa f.form,aa (lO f.key),ae (jp f.key),aa (mY f.key),aa (dN f.type.1),ae f.type.1,aa f.type.2,aa (dN f.name.1),ae f.name.1,aa f.name.2,aa (dN f.num.1),ae f.num.1,aa f.num.2]
abbrev FO (f:ek):Obj:=Obj.cells (FC f) 211
def Mu (o:Option W):Mr o= [aa (lO o),ae (jp o),aa (mY o)]:=by cases o<;>rfl
def Fr (w:aw)(p:ft)(w':aw)(e:Ending):Prop:=
 ∃fa fn fc,e= .returned (.agg #[aa (lO p.oneof),ae (jp p.oneof),aa (mY p.oneof),.slice fa fn fc])/\w'.ownsRow w.heap.size 211 13 (.slice fa fn fc) p.fields.length (p.fields.flatMap sk)
def Rx (w:aw)(rb wb:Nat)(ws:List W)(i:Nat)(R:Rd w rb wb ws i):
  S9 338 #[ag rb] w (rK w rb wb ws (ie ws i) (Fr w)):=by
 refine(Sq w rb wb ws i R).V λe w' h=> ?_
 cases hf:ie ws i with
 |error p=>rw[hf]at h;exact h
 |ok q=>
  obtain⟨p,j⟩:=q;rw[hf]at h;obtain⟨⟨g,d,a⟩,f⟩:=h;obtain⟨b,fn,c,rfl⟩:=dO a;exact⟨⟨b,fn,c,by rw[d,Mu];rfl,a⟩,f⟩
def Cj {ws:List W}{i:Nat}{x:W}(s:an)(h:ws[i]?=some x):fO ws s i=(x.1.toList==s):=by unfold fO;simp only[h]
abbrev PZ:aq:= #[aa 0,S8,aa 0,ah]
def R8 (w:aw)(rb wb:Nat)(ws:List W)(i:Nat)(R:Rd w rb wb ws i):
  Calls prog 259 #[ag rb] w (rK w rb wb ws (jg ws i) (Fr w)):=by
 have⟨x,O⟩:=R.word;have M:Hid (ws[i]?=some x):=O;have Q:iX w.heap.size rb w (w.alloc (Obj.cells PZ 208)) i:=iX.oB R.next (Tc w _);have z:=R.alloc (Obj.cells PZ 208);have V:=dP.new w PZ 208;have G:¬w.heap.size=rb:=by have:=R.blocks;omega
 have a:¬rb=w.heap.size:=Te;have J:w.heap.size<(w.alloc (Obj.cells PZ 208)).heap.size:=Tf;obtain⟨r,T⟩:∃r,Hid (jg ws i=r):=⟨_,rfl⟩;rw[T.o];have F:jg ws i=r:=T.o;unfold jg at F;simp only[Cj _ O]at F;have o:Hid _:=F;have Z:∀s:an,(x.1.toList==s)=true->0<s.length->0<x.1.size:=λs h a=>sA h a
 have U:Hid _:=Z;clear O F Z;go_in
 go_wp2_with fail;refine(Mi _ rb wb ws i x z M.o).V ?_;rintro e w1 ⟨rfl,D⟩;have m:=z.G D z.blocks.1 z.blocks.2;have l:=Q.G D (cK J);have t:=V.G D J;have d:w.heap.size<w1.heap.size:=aI J D.size;clear z Q V J D
 cases t0:(x.1.toList== [111,110,101,111,102])with
 |true=>
  have S:Hid (ie ws i=r):=by have:=o.o;rw[t0]at this;exact this
  go_wp2_with fail;refine(Rx _ rb wb ws i m).V ?_
  cases h1:ie ws i with
  |error p=>
   rintro e w2 ⟨rfl,j,A⟩;obtain rfl:r= .error p:=S.o.sy.J h1;unfold dX;go_wp2
   exact⟨rfl,rfl,j,l.J A Te⟩
  |ok q=>
   obtain⟨p,P⟩:=q;rintro e w2 ⟨⟨g,fn,k,rfl,E⟩,B,A⟩;obtain rfl:r= .ok (p,P):=S.o.sy.J h1;have y:=t.adv_ A d G;have L:=l.J A Te;have⟨q,s⟩:=y.I;go_wp2;have C:=L.sets (b:=w.heap.size) (aD _) [aa (lO p.oneof),ae (jp p.oneof),aa (mY p.oneof),.slice g fn k] 0;have N:=y.sets_all [aa (lO p.oneof),ae (jp p.oneof),aa (mY p.oneof),.slice g fn k] rfl;refine dJ (dW results259 _ _ rfl N underlying208 Tj) rfl ⟨⟨g,fn,k,rfl,?_⟩,?_,C⟩;.exact jz (lo:=w.heap.size) E (b:=w.heap.size) d (cK d) [aa (lO p.oneof),ae (jp p.oneof),aa (mY p.oneof),.slice g fn k] 0
   .exact C.rd R R.blocks.1 R.blocks.2 B.lt
 |false=>
  rw[t0]at o
  have f:(x.1.toList== [109,97,112])=true\/((x.1.toList== [109,97,112])=false/\(x.1.toList== [114,101,112,101,97,116,101,100])=true)\/((x.1.toList== [109,97,112])=false/\(x.1.toList== [114,101,112,101,97,116,101,100])=false/\(x.1.toList== [111,112,116,105,111,110,97,108])=true)\/((x.1.toList== [109,97,112])=false/\(x.1.toList== [114,101,112,101,97,116,101,100])=false/\(x.1.toList== [111,112,116,105,111,110,97,108])=false):=by
   generalize(x.1.toList== [109,97,112])=a;generalize(x.1.toList== [114,101,112,101,97,116,101,100])=b;generalize(x.1.toList== [111,112,116,105,111,110,97,108])=c
   revert a b c;decide
  rcases f with n|⟨n,u⟩|⟨n,u,I⟩|⟨n,u,I⟩;have v:Hid (kN (lS ws i)=r):=by have:=o.o;rw[n]at this;exact this
  have H:=So _ rb wb ws i m;generalize lS ws i=X at*;go_wp2_with fail;refine H.V ?_;rotate_left;have v:Hid (kN (fF ws 2 (i+1))=r):=by have:=o.o;rw[n,u]at this;exact this
  go_wp2_with fail;refine(QF _ rb wb ws i x m M.o (U.o _ u Th)).V ?_;rintro e w2 ⟨rfl,B,A⟩;replace t:=t.adv_ A d G;replace l:=l.J A Te;replace d:w.heap.size<w2.heap.size:=aI d A.size;clear A m;have H:=Ri _ rb wb ws (i+1) 2 B;generalize fF ws 2 (i+1)=X at*;go_wp2_with fail;refine H.V ?_;rotate_left;have v:Hid (kN (fF ws 1 (i+1))=r):=by have:=o.o;rw[n,u,I]at this;exact this
  go_wp2_with fail;refine(QF _ rb wb ws i x m M.o (U.o _ I Th)).V ?_;rintro e w2 ⟨rfl,B,A⟩;replace t:=t.adv_ A d G;replace l:=l.J A Te;replace d:w.heap.size<w2.heap.size:=aI d A.size;clear A m;have H:=Ri _ rb wb ws (i+1) 1 B;generalize fF ws 1 (i+1)=X at*;go_wp2_with fail;refine H.V ?_;rotate_left;have v:Hid (kN (fF ws 0 i)=r):=by have:=o.o;rw[n,u,I]at this;exact this
  have H:=Ri _ rb wb ws i 0 m;generalize fF ws 0 i=X at*;go_wp2_with fail;refine H.V ?_
  all_goals
   clear H;rcases X with p|⟨f,P⟩;.rintro e w3 ⟨rfl,j,A⟩;obtain rfl:r= .error p:=v.o.sy;unfold dX;go_wp2;exact⟨rfl,rfl,j,l.J A Te⟩
   .rintro e w3 ⟨rfl,h,A⟩;obtain rfl:r= .ok (⟨none,[f]⟩,P):=v.o.sy;have c:=t.adv_ A d G;have a:=l.J A Te;have K:w.heap.size<w3.heap.size:=aI d A.size;clear A;go_wp2_with fail;refine(Sp _ f).V ?_;rintro e j ⟨d,rfl,E,Y⟩;obtain⟨g,fn,k,rfl⟩:=dO E;have d:j.ownsRow w3.heap.size 211 13 (.slice g fn k) [f].length ([f].flatMap sk):=by simpa using E
    have y:=c.G Y K;have L:=a.G Y (cK K);have⟨q,s⟩:=y.I;go_wp2;have C:=L.sets (b:=w.heap.size) (aD _) [aa 0,S8,aa 0,.slice g fn k] 0;have N:=y.sets_all [aa 0,S8,aa 0,.slice g fn k] rfl;refine dJ (dW results259 _ _ rfl N underlying208 Tj) rfl ⟨⟨g,fn,k,rfl,?_⟩,?_,C⟩;.exact jz (lo:=w.heap.size) d (b:=w.heap.size) K (cK K) [aa 0,S8,aa 0,.slice g fn k] 0
    .exact C.rd R R.blocks.1 R.blocks.2 h.lt
end
section
variable {w w':aw} {base k n:Nat} {T:TypeId} {v:Value} {xs:ay} {S S':ax} {b:dS} {a:aC}
def D6 (x:W×W):ay:=wC x.1++wC x.2
def d5 (w:aw)(S:ax)(T:TypeId)(k:Nat)(v:Value)(n:Nat)(xs:ay):Prop:=
 w.ownsRow 0 T k v n xs/\∀b,v.ownBlock=some b->S b
theorem dR (h:w.ownsRow base T k v n xs)(j:∀b,v.ownBlock=some b->w'.heap[b]?=w.heap[b]?):w'.ownsRow base T k v n xs:=by
 refine⟨h.1,?_⟩;rcases h.2 with d|⟨g,a,c,rfl,e,f,i⟩;.exact .inl d
 .exact .inr ⟨g,a,c,rfl,e,(j g rfl).J f,i⟩
theorem d5.O (h:d5 w S T k v n xs)(c:∀b,S b->b<w.heap.size->w'.heap[b]?=w.heap[b]?):d5 w' S T k v n xs:=
 ⟨dR h.1 λb a=>c b (h.2 b a) (h.1.lt b a).2,h.2⟩
theorem d5.V (h:d5 w S T k v n xs)(c:∀b,S b->b<w.heap.size->S' b):d5 w S' T k v n xs:=
 ⟨h.1,λb a=>c b (h.2 b a) (h.1.lt b a).2⟩
theorem d5.of (h:w.ownsRow base T k v n xs):d5 w (λb=>base<=b) T k v n xs:=
 ⟨iz h (aM _),λb a=>(h.lt b a).1⟩
def fK (w:aw)(S:ax):ay->List ft->Prop
 |cs,[]=>cs= []
 |cs,p::ps=>∃fa fn fc rest,cs=aa (lO p.oneof)::ae (jp p.oneof)::aa (mY p.oneof):: .slice fa fn fc::rest/\
   d5 w S 211 13 (.slice fa fn fc) p.fields.length (p.fields.flatMap sk)/\fK w S rest ps
theorem fK.O (a:∀b,S b->b<w.heap.size->w'.heap[b]?=w.heap[b]?):∀{ps:List ft} {cs:ay},fK w S cs ps->fK w' S cs ps
 | [],_,h=>h
 |_::_,_,⟨fa,fn,fc,rest,h1,h2,h3⟩=>⟨fa,fn,fc,rest,h1,h2.O a,fK.O a h3⟩
theorem fK.V (a:∀b,S b->b<w.heap.size->S' b):∀{ps:List ft} {cs:ay},fK w S cs ps->fK w S' cs ps
 | [],_,h=>h
 |_::_,_,⟨fa,fn,fc,rest,h1,h2,h3⟩=>⟨fa,fn,fc,rest,h1,h2.V a,fK.V a h3⟩
theorem fK.snoc {p:ft}{fa:aC}{fn fc:Nat}(a:d5 w S 211 13 (.slice fa fn fc) p.fields.length (p.fields.flatMap sk)):∀{ps:List ft} {cs:ay},fK w S cs ps->
   fK w S (cs++ [aa (lO p.oneof),ae (jp p.oneof),aa (mY p.oneof),.slice fa fn fc]) (ps++ [p])
 | [],cs,h=>by
  obtain rfl:cs= []:=h
  exact⟨fa,fn,fc,[],rfl,a,rfl⟩
 |_::_,cs,⟨ga,gn,gc,rest,h1,h3,h4⟩=>by
  subst h1;exact⟨ga,gn,gc,_,rfl,h3,fK.snoc a h4⟩
def jP (w:aw)(S:ax)(b:dS)(pv vv:Value):Prop:=
 ∃pcs,d5 w S 208 4 pv b.parts.length pcs/\fK w S pcs b.parts/\d5 w S 302 6 vv b.values.length (b.values.flatMap D6)
theorem jP.O {pv vv:Value}(a:∀b,S b->b<w.heap.size->w'.heap[b]?=w.heap[b]?):jP w S b pv vv->jP w' S b pv vv
 |⟨pcs,h1,h2,h3⟩=>⟨pcs,h1.O a,h2.O a,h3.O a⟩
theorem jP.V {pv vv:Value}(a:∀b,S b->b<w.heap.size->S' b):jP w S b pv vv->jP w S' b pv vv
 |⟨pcs,h1,h2,h3⟩=>⟨pcs,h1.V a,h2.V a,h3.V a⟩
def eQ (w:aw)(S:ax):ay->List dS->Prop
 |cs,[]=>cs= []
 |cs,b::bs=>∃pa pn pc va vn vc rest,cs= .bool b.enum::aa (dN b.name.1)::ae b.name.1::aa b.name.2:: .slice pa pn pc:: .slice va vn vc::rest/\
   jP w S b (.slice pa pn pc) (.slice va vn vc)/\eQ w S rest bs
theorem eQ.O (a:∀b,S b->b<w.heap.size->w'.heap[b]?=w.heap[b]?):∀{bs:List dS} {cs:ay},eQ w S cs bs->eQ w' S cs bs
 | [],_,h=>h
 |_::_,_,⟨pa,pn,pc,va,vn,vc,rest,h1,h2,h3⟩=>⟨pa,pn,pc,va,vn,vc,rest,h1,h2.O a,eQ.O a h3⟩
theorem eQ.V (a:∀b,S b->b<w.heap.size->S' b):∀{bs:List dS} {cs:ay},eQ w S cs bs->eQ w S' cs bs
 | [],_,h=>h
 |_::_,_,⟨pa,pn,pc,va,vn,vc,rest,h1,h2,h3⟩=>⟨pa,pn,pc,va,vn,vc,rest,h1,h2.V a,eQ.V a h3⟩
theorem eQ.snoc {pa va:aC}{pn pc vn vc:Nat}(a:jP w S b (.slice pa pn pc) (.slice va vn vc)):∀{bs:List dS} {cs:ay},eQ w S cs bs->
   eQ w S (cs++ [.bool b.enum,aa (dN b.name.1),ae b.name.1,aa b.name.2,.slice pa pn pc,.slice va vn vc]) (bs++ [b])
 | [],cs,h=>by
  obtain rfl:cs= []:=h
  exact⟨pa,pn,pc,va,vn,vc,[],rfl,a,rfl⟩
 |_::_,cs,⟨qa,qn,qc,ra,rn,rc,rest,h1,h3,h4⟩=>by
  subst h1;exact⟨qa,qn,qc,ra,rn,rc,_,rfl,h3,eQ.snoc a h4⟩
def sE (w:aw)(b:dS)(w':aw)(e:Ending):Prop:=
 ∃pa pn pc va vn vc,e= .returned (.agg #[.bool b.enum,aa (dN b.name.1),ae b.name.1,aa b.name.2,.slice pa pn pc,.slice va vn vc])/\
  jP w' (λx=>w.heap.size<=x) b (.slice pa pn pc) (.slice va vn vc)
def Mw (w:aw)(bs:List dS)(w':aw)(e:Ending):Prop:=
 ∃a n c cs,e= .returned (.agg #[.slice a n c])/\d5 w' (λx=>w.heap.size<=x) 152 6 (.slice a n c) bs.length cs/\eQ w' (λx=>w.heap.size<=x) cs bs
theorem Tryz.info302:(prog.info? 302).map (λi=>(i.zero,i.size,i.bytes))=some (some (.agg #[aa 0,S8,aa 0,aa 0,S8,aa 0]),6,64):=Tj
theorem Tryz.info208:(prog.info? 208).map (λi=>(i.zero,i.size,i.bytes))=some (some (.agg #[aa 0,S8,aa 0,ah]),4,56):=Tj
theorem Tryz.info152:(prog.info? 152).map (λi=>(i.zero,i.size,i.bytes))=some (some (.agg #[.bool false,aa 0,S8,aa 0,ah,ah]),6,88):=Tj
theorem d9 {m:Nat}{c:Nat}(h:w.ownsRow base T k (.slice a n c) m xs):n=m:=by
 rcases h.2 with⟨b,d⟩|⟨g,e,f,b,d⟩;.cases b;exact d.sy
 .cases b;rfl
theorem ig {m:Nat}(h:w.ownsRow base T k v m xs):∃a c,v= .slice a m c:=by
 obtain⟨a,n,c,rfl⟩:=dO h;rw[d9 h];exact⟨a,c,rfl⟩
theorem dV {m:Nat}{c:Nat}(h:w.ownsRow base T k (.slice a n c) m xs)(hm:0<m):
  ∃g,a=some (ai g 0)/\base<=g/\g<w.heap.size/\∀w':aw,w'.heap[g]?=w.heap[g]?->∀j u,xs[j]?=some u->w'.cell? (ai g j)=some u:=by
 rcases h.2 with⟨d,e⟩|⟨g,l,i,d,e,f,r,s,t,o⟩;.omega
 .cases d;refine⟨g,rfl,e,dP.lt f,λw' q j u b=> ?_⟩;have p:dP w' g i T:=q.J f;rw[p.cell];rw[<-o,List.getElem?_take]at b;split at b;.rw[<-bT];exact b
  .simp at b
def eh (l:aA):ay:=l.map Value.string
theorem gN {a b:aw}(h:Below n a b)(k:Nat):Below n a (b.drewN k):=h.J ⟨rfl,rfl,rfl,aD _,λ_ _=>rfl⟩
theorem Tryz.info9:(prog.info? 9).map (λi=>(i.zero,i.size,i.bytes))=some (some (S8),1,16):=Tj
theorem fW {α:Type}(f:α->ay)(k:Nat)(a:∀x,(f x).length=k):∀(l:List α) (i:Nat) (x:α),l[i]?=some x->∀j,j<k->(l.flatMap f)[i*k+j]?=(f x)[j]?
 | [],i,x,h,j,hj=>by simp at h
 |y::l,0,x,h,j,hj=>by
  simp at h;subst h
  rw[aW,Nat.zero_mul,dg,bW (by rw[a];exact hj)]
 |y::l,i+1,x,h,j,hj=>by
  rw[aW,cM (by rw[a,Nat.succ_mul];omega),a];have:=fW f k a l i x (by simpa using h) j hj;rw[<-this];congr 1;rw[Nat.succ_mul];omega
def fL (k:Int)(s:au):Bool:=k==3&&(!(s.toList== [102,108,111,97,116])&&(!(s.toList== [100,111,117,98,108,101])&& !(s.toList== [98,121,116,101,115])))
end
section
attribute [local go_sem] jk jm jn
open Tq
def eI (w:aw){c:Nat}(b:Nat)(a:c≠b):∀(vs:ay) (o:Nat),(w.setCells c o vs).heap[b]?=w.heap[b]?
 | [],o=>rfl
 |v::vs,o=>by
  have:=eI (w.setCell (ai c o) v) b a vs (o+1);rw[dM,dG a]at this;simpa [World.setCells]using this
def fK.appended {w w5:aw}{v:Value}{gg H b1 off:Nat}{u:Value}{cs:ay}{ps:List ft}(g:w.grownBy w5 v.ownBlock)(i:v.ownBlock=some gg\/gg=H)(hH:w.heap.size=H)
  (h:fK w (λb=>b1<b/\some b≠v.ownBlock) cs ps) {cap n:Nat}:fK (w5.setCell (ai b1 off) u) (λb=>b1<b/\some b≠(Value.slice (some (ai gg 0)) n cap).ownBlock) cs ps:=by
 have d:fK w (λb=>b1<b/\some b≠v.ownBlock/\some b≠some gg) cs ps:=h.V λb a c=>⟨a.1,a.2,λe=>by
  grind⟩
 have f:fK (w5.setCell (ai b1 off) u) (λb=>b1<b/\some b≠v.ownBlock/\some b≠some gg) cs ps:=fK.O (w:=w) (λb a c=>by
  rw[dM,dG Te]
  exact g.block b c a.2.1) d
 exact f.V λb a _=>⟨a.1,a.2.2⟩
def Sr (w:aw)(rb wb:Nat)(ws:List W)(i:Nat)(R:Rd w rb wb ws i):
  Calls prog 177 #[ag rb] w (rK w rb wb ws (gz ws i) (sE w)):=by
 have⟨i0,P,TM,TN,TO⟩:=info_parts Tryz.info208;have a:iX w.heap.size rb w (w.S6 #[.bool false,aa 0,S8,aa 0,ah,ah] 152) i:=iX.oB R.next (Tc w _);have g:=R.alloc (ak #[.bool false,aa 0,S8,aa 0,ah,ah] 152);have f:=dP.new w #[.bool false,aa 0,S8,aa 0,ah,ah] 152;have L:¬w.heap.size=rb:=by have:=R.blocks;omega
 have b:¬rb=w.heap.size:=Te;have c:w.heap.size<(w.alloc (ak #[.bool false,aa 0,S8,aa 0,ah,ah] 152)).heap.size:=Tf;generalize hr:gz ws i=r;have G:Hid (gz ws i=r):=hr;clear hr;go_in
 go_wp2_with fail;refine(Ec _ rb wb ws i _ [109,101,115,115,97,103,101] g Ti Th).V ?_
 cases h1:fU ws [109,101,115,115,97,103,101] i with
 |error p=>
  rintro e w1 ⟨rfl,j,A⟩;obtain rfl:r= .error p:=by rw[<-G.o,gz,d7 h1]
  unfold dX;go_wp2
  exact⟨rfl,rfl,j,a.J A Te⟩
 |ok q=>
  obtain⟨_,k⟩:=q;rintro e w1 ⟨rfl,l,A⟩;have d:w.heap.size<w1.heap.size:=aI c A.size;have h:=f.adv_ A c L;have b:=a.J A Te;clear A g f a c;go_wp2_with fail;refine(Qv _ rb wb ws k 1 l Th).V ?_
  cases h2:jK ws 1 k with
  |error p=>
   rintro e w2 ⟨rfl,j,A⟩;obtain rfl:r= .error p:=by rw[<-G.o,gz,dU h1,d7 h2]
   unfold dX;go_wp2
   exact⟨rfl,rfl,j,b.J A Te⟩
  |ok q=>
   obtain⟨x,c⟩:=q;rintro e w2 ⟨rfl,m,A⟩;have z2:w.heap.size<w2.heap.size:=aI d A.size;have k:=(h.adv_ A d L).alloc (ak #[.bool false,aa (dN x.1),ae x.1,aa x.2,ah,ah] 152);have g:=dP.new w2 #[.bool false,aa (dN x.1),ae x.1,aa x.2,ah,ah] 152;have a:=(b.J A Te).alloc (aD _) (ak #[.bool false,aa (dN x.1),ae x.1,aa x.2,ah,ah] 152);have C:=m.alloc (ak #[.bool false,aa (dN x.1),ae x.1,aa x.2,ah,ah] 152);have f:w2.heap.size<(w2.alloc (ak #[.bool false,aa (dN x.1),ae x.1,aa x.2,ah,ah] 152)).heap.size:=Tf;have N:¬w2.heap.size=rb:=by have:=R.blocks;omega
   have n6:¬w2.heap.size=w.heap.size:=Te;have n:rb<w2.heap.size:=by have:=R.blocks;omega
   clear A l h b d;go_wp2_with fail;refine(Ec _ rb wb ws c _ [123] C Ti Th).V ?_
   cases h3:fU ws [123] c with
   |error p=>
    rintro e w3 ⟨rfl,j,A⟩;obtain rfl:r= .error p:=by rw[<-G.o,gz,dU h1,dU h2,d7 h3]
    unfold dX;go_wp2
    exact⟨rfl,rfl,j,a.J A Te⟩
   |ok q=>
    obtain⟨_,c⟩:=q;rintro e w3 ⟨rfl,T,A⟩;have h:w2.heap.size<w3.heap.size:=aI f A.size;have I:=k.adv_ A Te L;have Q:=g.adv_ A f N;have O:=a.J A Te;clear A m C k g a f;obtain⟨M,a⟩:∃M,Hid (fC (fO ws [125]) (jg ws) ws.length c=M):=⟨_,rfl⟩;have TG:Hid ((gS M λl i=>gS (fU ws [125] i) λ_ i=> .ok (⟨false,x,l,[]⟩,i))=r):=(by have:=G.o;rw[gz,dU h1,dU h2,dU h3,a.o]at this;exact this);clear G h1 h2 h3;go_wp2;go_loopw [13] (λ_ wr=>∃(n k:Nat) (ps:List ft) (d:aC) (g f:Nat) (u:ay),ps.length<=k/\ws.length-k<=n/\Hid (m9 ps (fC (fO ws [125]) (jg ws) n k)=M)/\Rd wr rb wb ws k/\iX w.heap.size rb w wr k/\dP wr w.heap.size #[.bool false,aa 0,S8,aa 0,ah,ah] 152/\dP wr w2.heap.size #[.bool false,aa (dN x.1),ae x.1,aa x.2,.slice d g f,ah] 152/\wr.ownsRow (w2.heap.size+1) 208 4 (.slice d g f) ps.length u/\fK wr (λb=>w2.heap.size<b/\some b≠(Value.slice d g f).ownBlock) u ps/\w2.heap.size<wr.heap.size) (λ_ wr=>ws.length-iQ rb wr)
    case atStart=>
     refine⟨ws.length,c,[],none,0,0,[],Tf,Te,?_,T,O,I,Q,aX _ _ _ _,rfl,h⟩;rw[<-a.o];unfold Hid m9 gS;cases fC (fO ws [125]) (jg ws) ws.length c<;>rfl
    case round=>
     clear Q T I O h a;obtain⟨n,k,ps,d,g,f,u,a,c,HP,m,E,F,J,Y,V,G⟩:=hrel;have a:=m.lt;have a:=m.few;have HN:Hid (iQ rb wr=k):=m.nextOf;have⟨y,l⟩:=m.word;cases hs:(y.1.toList== [125])
     .have U:fO ws [125] k=false:=by unfold fO;grind
      have HY:Hid (ws[k]?=some y):=l;clear l;go_wp2_with fail;refine(Mp _ rb wb ws k y _ m HY.o).V ?_;rintro e w3 ⟨rfl,c⟩;rw[show(ByteArray.mk #[125]).toList= [125]from by decide+kernel];have C:=m.G c m.blocks.1 m.blocks.2;have v:=E.G c E.size;have K3:=F.G c F.lt;have H:=J.G c J.lt;have B:w3.ownsRow (w2.heap.size+1) 208 4 (.slice d g f) ps.length u:=eL c Y;have Tw:=V.O (λb _ o=>c.block b o);have TH:w2.heap.size<w3.heap.size:=aI G c.size;have X:Hid (some w2.heap.size≠(Value.slice d g f).ownBlock):=(by intro e;have:=(B.lt _ e.sy).1;omega);clear m E F J Y V G c;go_wp2_with fail;have a:=H.cell 4
      cases h4:jg ws k with
      |error p=>
       obtain rfl:r= .error p:=(by rw[<-TG.o,<-HP.o,qx U Te h4];rfl);refine wp_region_held_drew (S:=λw'=>w'.cell? (ai w2.heap.size 4)=some (.slice d g f)) Tk (by simpa using a) (λhHeld=> ?_);refine gU 0 (.pointer (some (ai w2.heap.size 4))) rfl Tj (λ_ _ _ h=>h) (Or.inl ⟨Tk,λw a=>Tk⟩) hHeld ?_;refine gU 1 (.slice d g f) rfl Tj (λ_ _ _ h=>h) (Or.inl ⟨Tk,λw a=>by dsimp only at a;go_simp⟩) hHeld ?_;refine gU 2 (ag rb) rfl Tj (λ_ _ _ h=>h) (Or.inl ⟨Tk,λw a=>Tk⟩) hHeld ?_;simp only[Act.put,S7];refine wpAnyH_ready (rs:= [3]) Tj Tf (AllReadyH.cons rfl (λK a=> ?_) AllReadyH.nil);clear a;go_simp;refine(R8 _ rb wb ws k C.drew).V ?_;rw[h4];rintro e s ⟨rfl,j,A⟩
       exact⟨rfl,rfl,j,v.drew.J A (by have:=v.size;simp;omega)⟩
      |ok q=>
       obtain⟨p,h⟩:=q;have a:k<h:=wE _ _ _ _ h4;have S:Hid (m9 (ps++ [p]) (fC (fO ws [125]) (jg ws) (n-1) h)=M):=(by rw[<-HP.o,sD ps U Te h4];rfl);have J:=H;have m:=C;go_region_law (first|(refine step_append_lies _ Tk _ _ _ Tk (w2.heap.size+1) 208 i0 _ 4 56 underlying149 P TM TN TO rfl Te (.slice d g f) ps.length u Tk ((jo A (aD _) Te (oO B)).alloc _) (ai s.heap.size 0) 1 1 [_,_,_,_] Tk Tk (aY (t:=208) (fr:=(0,0)) (heap_alloc_new s _)) Tm Te Tl Te (by have:=A.size;simp at this⊢;omega) (s.heap.size+1) Tf ?_;intro Z z q Ty D M a;have⟨x1,x2⟩:=(((J.drew.adv_ A Tg N).alloc _).grown D X.o).I)|(go_simp;go_at_call 259;refine(R8 _ rb wb ws k m.drew).V ?_;rw[h4];rintro e s ⟨⟨fa,fn,fc,rfl,Tz⟩,K,A⟩;have⟨y1,y2⟩:=(J.drew.adv_ A Tg N).I;have⟨y3,y4,y5,y6⟩:=gW (w:=s) (b:=w2.heap.size) (by have:=A.size;simp at this;omega)))
       all_goals
        go_wp2;go_roundw
        case rel=>
         go_light;have a:w3.heap.size<=s.heap.size:=by have:=A.size;simpa using this
         have t:=D.size;have P:=((((v.drew.J A (by have:=v.size;simp;omega)).alloc (aD _) _).grown D (aD _) (λj q=>by have:=(B.lt j q).1;omega))).setCell (a:=(ai w2.heap.size 4)) (by grind) (Ta Z (ps.length+1) z);refine⟨n-1,h,ps++ [p],some (ai Z 0),ps.length+1,z,u++ [aa (lO p.oneof),ae (jp p.oneof),aa (mY p.oneof),.slice fa fn fc],by grind,Te,S,P.rd R R.blocks.1 R.blocks.2 K.lt,P,?_,?_,?_,?_,?_⟩;rotate_left 2;.have:=ownsRow_setCell_below Ty (a:=(ai w2.heap.size 4)) Tf (Ta Z (ps.length+1) z);grind
         rotate_left 2;.exact(((K3.drew.adv_ A Tg L).alloc _).grown D (λe=>by have:=(B.lt _ e.sy).1;omega)).other 4 _ n6
         .exact(((H.drew.adv_ A Tg N).alloc _).grown D X.o).set 4 _
         .refine fK.appended D M Tf ?_;refine fK.snoc ?_ ?_
          .refine((d5.of (Tz.alloc _)).V λb o X=>⟨aI TH (by simpa using o),λe=> ?_⟩);have:=(B.lt b e.sy).2;have:w3.heap.size<=b:=by simpa using o
           omega
          .refine fK.O (w:=w3) (λb o X=> ?_) Tw;rw[Below.l _ _ _ Te,Below.block A b (by simpa using X),BT,dM,dG Te];rfl
         .simp[World.setCell]at t⊢;omega
        case measure=>
         go_light;have P:=((((v.drew.J A (by have:=v.size;simp;omega)).alloc (aD _) _).grown D (aD _) (λj q=>by have:=(B.lt j q).1;omega))).setCell (a:=(ai w2.heap.size 4)) (by grind) (Ta Z (ps.length+1) z);have a:=P.rd R R.blocks.1 R.blocks.2 K.lt;have j:=a.lt;rw[a.nextOf,HN.o];omega
     .have U:fO ws [125] k=true:=by unfold fO;grind
      have a:fU ws [125] k= .ok ((),k+1):=by unfold fU;grind
      have HY:Hid (ws[k]?=some y):=l;clear l;obtain rfl:r= .ok (⟨false,x,ps,[]⟩,k+1):=(by rw[<-TG.o,<-HP.o,oN U];simp only[m9,gS,a,bH]);go_wp2_with fail;refine(Mp _ rb wb ws k y _ m HY.o).V ?_;rintro e w3 ⟨rfl,c⟩;rw[show(ByteArray.mk #[125]).toList= [125]from by decide+kernel];have C:=m.G c m.blocks.1 m.blocks.2;have v:=E.G c E.size;have K3:=F.G c F.lt;have H:=J.G c J.lt;have B:w3.ownsRow (w2.heap.size+1) 208 4 (.slice d g f) ps.length u:=eL c Y;have Tw:=V.O (λb _ o=>c.block b o);have TH:w2.heap.size<w3.heap.size:=aI G c.size;clear m E F J Y V G c;go_wp2_with fail;refine(Ec _ rb wb ws k _ [125] C Ti Th).V ?_;rw[a];rintro e s ⟨rfl,T,A⟩;have I:=K3.adv_ A Te L;have Q:=H.adv_ A Te N;have O:=v.J A v.size;have j:s.ownsRow (w2.heap.size+1) 208 4 (.slice d g f) ps.length u:=jo A (aD _) Te B
      have e:fK s (λb=>w2.heap.size<b/\some b≠(Value.slice d g f).ownBlock) u ps:=fK.O (w:=w3) (λb o X=>by
       rw[Below.block A b X,BT,dM,dG Te]) Tw
      have⟨h,a⟩:=I.I;have⟨a,c⟩:=Q.I;go_wp2;have a:=O.sets (b:=w.heap.size) (aD _) [.bool false,aa (dN x.1),ae x.1,aa x.2,.slice d g f,ah] 0;have c:=I.sets_all [.bool false,aa (dN x.1),ae x.1,aa x.2,.slice d g f,ah] rfl;refine dJ (dW results177 _ _ rfl c underlying152 Tk) rfl ⟨⟨d,g,f,none,0,0,rfl,u,?_,?_,?_⟩,?_,a⟩;.exact(d5.of (jz (lo:=w.heap.size) j (b:=w.heap.size) (Nat.lt_succ_of_lt z2) (Nat.le_succ_of_le (cK z2)) [.bool false,aa (dN x.1),ae x.1,aa x.2,.slice d g f,ah] 0))
      .have c:=(fK.O (w:=s) (w':=s.setCells w.heap.size 0 [.bool false,aa (dN x.1),ae x.1,aa x.2,.slice d g f,ah]) (λb o _=>eI _ _ Te _ _) e);exact c.V (λb o _=>cK (Nat.lt_trans z2 o.1))
      .exact⟨aX _ _ _ _,λb o=>by cases o⟩
      .exact a.rd R R.blocks.1 R.blocks.2 T.lt
def Ss (w:aw)(rb wb:Nat)(ws:List W)(i:Nat)(R:Rd w rb wb ws i):
  Calls prog 176 #[ag rb] w (rK w rb wb ws (j9 ws i) (sE w)):=by
 have⟨i0,TC,TD,TE,TF⟩:=info_parts Tryz.info302;have S:iX w.heap.size rb w (w.S6 #[.bool false,aa 0,S8,aa 0,ah,ah] 152) i:=iX.oB R.next (Tc w _);have d:=R.alloc (ak #[.bool false,aa 0,S8,aa 0,ah,ah] 152);have c:=dP.new w #[.bool false,aa 0,S8,aa 0,ah,ah] 152;have I:¬w.heap.size=rb:=by have:=R.blocks;omega
 have a:¬rb=w.heap.size:=Te;have a:w.heap.size<(w.alloc (ak #[.bool false,aa 0,S8,aa 0,ah,ah] 152)).heap.size:=Tf;generalize hr:j9 ws i=r;have G:Hid (j9 ws i=r):=hr;clear hr;go_in
 go_wp2_with fail;refine(Ec _ rb wb ws i _ [101,110,117,109] d Ti Th).V ?_
 cases h1:fU ws [101,110,117,109] i with
 |error p=>
  rintro e w1 ⟨rfl,j,A⟩;obtain rfl:r= .error p:=by rw[<-G.o,j9,d7 h1]
  unfold dX;go_wp2
  exact⟨rfl,rfl,j,S.J A Te⟩
 |ok q=>
  obtain⟨_,g⟩:=q;rintro e w1 ⟨rfl,h,A⟩;have b:w.heap.size<w1.heap.size:=aI a A.size;have f:=c.adv_ A a I;have T:=S.J A Te;clear A d c S a;go_wp2_with fail;refine(Qv _ rb wb ws g 1 h Th).V ?_
  cases h2:jK ws 1 g with
  |error p=>
   rintro e w2 ⟨rfl,j,A⟩;obtain rfl:r= .error p:=by rw[<-G.o,j9,dU h1,d7 h2]
   unfold dX;go_wp2
   exact⟨rfl,rfl,j,T.J A Te⟩
  |ok q=>
   obtain⟨x,a⟩:=q;rintro e w2 ⟨rfl,k,A⟩;have z2:w.heap.size<w2.heap.size:=aI b A.size;have g:=(f.adv_ A b I).alloc (ak #[.bool true,aa (dN x.1),ae x.1,aa x.2,ah,ah] 152);have d:=dP.new w2 #[.bool true,aa (dN x.1),ae x.1,aa x.2,ah,ah] 152;have U:=(T.J A Te).alloc (aD _) (ak #[.bool true,aa (dN x.1),ae x.1,aa x.2,ah,ah] 152);have E:=k.alloc (ak #[.bool true,aa (dN x.1),ae x.1,aa x.2,ah,ah] 152);have c:w2.heap.size<(w2.alloc (ak #[.bool true,aa (dN x.1),ae x.1,aa x.2,ah,ah] 152)).heap.size:=Tf;have S:¬w2.heap.size=rb:=by have:=R.blocks;omega
   have n6:¬w2.heap.size=w.heap.size:=Te;have l:rb<w2.heap.size:=by have:=R.blocks;omega
   clear A h f T b;go_wp2_with fail;refine(Ec _ rb wb ws a _ [123] E Ti Th).V ?_
   cases h3:fU ws [123] a with
   |error p=>
    rintro e w3 ⟨rfl,j,A⟩;obtain rfl:r= .error p:=by rw[<-G.o,j9,dU h1,dU h2,d7 h3]
    unfold dX;go_wp2
    exact⟨rfl,rfl,j,U.J A Te⟩
   |ok q=>
    obtain⟨_,a⟩:=q;rintro e w3 ⟨rfl,K,A⟩;have b:w2.heap.size<w3.heap.size:=aI c A.size;have v:=g.adv_ A Te I;have o:=d.adv_ A c S;have B:=U.J A Te;clear A k E g d U c;obtain⟨M,V⟩:∃M,Hid (fC (fO ws [125]) (jx ws) ws.length a=M):=⟨_,rfl⟩;have T:Hid ((gS M λl i=>gS (fU ws [125] i) λ_ i=> .ok (⟨true,x,[],l⟩,i))=r):=(by have:=G.o;rw[j9,dU h1,dU h2,dU h3,V.o]at this;exact this);clear G h1 h2 h3;go_wp2;go_loopw [15] (λ_ wr=>∃(n k:Nat) (vs:List (W×W)) (f:aC) (h g:Nat),vs.length<=k/\ws.length-k<=n/\Hid (m9 vs (fC (fO ws [125]) (jx ws) n k)=M)/\Rd wr rb wb ws k/\iX w.heap.size rb w wr k/\dP wr w.heap.size #[.bool false,aa 0,S8,aa 0,ah,ah] 152/\dP wr w2.heap.size #[.bool true,aa (dN x.1),ae x.1,aa x.2,ah,.slice f h g] 152/\wr.ownsRow (w2.heap.size+1) 302 6 (.slice f h g) vs.length (vs.flatMap D6)/\w2.heap.size<wr.heap.size) (λ_ wr=>ws.length-iQ rb wr)
    case atStart=>
     refine⟨ws.length,a,[],none,0,0,Tf,Te,?_,K,B,v,o,aX _ _ _ _,b⟩;rw[<-V.o];unfold Hid m9 gS;cases fC (fO ws [125]) (jx ws) ws.length a<;>rfl
    case round=>
     clear o K v B b V;obtain⟨n,k,vs,f,h,g,a,b,X,d,C,D,J,L,P⟩:=hrel;have a:=d.lt;have a:=d.few;have U:Hid (iQ rb wr=k):=d.nextOf;have⟨y,O⟩:=d.word;cases hs:(y.1.toList== [125])
     .have N:fO ws [125] k=false:=by unfold fO;grind
      have Y:Hid (ws[k]?=some y):=O;clear O;go_wp2_with fail;refine(Mp _ rb wb ws k y _ d Y.o).V ?_;rintro e w3 ⟨rfl,c⟩;rw[show(ByteArray.mk #[125]).toList= [125]from by decide+kernel];have E:=d.G c d.blocks.1 d.blocks.2;have s:=C.G c C.size;have b:=D.G c D.lt;have Z:=J.G c J.lt;have F:w3.ownsRow (w2.heap.size+1) 302 6 (.slice f h g) vs.length (vs.flatMap D6):=eL c L;have Tz:w2.heap.size<w3.heap.size:=aI P c.size;have G:Hid (some w2.heap.size≠(Value.slice f h g).ownBlock):=(by intro e;have:=(F.lt _ e.sy).1;omega);clear d C D J L P c;go_wp2_with fail;refine(Ru _ rb wb ws k E).V ?_
      cases h4:jx ws k with
      |error p=>
       rintro e m ⟨rfl,j,A⟩;obtain rfl:r= .error p:=(by rw[<-T.o,<-X.o,qx N Te h4];rfl);unfold dX;go_wp2
       exact⟨rfl,rfl,j,s.J A s.size⟩
      |ok q=>
       obtain⟨q,Q⟩:=q;rintro e m ⟨rfl,V,A⟩;have a:k<Q:=sB _ _ _ _ h4;have TA:Hid (m9 (vs++ [q]) (fC (fO ws [125]) (jx ws) (n-1) Q)=M):=(by rw[<-X.o,sD vs N Te h4];rfl);have a:w3.heap.size<=m.heap.size:=A.size;have B:=(((s.J A s.size).alloc (aD _) (ak #[aa (dN q.1.1),ae q.1.1,aa q.1.2] 148)).alloc (aD _) (ak #[aa (dN q.2.1),ae q.2.1,aa q.2.2] 148));have v:=((b.adv_ A Te I).alloc (ak #[aa (dN q.1.1),ae q.1.1,aa q.1.2] 148)).alloc (ak #[aa (dN q.2.1),ae q.2.1,aa q.2.2] 148);have o:=((Z.adv_ A Te S).alloc (ak #[aa (dN q.1.1),ae q.1.1,aa q.1.2] 148)).alloc (ak #[aa (dN q.2.1),ae q.2.1,aa q.2.2] 148);have l:((m.S6 #[aa (dN q.1.1),ae q.1.1,aa q.1.2] 148).S6 #[aa (dN q.2.1),ae q.2.1,aa q.2.2] 148).ownsRow (w2.heap.size+1) 302 6 (.slice f h g) vs.length (vs.flatMap D6):=((jo A (aD _) Te F).alloc _).alloc _;have a:Hid (∀j u,[aa (dN q.1.1),ae q.1.1,aa q.1.2,aa (dN q.2.1),ae q.2.1,aa q.2.2][j]?=some u->(((m.S6 #[aa (dN q.1.1),ae q.1.1,aa q.1.2] 148).S6 #[aa (dN q.2.1),ae q.2.1,aa q.2.2] 148).S6 #[aa (dN q.1.1),ae q.1.1,aa q.1.2,aa (dN q.2.1),ae q.2.1,aa q.2.2] 302).cell? (((ai (m.heap.size+1+1) 0):Addr).add j)=some u):=(by have:=aY (cs:= #[aa (dN q.1.1),ae q.1.1,aa q.1.2,aa (dN q.2.1),ae q.2.1,aa q.2.2]) (t:=302) (fr:=(0,0)) (heap_alloc_new ((m.S6 #[aa (dN q.1.1),ae q.1.1,aa q.1.2] 148).S6 #[aa (dN q.2.1),ae q.2.1,aa q.2.2] 148) (ak #[aa (dN q.1.1),ae q.1.1,aa q.1.2,aa (dN q.2.1),ae q.2.1,aa q.2.2] 302));simp only[ca]at this;exact this);have⟨j1,j2⟩:=o.I;have⟨p,t⟩:=(o.alloc (ak #[aa (dN q.1.1),ae q.1.1,aa q.1.2,aa (dN q.2.1),ae q.2.1,aa q.2.2] 302)).I;go_wp2_with (first|(at_builtin;refine wpList_append_lies _ rfl _ _ _ rfl (w2.heap.size+1) 302 i0 _ 6 64 underlying150 TC TD TE TF rfl Te (.slice f h g) vs.length (vs.flatMap D6) rfl (l.alloc _) (ai (m.heap.size+1+1) 0) 1 1 [aa (dN q.1.1),ae q.1.1,aa q.1.2,aa (dN q.2.1),ae q.2.1,aa q.2.2] rfl rfl a.o ?h1 ?hm ?h63 ?hby ?hba (m.heap.size+1+1+1) ?hH ?_;rotate_right;intro p z w5 M H t hlt;have⟨x1,x2⟩:=((o.alloc _).grown H G.o).I))
       case h1=>intro u a;simp at a;rcases a with rfl|rfl|rfl|rfl|rfl|rfl<;>rfl
       case hm=>omega
       case h63=>unfold maxLen;omega
       case hby=>omega
       case hba=>simp;omega
       case hH=>simp
       have u:=H.size;have t:=((B.alloc (aD _) _).grown H (aD _) (λj hj=>by have:=(F.lt j hj).1;omega)).setCell (a:=(ai w2.heap.size 5)) (by grind) (Ta p (vs.length+1) z);have j:=t.rd R R.blocks.1 R.blocks.2 V.lt;refine⟨⟨n-1,Q,vs++ [q],some (ai p 0),vs.length+1,z,by grind,Te,TA,j,t,?_,?_,?_,?_⟩,?_⟩;.exact((v.alloc _).grown H (λe=>by have:=(F.lt _ e.sy).1;omega)).other 5 _ n6
       .exact((o.alloc _).grown H G.o).set 5 _
       .have:=ownsRow_setCell_below M (a:=(ai w2.heap.size 5)) Tf (Ta p (vs.length+1) z);simpa [D6,wC]using this
       .simp[World.setCell]at u⊢;omega
       .have a:=j.lt;rw[j.nextOf,U.o];omega
     .have N:fO ws [125] k=true:=by unfold fO;grind
      have a:fU ws [125] k= .ok ((),k+1):=by unfold fU;grind
      have Y:Hid (ws[k]?=some y):=O;clear O;obtain rfl:r= .ok (⟨true,x,[],vs⟩,k+1):=(by rw[<-T.o,<-X.o,oN N];simp only[m9,gS,a,bH]);go_wp2_with fail;refine(Mp _ rb wb ws k y _ d Y.o).V ?_;rintro e w3 ⟨rfl,c⟩;rw[show(ByteArray.mk #[125]).toList= [125]from by decide+kernel];have E:=d.G c d.blocks.1 d.blocks.2;have s:=C.G c C.size;have b:=D.G c D.lt;have Z:=J.G c J.lt;have F:w3.ownsRow (w2.heap.size+1) 302 6 (.slice f h g) vs.length (vs.flatMap D6):=eL c L;have Tz:w2.heap.size<w3.heap.size:=aI P c.size;clear d C D J L P c;go_wp2_with fail;refine(Ec _ rb wb ws k _ [125] E Ti Th).V ?_;rw[a];rintro e m ⟨rfl,K,A⟩;have v:=b.adv_ A Te I;have o:=Z.adv_ A Te S;have B:=s.J A s.size;have l:m.ownsRow (w2.heap.size+1) 302 6 (.slice f h g) vs.length (vs.flatMap D6):=jo A (aD _) Te F;have⟨Q,a⟩:=v.I;have⟨j1,j2⟩:=o.I;go_wp2;have a:=B.sets (b:=w.heap.size) (aD _) [.bool true,aa (dN x.1),ae x.1,aa x.2,ah,.slice f h g] 0;have c:=v.sets_all [.bool true,aa (dN x.1),ae x.1,aa x.2,ah,.slice f h g] rfl;refine dJ (dW results176 _ _ rfl c underlying152 Tk) rfl ⟨⟨none,0,0,f,h,g,rfl,[],?_,?_,?_⟩,?_,a⟩;.exact⟨aX _ _ _ _,λb c=>by cases c⟩
      .rfl
      .exact(d5.of (jz (lo:=w.heap.size) l (b:=w.heap.size) (Nat.lt_succ_of_lt z2) (Nat.le_succ_of_le (cK z2)) [.bool true,aa (dN x.1),ae x.1,aa x.2,ah,.slice f h g] 0))
      .exact a.rd R R.blocks.1 R.blocks.2 K.lt
def QG (g:Bool)(w:aw)(rb wb:Nat)(ws:List W)(i:Nat)(R:Rd w rb wb ws i)(P:fO ws [101,110,117,109] i=g):
  Calls prog 119 #[ag rb] w (rK w rb wb ws (cond g (j9 ws i) (gz ws i)) (sE w)):=by
 have⟨x,u⟩:=R.word;have H:Hid (ws[i]?=some x):=u;rw[Cj _ u]at P;have v:iX w.heap.size rb w (w.S6 #[.bool false,aa 0,S8,aa 0,ah,ah] 152) i:=iX.oB R.next (Tc w _);have a:=R.alloc (ak #[.bool false,aa 0,S8,aa 0,ah,ah] 152);have C:=dP.new w #[.bool false,aa 0,S8,aa 0,ah,ah] 152;have O:¬w.heap.size=rb:=by have:=R.blocks;omega
 have o:w.heap.size<(w.alloc (ak #[.bool false,aa 0,S8,aa 0,ah,ah] 152)).heap.size:=Tf;generalize hr:cond g (j9 ws i) (gz ws i)=r;obtain⟨z,s⟩:∃z,Hid (r=z):=⟨_,rfl⟩;have B:Hid (cond g (j9 ws i) (gz ws i)=z):=hr.J s.o;clear hr u;cases g
 all_goals
  go_in
  go_wp2_with fail;refine(Mp _ rb wb ws i x _ a H.o).V ?_;rintro e w1 ⟨rfl,d⟩;rw[show(ByteArray.mk #[101,110,117,109]).toList= [101,110,117,109]from by decide+kernel];have E:=a.G d a.blocks.1 a.blocks.2;have y:=v.G d (cK o);have I:=C.G d o;have Q:w.heap.size<w1.heap.size:=aI o d.size;clear a v C o d;go_wp2_with fail
  first
   |(refine(Sr _ rb wb ws i E).V ?_;rw[show gz ws i=z from B.o])
   |(refine(Ss _ rb wb ws i E).V ?_;rw[show j9 ws i=z from B.o])
  cases z with
  |error p=>
   rintro e w2 ⟨rfl,j,A⟩;obtain rfl:r= .error p:=s.o;unfold dX;go_wp2
   exact⟨rfl,rfl,j,y.J A Te⟩
  |ok q=>
   obtain⟨b,N⟩:=q;rintro e w2 ⟨⟨f,k,h,l,n,m,rfl,M⟩,J,A⟩;obtain rfl:r= .ok (b,N):=s.o;have D:=I.adv_ A Q O;have G:=y.J A Te;have⟨S,T⟩:=D.I;go_wp2;have F:=G.sets (b:=w.heap.size) (aD _) [.bool b.enum,aa (dN b.name.1),ae b.name.1,aa b.name.2,.slice f k h,.slice l n m] 0;have K:=D.sets_all [.bool b.enum,aa (dN b.name.1),ae b.name.1,aa b.name.2,.slice f k h,.slice l n m] rfl;refine dJ (dW results119 _ _ rfl K underlying152 Tj) rfl ⟨⟨f,k,h,l,n,m,rfl,?_⟩,?_,F⟩;.have L:=(jP.O (w:=w2) (w':=w2.setCells w.heap.size 0 [.bool b.enum,aa (dN b.name.1),ae b.name.1,aa b.name.2,.slice f k h,.slice l n m]) (λc t _=>eI _ _ (by have:w1.heap.size<=c:=t;omega) _ _) M);exact L.V (λc t _=>by have:w1.heap.size<=c:=t;omega)
   .exact F.rd R R.blocks.1 R.blocks.2 J.lt
def R9 (w:aw)(rb wb:Nat)(ws:List W)(i:Nat)(R:Rd w rb wb ws i):
  S9 119 #[ag rb] w (rK w rb wb ws (ir ws i) (sE w)):=by
 unfold ir;cases t0:fO ws [101,110,117,109] i;all_goals exact QG _ w rb wb ws i R t0
def G5 (ws:List W)(i:Nat):On i (ir ws i):=by
 intro a j h;unfold ir at h;split at h;.unfold j9 at h;have⟨_,g,b,h⟩:=dQ h;have⟨_,k,c,h⟩:=dQ h;have⟨_,l,d,h⟩:=dQ h;have⟨_,m,e,h⟩:=dQ h;have⟨_,n,f,h⟩:=dQ h;have:=(eA _ _ _ _ _ b).1;have:=(gJ _ _ _ _ _ c).1;have:=(eA _ _ _ _ _ d).1;have:=sC _ _ (sB ws) _ _ _ _ e;have:=(eA _ _ _ _ _ f).1;simp at h;omega
 .unfold gz at h;have⟨_,g,b,h⟩:=dQ h;have⟨_,k,c,h⟩:=dQ h;have⟨_,l,d,h⟩:=dQ h;have⟨_,m,e,h⟩:=dQ h;have⟨_,n,f,h⟩:=dQ h;have:=(eA _ _ _ _ _ b).1;have:=(gJ _ _ _ _ _ c).1;have:=(eA _ _ _ _ _ d).1;have:=sC _ _ (wE ws) _ _ _ _ e;have:=(eA _ _ _ _ _ f).1;simp at h;omega
def eQ.appended {w w5:aw}{v:Value}{gg H b1 off:Nat}{u:Value}{cs:ay}{ps:List dS}(i:w.grownBy w5 v.ownBlock)(c:v.ownBlock=some gg\/gg=H)(hH:w.heap.size=H)
  (h:eQ w (λb=>b1<b/\some b≠v.ownBlock) cs ps) {cap n:Nat}:eQ (w5.setCell (ai b1 off) u) (λb=>b1<b/\some b≠(Value.slice (some (ai gg 0)) n cap).ownBlock) cs ps:=by
 have f:eQ w (λb=>b1<b/\some b≠v.ownBlock/\some b≠some gg) cs ps:=h.V λb a d=>⟨a.1,a.2,λe=>by
  rcases c with c|c;.exact a.2 (e.J c.sy)
  .have:=Option.some.inj e;omega⟩
 have g:eQ (w5.setCell (ai b1 off) u) (λb=>b1<b/\some b≠v.ownBlock/\some b≠some gg) cs ps:=eQ.O (w:=w) (λb a d=>by
  rw[dM,dG (by have:=a.1;omega)]
  exact i.block b d a.2.1) f
 exact g.V λb a _=>⟨a.1,a.2.2⟩
def Su (w:aw)(rb wb:Nat)(ws:List W)(R:Rd w rb wb ws 0):
  Calls prog 70 #[ag rb] w (rK w rb wb ws (nY ws) (Mw w)):=by
 have⟨i0,I,Y,TK,TL⟩:=info_parts Tryz.info152;have a:iX w.heap.size rb w ((w.alloc (ak #[ah] 87)).alloc (ak #[ah] 87)) 0:=iX.oB R.next ((Tc w _).alloc Tf _);have h:=(R.alloc (ak #[ah] 87)).alloc (ak #[ah] 87);have f:=(dP.new w #[ah] 87).alloc (ak #[ah] 87);have e:dP ((w.S6 #[ah] 87).S6 #[ah] 87) (w.heap.size+1) #[ah] 87:=(by have:=dP.new (w.S6 #[ah] 87) #[ah] 87;simpa using this);have n1:¬w.heap.size=rb:=by have:=R.blocks;omega
 have c:¬w.heap.size+1=rb:=by have:=R.blocks;omega
 have n6:¬w.heap.size+1=w.heap.size:=Te;have b:rb<w.heap.size:=by have:=R.blocks;omega
 generalize hr:nY ws=r;have d:Hid (nY ws=r):=hr;clear hr;go_in
 go_wp2;go_loopw [7] (λ_ wr=>∃(n k:Nat) (bs:List dS) (g:aC) (l i:Nat) (u:ay),bs.length<=k/\ws.length-k<=n/\Hid (m9 bs (fC (mm ws) (ir ws) n k)=r)/\Rd wr rb wb ws k/\iX w.heap.size rb w wr k/\dP wr w.heap.size #[ah] 87/\dP wr (w.heap.size+1) #[.slice g l i] 87/\wr.ownsRow (w.heap.size+2) 152 6 (.slice g l i) bs.length u/\eQ wr (λb=>w.heap.size+1<b/\some b≠(Value.slice g l i).ownBlock) u bs/\w.heap.size+1<wr.heap.size) (λ_ wr=>ws.length-iQ rb wr)
 case atStart=>
  refine⟨ws.length,0,[],none,0,0,[],Tf,Te,?_,h,a,f,e,aX _ _ _ _,rfl,Tf⟩;rw[<-d.o];unfold Hid m9 gS nY;cases fC (mm ws) (ir ws) ws.length 0<;>rfl
 case round=>
  clear h a f e d;obtain⟨n,k,bs,g,l,i,u,a,e,U,d,C,D,J,P,O,Z⟩:=hrel;have a:=d.lt;have a:=d.few;have HN:Hid (iQ rb wr=k):=d.nextOf;have⟨y,E⟩:=d.word;cases hs:(dN y.1==4)
  .have N:mm ws k=false:=by unfold mm;simp only[E,hs]
   have TF:(dN y.1 !=4)=true:=by simpa [bne]using hs
   have V:Hid (ws[k]?=some y):=E;clear E hs;go_wp2_with fail;refine(Mi _ rb wb ws k y d V.o).V ?_;rintro e w3 ⟨rfl,f⟩;have M:=d.G f d.blocks.1 d.blocks.2;have o:=C.G f C.size;have L:=D.G f D.lt;have F:=J.G f J.lt;have s:w3.ownsRow (w.heap.size+2) 152 6 (.slice g l i) bs.length u:=eL f P;have X:=O.O (λb _ z=>f.block b z);have a:w.heap.size+1<w3.heap.size:=aI Z f.size;have x:Hid (some (w.heap.size+1)≠(Value.slice g l i).ownBlock):=(by intro e;have:=(s.lt _ e.sy).1;omega);clear d C D J P O Z f;go_wp2_with fail;have a:=F.cell 0
   cases h4:ir ws k with
   |error p=>
    obtain rfl:r= .error p:=(by rw[<-U.o,qx N Te h4];rfl);refine wp_region_held_drew (S:=λw'=>w'.cell? (ai (w.heap.size+1) 0)=some (.slice g l i)) Tj (by simpa using a) (λhHeld=> ?_);refine gU 0 (ag (w.heap.size+1)) rfl Tj (λ_ _ _ h=>h) (Or.inl ⟨Tk,λw G=>by dsimp only at G;go_simp⟩) hHeld ?_;refine gU 1 (.slice g l i) rfl Tj (λ_ _ _ h=>h) (Or.inl ⟨Tk,λw G=>by dsimp only at G;go_simp⟩) hHeld ?_;refine gU 2 (ag rb) rfl Tj (λ_ _ _ h=>h) (Or.inl ⟨Tk,λw G=>by dsimp only at G;go_simp⟩) hHeld ?_;simp only[Act.put,S7];refine wpAnyH_ready (rs:= [3]) Tj Tf (AllReadyH.cons rfl (λK a=> ?_) AllReadyH.nil);clear a;go_simp;refine(R9 _ rb wb ws k M.drew).V ?_;rw[h4];rintro e B ⟨rfl,j,A⟩
    exact⟨rfl,rfl,j,o.drew.J A (by have:=o.size;simp;omega)⟩
   |ok q=>
    obtain⟨b,T⟩:=q;have a:k<T:=G5 _ _ _ _ h4;have H:Hid (m9 (bs++ [b]) (fC (mm ws) (ir ws) (n-1) T)=r):=(by rw[<-U.o,sD bs N Te h4];exact rfl);have J:=F;have d:=M;go_region_law (first|(refine step_append_lies _ Tk _ _ _ Tk (w.heap.size+2) 152 i0 _ 6 88 underlying85 I Y TK TL rfl Te (.slice g l i) bs.length u Tk ((jo A (aD _) Te (oO s)).alloc _) (ai B.heap.size 0) 1 1 [_,_,_,_,_,_] Tk Tk (aY (t:=152) (fr:=(0,0)) (heap_alloc_new B _)) Tm Te Tl Te (by have:=A.size;simp at this⊢;omega) (B.heap.size+1) Tf ?_;intro Q m w5 Tz v Tx a;have⟨x1,x2⟩:=(((J.drew.adv_ A Tg c).alloc _).grown v x.o).I)|(go_simp;go_at_call 119;refine(R9 _ rb wb ws k d.drew).V ?_;rw[h4];rintro e B ⟨⟨h,q,p,G,S,K,rfl,TM⟩,R5,A⟩;have⟨y1,y2⟩:=(J.drew.adv_ A Tg c).I;have⟨y3,y4,y5,y6⟩:=gW (w:=B) (b:=w.heap.size+1) (by have:=A.size;simp at this;omega)))
    all_goals
     go_wp2;go_roundw
     case rel=>
      go_light;have a:w3.heap.size<=B.heap.size:=by have:=A.size;simpa using this
      have t:=v.size;have I:=((((o.drew.J A (by have:=o.size;simp;omega)).alloc (aD _) _).grown v (aD _) (λj Y=>by have:=(s.lt j Y).1;omega))).setCell (a:=(ai (w.heap.size+1) 0)) Tf (Ta Q (bs.length+1) m);refine⟨n-1,T,bs++ [b],some (ai Q 0),bs.length+1,m,u++ [.bool b.enum,aa (dN b.name.1),ae b.name.1,aa b.name.2,.slice h q p,.slice G S K],Tg,Te,H,I.rd R R.blocks.1 R.blocks.2 R5.lt,I,?_,?_,?_,?_,?_⟩;.exact(((L.drew.adv_ A Tg n1).alloc _).grown v (λe=>by have:=(s.lt _ e.sy).1;omega)).other 0 _ n6
      .exact(((F.drew.adv_ A Tg c).alloc _).grown v x.o).set 0 _
      .have:=ownsRow_setCell_below Tz (a:=(ai (w.heap.size+1) 0)) Tf (Ta Q (bs.length+1) m);simpa using this
      .refine eQ.appended v Tx Tf ?_;refine eQ.snoc ?_ ?_
       .have n:jP (B.S6 #[.bool b.enum,aa (dN b.name.1),ae b.name.1,aa b.name.2,.slice h q p,.slice G S K] 152) (λx=>w3.drew.heap.size<=x) b (.slice h q p) (.slice G S K):=TM.O (λc _ H=>Below.l _ _ _ H);refine n.V λc H h=> ?_
        have n:w3.heap.size<=c:=by simpa using H
        refine⟨Te,λe=> ?_⟩;have:=(s.lt c e.sy).2;omega
       .refine eQ.O (w:=w3) (λc H h=> ?_) X;rw[Below.l _ _ _ Te,Below.block A c (by simpa using h),BT,dM,dG (by have:=H.1;omega)];rfl
      .simp[World.setCell]at t⊢;omega
     case measure=>
      go_light;have I:=((((o.drew.J A (by have:=o.size;simp;omega)).alloc (aD _) _).grown v (aD _) (λj Y=>by have:=(s.lt j Y).1;omega))).setCell (a:=(ai (w.heap.size+1) 0)) Tf (Ta Q (bs.length+1) m);have a:=I.rd R R.blocks.1 R.blocks.2 R5.lt;have c:=a.lt;rw[a.nextOf,HN.o];omega
  .have N:mm ws k=true:=by unfold mm;simp only[E,hs]
   have TF:(dN y.1 !=4)=false:=by simpa [bne]using hs
   have V:Hid (ws[k]?=some y):=E;clear E hs;obtain rfl:r= .ok (bs,k):=(by rw[<-U.o,oN N];simp only[m9,gS,bH]);go_wp2_with fail;refine(Mi _ rb wb ws k y d V.o).V ?_;rintro e w3 ⟨rfl,f⟩;have M:=d.G f d.blocks.1 d.blocks.2;have o:=C.G f C.size;have L:=D.G f D.lt;have F:=J.G f J.lt;have s:w3.ownsRow (w.heap.size+2) 152 6 (.slice g l i) bs.length u:=eL f P;have X:=O.O (λb _ z=>f.block b z);clear d C D J P O Z f;have⟨T,a⟩:=L.I;have⟨a,c⟩:=F.I;go_wp2;have a:=o.sets (b:=w.heap.size) (aD _) [.slice g l i] 0;have c:=L.sets_all [.slice g l i] rfl;refine dJ (dW results70 _ _ rfl c underlying87 Tj) rfl ⟨⟨g,l,i,u,rfl,?_,?_⟩,?_,a⟩;.exact(d5.of (jz (lo:=w.heap.size) s (b:=w.heap.size) Te Te [.slice g l i] 0))
   .have c:=(eQ.O (w:=w3) (w':=w3.setCells w.heap.size 0 [.slice g l i]) (λb z _=>eI _ _ (by have:=z.1;omega) _ _) X);exact c.V (λb z _=>by have:=z.1;omega)
   .exact a.rd R R.blocks.1 R.blocks.2 M.lt
end
section
open Go.Maps Go.ChangeMaps Go.WideMaps Go.WideElems
section
variable (w:aw) {n b:Nat} {l:aA} {bs:aB} {a w':aw}
attribute [local go_sem] jk jm jn
theorem G6:Keyed prog 9:=string_keyed underlying9
theorem QH:Keyed prog 53:=int_keyed underlying53
theorem Fs:(zeroValue 162).run prog w= .ok (.agg #[]) w:=Tj
def qX (s:au):Lit:= .string s.data.toList
def qY (n:Nat):Lit:= .int .u64 n
def eW (w:aw)(b:Nat)(l:aA):Prop:=w.ownsMap prog 9 (unitElem (H:=Unit)) b l.length (setOf (.agg []) (l.map qX))
def ii (w:aw)(b:Nat)(l:aB):Prop:=w.ownsMap prog 53 (unitElem (H:=Unit)) b l.length (setOf (.agg []) (l.map qY))
def eC (l:aA)(s:au):Bool:=l.any λx=>x.toList==s.toList
def yI (l:aB)(n:Nat):Bool:=l.any λx=>x==n
theorem G7 (s:au)(h:s.size<=maxLen):keyOf prog 9 (ae s)=some (qX s):=keyOf_string_mk underlying9 h
theorem QI (n:Nat)(h:n<2^64):keyOf prog 53 (.int .u64 n)=some (qY n):=keyOf_int_mk underlying53 (WalkArith.wf_u64 Te)
theorem QJ (l:aA)(s:au):Maps.has (setOf (H:=Unit) (.agg []) (l.map qX)) (qX s)=eC l s:=by
 rw[has_setOf _ _ _ (by intro x a;obtain⟨y,_,rfl⟩:=aV.1 a;exact trivial)];unfold eC;rw[List.any_map];congr 1;funext x;show(x.data.toList==s.data.toList)=_;rw[ByteArray.toList_eq,ByteArray.toList_eq]
theorem QK (l:aB)(n:Nat):Maps.has (setOf (H:=Unit) (.agg []) (l.map qY)) (qY n)=yI l n:=by
 rw[has_setOf _ _ _ (by intro x a;obtain⟨y,_,rfl⟩:=aV.1 a;exact trivial)];unfold yI;rw[List.any_map];congr 1;funext x;show decide (IntKind.u64=IntKind.u64/\(x:Int)=(n:Int))=_;rw[bV];simp;omega
structure dY (bs:aB)(w w':aw):Prop where
 os:w'.os=w.os
 tape:w'.tape=w.tape
 output:w'.output=w.output
 size:w.heap.size<=w'.heap.size
 block:∀k,k<w.heap.size->k∉bs->w'.heap[k]?=w.heap[k]?
theorem dY.refl (bs:aB)(w:aw):dY bs w w:=⟨rfl,rfl,rfl,aD _,λ_ _ _=>rfl⟩
theorem dY.J {b c:aw}(h:dY bs a b)(k:dY bs b c):dY bs a c:=
 ⟨k.os.J h.os,k.tape.J h.tape,k.output.J h.output,aL h.size k.size,λi d e=>(k.block i (aI d h.size) e).J (h.block i d e)⟩
theorem dY.V {cs:aB}{b:aw}(h:dY bs a b)(f:∀x∈bs,x∈cs):dY cs a b:=
 ⟨h.os,h.tape,h.output,h.size,λi d e=>h.block i d (λc=>e (f i c))⟩
theorem dY.oB {b:aw}(h:Below a.heap.size a b):dY bs a b:=⟨h.os,h.tape,h.output,h.size,λi c _=>h.block i c⟩
theorem dY.of_grown {b:aw}{k:Nat}(h:a.grownBy b (some k)):dY [k] a b:=⟨h.os,h.tape,h.output,h.size,λi c d=>h.block i c (λe=>d (by simp at e;simp[e]))⟩
theorem dY.to_below {b:aw}(h:dY bs a b)(f:n<=a.heap.size)(c:∀x∈bs,n<=x):Below n a b:=
 ⟨h.os,h.tape,h.output,h.size,λi e=>h.block i (aI e f) (λd=>by have:=c i d;omega)⟩
theorem dY.alloc {b:aw}(h:dY bs a b)(o:Obj):dY bs a (b.alloc o):=h.J (dY.oB ((Below.refl _ _).alloc (aD _) o))
theorem dY.drew {b:aw}(h:dY bs a b):dY bs a b.drew:=h.J (dY.oB (Below.refl _ _).drew)
theorem kh {w:aw}{k:TypeId}{R:Value->Option (DataW Unit×List MemPlace)}{D:DataW Unit}(h:w.ownsMap prog k R b n D)(e:w'.heap[b]?=w.heap[b]?):w'.ownsMap prog k R b n D:=by
 obtain⟨a,clock,c,d⟩:=h;exact⟨a,clock,e.J c,d⟩
theorem eW.lt {w:aw}(h:eW w b l):b<w.heap.size:=World.ownsMap.lt h
theorem ii.lt {w:aw}{l:aB}(h:ii w b l):b<w.heap.size:=World.ownsMap.lt h
theorem eW.O {w:aw}(h:eW w b l)(a:w'.heap[b]?=w.heap[b]?):eW w' b l:=kh h a
theorem ii.O {w:aw}{l:aB}(h:ii w b l)(a:w'.heap[b]?=w.heap[b]?):ii w' b l:=kh h a
theorem Sa (b:Nat)(l:aA)(s:au)(h:eW w b l)(f:l.length<maxLen)(g:s.size<=maxLen):
  Calls prog 178 #[.map (some b),ae s] w λe w'=>e= .returned (.tuple #[])/\eW w' b (l++ [s])/\dY [b] w w':=by
 have a:w.ownsMap prog 9 (unitElem (H:=Unit)) b l.length (setOf (.agg []) (l.map qX)):=h;go_in
 go_wp2_with (at_mapUpdate;refine wpList_mapUpdate_own _ rfl _ _ _ 229 rfl 9 162 G6 underlying229 _ b _ _ rfl a f _ _ _ rfl rfl (G7 s g) _ [] unitElem_mk ?_;intro w1 d c)
 go_end0;refine⟨rfl,?_,dY.of_grown c⟩;unfold eW;rw[bM,List.map_singleton,setOf_snoc,bf];exact d
theorem Sv (b:Nat)(l:aB)(n:Nat)(h:ii w b l)(f:l.length<maxLen)(g:n<2^64):
  Calls prog 343 #[.map (some b),.int .u64 n] w λe w'=>e= .returned (.tuple #[])/\ii w' b (l++ [n])/\dY [b] w w':=by
 have a:w.ownsMap prog 53 (unitElem (H:=Unit)) b l.length (setOf (.agg []) (l.map qY)):=h;go_in
 go_wp2_with (at_mapUpdate;refine wpList_mapUpdate_own _ rfl _ _ _ 304 rfl 53 162 QH underlying304 _ b _ _ rfl a f _ _ _ rfl rfl (QI n g) _ [] unitElem_mk ?_;intro w1 d c)
 go_end0;refine⟨rfl,?_,dY.of_grown c⟩;unfold ii;rw[bM,List.map_singleton,setOf_snoc,bf];exact d
theorem Rj (b:Nat)(l:aA)(s:au)(h:eW w b l)(c:s.size<=maxLen):
  Calls prog 179 #[.map (some b),ae s] w λe w'=>e= .returned (.bool (eC l s))/\aj w w':=by
 have a:w.ownsMap prog 9 (unitElem (H:=Unit)) b l.length (setOf (.agg []) (l.map qX)):=h;rw[<-QJ];go_in
 go_wp2_with (at_lookup;refine wpList_lookup_own_unit _ rfl _ _ 229 rfl 9 162 G6 underlying229 (Fs _) b _ _ rfl a _ _ rfl (G7 s c) ?_)
 go_ret;exact⟨rfl,(Below.refl _ _).alloc (aD _) _⟩
theorem Sw (b:Nat)(l:aB)(n:Nat)(h:ii w b l)(c:n<2^64):
  Calls prog 342 #[.map (some b),.int .u64 n] w λe w'=>e= .returned (.bool (yI l n))/\aj w w':=by
 have a:w.ownsMap prog 53 (unitElem (H:=Unit)) b l.length (setOf (.agg []) (l.map qY)):=h;rw[<-QK];go_in
 go_wp2_with (at_lookup;refine wpList_lookup_own_unit _ rfl _ _ 304 rfl 53 162 QH underlying304 (Fs _) b _ _ rfl a _ _ rfl (QI n c) ?_)
 go_ret;exact⟨rfl,(Below.refl _ _).alloc (aD _) _⟩
theorem rM (k:Int)(s:au)(p:Nat):
  Calls prog 123 #[.bool false,.agg #[aa k,ae s,aa p]] w λe w'=>e= .returned (.tuple #[])/\aj w w':=by
 go_in
 go_wp2;go_end0;exact⟨rfl,(Below.refl _ _).alloc (aD _) _⟩
theorem ki (k:Int)(s:au)(p:Nat):
  Calls prog 123 #[.bool true,.agg #[aa k,ae s,aa p]] w λe w'=>e=dX 3 p/\aj w w':=by
 go_in
 go_wp2_with fail;refine(IM _ _ _).V ?_;rintro e w2 ⟨rfl,rfl⟩;go_wp2;exact⟨rfl,rfl,(Below.refl _ _).alloc (aD _) _⟩
end
end
section
open Go.Maps
attribute [local go_sem] jk jm jn
open Tq
def gE (l:aA)(s:au):Bool:=decide (20<s.size)||eC l s
def qy (w:aw)(c1 c2:aq)(T1 T2:TypeId):aj w ((w.alloc (Obj.cells c1 T1)).alloc (Obj.cells c2 T2))/\dP ((w.alloc (Obj.cells c1 T1)).alloc (Obj.cells c2 T2)) w.heap.size c1 T1/\dP ((w.alloc (Obj.cells c1 T1)).alloc (Obj.cells c2 T2)) (w.heap.size+1) c2 T2:=
 ⟨(Tc w _).alloc Tf _,(dP.new w c1 T1).alloc _,by simpa using dP.new (w.alloc (Obj.cells c1 T1)) c2 T2⟩
def IN (w:aw)(b:Nat)(k:Int)(s:au)(p:Nat)(h:20<s.size):
  Calls prog 121 #[.agg #[aa k,ae s,aa p],.map (some b)] w λe w'=>e=dX 3 p/\aj w w':=by
 have⟨a,f⟩:=eY w #[aa k,ae s,aa p] 148;have g:(20:Int)<(s.size:Int):=Te;go_in
 go_wp2;refine wp_region_held_drew (S:=λw'=>w'.cell? (ai w.heap.size 0)=some (aa k)/\w'.cell? (ai w.heap.size 1)=some (ae s)/\w'.cell? (ai w.heap.size 2)=some (aa p)) Tj ⟨Tf,Tf,Tf⟩ (λhHeld=> ?_);refine S2 0 (.pointer (some (ai w.heap.size 1))) hHeld ?_;simp only[Act.put,S7];refine S2 1 (ae s) hHeld ?_;simp only[Act.put,S7];refine S2 2 (aa s.size) hHeld ?_;simp only[Act.put,S7];refine S2 3 (.bool true) hHeld ?_;simp only[Act.put,S7];refine S2 4 (.bool true) hHeld ?_;simp only[Act.put,S7];refine S4 5 undef hHeld ?_;simp only[Act.put,S7];refine S4 6 undef hHeld ?_;simp only[Act.put,S7];refine S4 7 undef hHeld ?_;simp only[Act.put,S7];refine S4 8 undef hHeld ?_;simp only[Act.put,S7];refine S2 9 (.bool true) hHeld ?_;simp only[Act.put,S7];refine S2 10 (.agg #[aa k,ae s,aa p]) hHeld ?_;simp only[Act.put,S7];refine wpAnyH_ready (rs:= [11]) Tj Tf (AllReadyH.cons rfl (λK c=> ?_) AllReadyH.nil);clear c;go_simp;refine(ki _ k s p).V ?_;rintro e i ⟨rfl,d⟩;exact⟨rfl,rfl,a.drew.J (d.V Tf)⟩
def Mx (w:aw)(b:Nat)(l:aA)(k:Int)(s:au)(p:Nat)(H:eW w b l)(r:s.size<=20)(hm:eC l s=true):
  Calls prog 121 #[.agg #[aa k,ae s,aa p],.map (some b)] w λe w'=>e=dX 3 p/\aj w w':=by
 have f:=(Tb w).alloc (aD _) (ak #[aa k,ae s,aa p] 148);have g:eW (w.S6 #[aa k,ae s,aa p] 148).drew b l:=H.O (Below.l _ _ _ H.lt);have d:¬(20:Int)<(s.size:Int):=Te;have q:decide ((20:Int)<(s.size:Int))=false:=by simpa using d
 have o:s.size<=maxLen:=Tl;clear d;go_in
 go_wp2;refine wp_region_held_drew (S:=λw'=>w'.cell? (ai w.heap.size 0)=some (aa k)/\w'.cell? (ai w.heap.size 1)=some (ae s)/\w'.cell? (ai w.heap.size 2)=some (aa p)) Tj ⟨Tf,Tf,Tf⟩ (λhHeld=> ?_);refine S2 0 (.pointer (some (ai w.heap.size 1))) hHeld ?_;simp only[Act.put,S7];refine S2 1 (ae s) hHeld ?_;simp only[Act.put,S7];refine S2 2 (aa s.size) hHeld ?_;simp only[Act.put,S7];refine S2 3 (.bool false) hHeld ?_;simp only[Act.put,S7];refine S2 4 (.bool false) hHeld ?_;simp only[Act.put,S7];refine S2 5 (.map (some b)) hHeld ?_;simp only[Act.put,S7];refine S2 6 (.pointer (some (ai w.heap.size 1))) hHeld ?_;simp only[Act.put,S7];refine S2 7 (ae s) hHeld ?_;simp only[Act.put,S7];refine S2 10 (.agg #[aa k,ae s,aa p]) hHeld ?_;simp only[Act.put,S7];refine wpAnyH_ready (rs:= [8]) Tj Tf (AllReadyH.cons rfl (λK c=> ?_) AllReadyH.nil);go_simp;refine(Rj _ b l s g o).V ?_;rw[hm];rintro e w3 ⟨rfl,a⟩;have h:w3.cell? (ai w.heap.size 0)=some (aa k)/\w3.cell? (ai w.heap.size 1)=some (ae s)/\w3.cell? (ai w.heap.size 2)=some (aa p):=(by obtain⟨i,j,m⟩:=hHeld;exact⟨(a.cell (p:=(ai w.heap.size 0)) Tf).J i,(a.cell (p:=(ai w.heap.size 1)) Tf).J j,(a.cell (p:=(ai w.heap.size 2)) Tf).J m⟩);clear hHeld;refine c.out _ _ h (λhHeld=> ?_);clear c K;refine S2 9 (.bool true) hHeld ?_;simp only[Act.put,S7];refine wpAnyH_ready (rs:= [11]) Tj Tf (AllReadyH.cons rfl (λK c=> ?_) AllReadyH.nil);clear c;go_simp;refine(ki _ k s p).V ?_;rintro e t ⟨rfl,n⟩;exact⟨rfl,rfl,(f.drew.J (a.V Tf)).J (n.V (by have:=a.size;simp at this;omega))⟩
def OV (w:aw)(b:Nat)(l:aA)(k:Int)(s:au)(p:Nat)(H:eW w b l)(x:l.length<5000)(v:s.size<=20)(hm:eC l s=false):
  Calls prog 121 #[.agg #[aa k,ae s,aa p],.map (some b)] w λe w'=>e= .returned (.tuple #[])/\eW w' b (l++ [s])/\dY [b] w w':=by
 have⟨j,q⟩:=eY w #[aa k,ae s,aa p] 148;have m:eW (w.S6 #[aa k,ae s,aa p] 148).drew b l:=H.O (Below.l _ _ _ H.lt);have r:=H.lt;have u:decide ((20:Int)<(s.size:Int))=false:=Tg;have h:s.size<=maxLen:=Tl;go_in
 go_wp2
 go_region_held3 (λw'=>w'.cell? (ai w.heap.size 0)=some (aa k)/\w'.cell? (ai w.heap.size 1)=some (ae s)/\w'.cell? (ai w.heap.size 2)=some (aa p))
  (first|exact⟨c.cell 0,c.cell 1,c.cell 2⟩|exact⟨a.cell 0,a.cell 1,a.cell 2⟩|go_keep)
  (first|(go_at_call 179;refine(Rj _ b l s m h).V ?_;rw[hm];rintro e w3 ⟨rfl,d⟩;have a:=q.drew.G d Tf)|(go_at_call 123;refine(rM _ k s p).V ?_;rintro e i ⟨rfl,g⟩;have c:=a.G g a.lt))
 have f:aj w i:=(j.drew.J (d.V Tf)).J (g.V (by have:=d.size;simp at this;omega));have n:eW i b l:=H.O (f.block b r);have⟨y,z⟩:=c.I;go_wp2_with fail;refine(Sa _ b l s n Tl h).V ?_;rintro e A ⟨rfl,o,t⟩;go_wp2;go_end0;exact⟨rfl,o,(dY.oB f).J t⟩
def Rk (w:aw)(b:Nat)(l:aA)(k:Int)(s:au)(p:Nat)(H:eW w b l)(a:l.length<5000):
  S9 121 #[.agg #[aa k,ae s,aa p],.map (some b)] w λe w'=>
   if gE l s then e=dX 3 p/\aj w w' else e= .returned (.tuple #[])/\eW w' b (l++ [s])/\dY [b] w w':=by
 unfold gE;by_cases hl:20<s.size;.simp only[hl,decide_true,cF,if_true];exact IN w b k s p hl
 .cases hm:eC l s;.simp only[hl,decide_false,cC,aN,if_false];exact OV w b l k s p H a Te hm
  .simp only[hl,decide_false,cC,if_true];exact Mx w b l k s p H Te hm
end
section
open Go.Maps
attribute [local go_sem] jk jm jn
def GOK (w:aw):Prop:=∃ev,w.cell? (ai 5 0)=some ev/\(ev= .nilIface\/∃te pe,ev= .iface te pe)
def GOK.O {w w':aw}(h:GOK w)(e:w'.heap[5]?=w.heap[5]?):GOK w':=by
 obtain⟨b,c,d⟩:=h;exact⟨b,(bz (a:=(ai 5 0)) e).J c,d⟩
def GOK.lt {w:aw}(h:GOK w):5<w.heap.size:=by
 obtain⟨b,a,c⟩:=h;exact aZ _ _ a
def gV (s:au):Nat:=
 match Lib.parseUintB 64 s.data.toList with
 | .ok u=>u
 |_=>18446744073709551615
def jL (s:au):Prop:=s.size<=2000/\((∃u,Lib.parseUintB 64 s.data.toList= .ok u)\/Lib.parseUintB 64 s.data.toList= .range)
def My (s:au):gV s<2^64:=by
 unfold gV;split;.rename_i u h;have:=Lib.parseUintB_le h;omega
 .omega
def Sy (s:au)(w:aw)(h:jL s)(g:GOK w):
  S9 244 #[ae s,aa 10,aa 64] w λe w'=>∃v,e= .returned (.tuple #[.int .u64 (gV s),v])/\aj w w':=by
 obtain⟨b,c,d⟩:=g;unfold gV;rcases h.2 with⟨u,a⟩|a
 .rw[a];refine(Any.strconv_ParseUint_10_at64_ok Tryz.laysPu14 s (by have:=h.1;omega) u a w).V ?_;rintro e w' ⟨rfl,i⟩;refine⟨_,rfl,?_⟩;rcases i with rfl|rfl;.exact Below.refl _ _
  .exact Lib.bytesWorld_below _ _ _
 .rw[a];refine(Any.strconv_ParseUint_10_at64_range Tryz.laysPu14 s (by have:=h.1;omega) a b w c d).V ?_;rintro e w' ⟨N,rfl,-,-,f⟩;exact⟨_,rfl,f⟩
def Sz (s:au)(w:aw)(h:s.size<=2000):
  Calls prog 108 #[ae s] w λe w'=>e= .returned (ae s)/\aj w w':=by
 go_in
 go_wp2_with fail;refine(AnyPu.stringslite_Clone Tryz.laysPu25 s _ Te).V ?_;rintro e w1 ⟨rfl,a⟩;go_wp2;go_ret;exact⟨rfl,a⟩
def Rl (w:aw)(k:Int)(s:au)(p:Nat)(h:jL s)(a:GOK w):
  Calls prog 165 #[.agg #[aa k,ae s,aa p]] w λe w'=>e= .returned (.int .u64 (gV s))/\aj w w':=by
 have b:=(Tb w).alloc (aD _) (ak #[aa k,ae s,aa p] 148);go_in
 go_wp2_with fail;refine(Sy s _ h (a.O (Below.l _ _ _ a.lt))).V ?_;rintro e w1 ⟨v,rfl,c⟩;go_wp2;go_ret;exact⟨rfl,b.J (c.V Tf)⟩
end
end Go.Proofs.YtfebdimolnobaaaGreatDoor
