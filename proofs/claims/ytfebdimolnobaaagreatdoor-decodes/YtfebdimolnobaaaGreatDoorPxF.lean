import Derived.Test.YtfebdimolnobaaaGreatDoorWkK
import Derived.Test.YtfebdimolnobaaaGreatDoorItE
set_option maxRecDepth 100000
set_option maxHeartbeats 8000000
set_option linter.all false
namespace Go.Proofs.YtfebdimolnobaaaGreatDoor
open Go.RowKit Go.Proofs.Tryz
def AZ {s t:au}(b:fR t 0≠46):gP (rh s) t=false:=by
 cases h:gP (rh s) t with
 |false=>rfl
 |true=>
  have a:=zE s;rw[ja (iu.1 h)]at a;unfold iL at a;simp_all
def zW {p:ft}(i:tL p){f:ek}(c:f∈p.fields):
  (f.form=0\/f.form=1\/f.form=2\/f.form=3\/f.form=4)/\(iD p.oneof f).isMap=decide (f.form=4)/\(iD p.oneof f).isRep=decide (f.form=2)/\gP (iD p.oneof f).how eS=decide (f.form=0)/\(f.form≠3->pQ p f= []):=by
 rcases i.2 with⟨o,a,_,b⟩|⟨a,g,h,b⟩
 .have e:=b f c;have d:(iD p.oneof f).how=rh o.1:=by show lp p.oneof f.form=_;rw[a];rfl
  unfold fB.isMap fB.isRep;rw[d,e,AZ Ti,AZ Ti,AZ Ti];simp
 .rw[h]at c;obtain rfl:=bn.1 c;have d:(iD p.oneof f).how=lp none f.form:=by show lp p.oneof f.form=_;rw[a]
  have j:pQ p f= []:=by unfold pQ;simp_all
  unfold fB.isMap fB.isRep;rw[d,j];rcases b with e|e|e|e<;>rw[e]
  .exact⟨.inl rfl,Ti,Ti,Ti,λ_=>rfl⟩
  .exact⟨.inr (.inl rfl),Ti,Ti,Ti,λ_=>rfl⟩
  .exact⟨.inr (.inr (.inl rfl)),Ti,Ti,Ti,λ_=>rfl⟩
  .exact⟨.inr (.inr (.inr (.inr rfl))),Ti,Ti,Ti,λ_=>rfl⟩
def xG {b:dS}:∀{ps:List ft},∀p∈ps,p.fields.length<=lk ps
 | [],p,h=>by cases h
 |q::ps,p,h=>by
  rw[lk];rcases aR.1 h with rfl|h;.omega
  .have:=xG (b:=b) p h;omega
def CS {bs:List dS}(h:mJ bs){b:dS}(g:b∈bs)(k:b.enum=false){p:ft}(j:p∈b.parts){f:ek}(i:f∈p.fields)(a:f.form=4):dN (jp f.key)=3/\fL 3 (jp f.key)=true:=by
 have c:=(h.ok.chk b g k).flds p j f i;have s:=(h.ok.shape b g p j).1 f i;have d:=c.key a;have e:=c.kg a;have⟨x,l⟩:=cX.1 (s.key.1 a);rw[d]at e;rw[l]at d e⊢;exact⟨d,e⟩
def QT {bs:List dS}(h:mJ bs){b:dS}(a:b∈bs)(g:b.enum=false){p:ft}(e:p∈b.parts){f:ek}(d:f∈p.fields):dN f.type.1=3\/(dN f.type.1=1/\eC (eZ bs) f.type.1=true):=by
 have c:=(h.ok.chk b a g).flds p e f d;have s:=(h.ok.shape b a p e).1 f d;exact s.kind.imp id (λq=>⟨q,c.ty q⟩)
def JR {bs:List dS}(h:mJ bs){z:List (au×Nat)}(i:z.map (·.1)=dZ bs){b:dS}(a:b∈bs)(g:b.enum=false){p:ft}(c:p∈b.parts){f:ek}(e:f∈p.fields):
  FG (eM bs) (nM z) (oV b) (iD p.oneof f) (sF p f):=by
 have⟨f1,f2,f3,l,f5⟩:=zW (h.ok.shape b a p c) e;have j:=QT h a g c e;refine⟨rfl,f1,f2,f3,l,(O6 (h.ones b a g) (h.ok.shape b a) c e).sy,f5,?_,(vK h.ok i j).sy,zV h i j,λm=> ?_⟩;.show(pQ p f).length<=_;unfold pQ;rw[bm];have q:=bZ (λo=>decide (iY o≠iY f)) p.fields;have r:=xG (b:=b) p c;have s:=(h.ok.ok b a).parts;omega
 .have⟨d,u⟩:=CS h a g c e m;have k:=vK h.ok i (t:=jp f.key) (.inl d);have n:jd (nM z) (jp f.key)=rN (jp f.key):=by unfold jd;rw[dH d]
  show jd (nM z) (jp f.key)=(eM bs).base (jp f.key)/\(eM bs).base (jp f.key)<=14/\(eM bs).msg (jp f.key)=none/\tP ((eM bs).base (jp f.key))=eC jD (jp f.key);rw[k,n];exact⟨rfl,Gb d,xF h d,JQ d⟩
def Hs {gs:List GF}(a:(gs.map λg=>g.f.num).Nodup){g:GF}(b:g∈gs){n:Int}(c:g.f.num=n):iI gs n=some g:=by
 induction gs with
 |nil=>cases b
 |cons x l ih=>
  rw[cu,List.nodup_cons]at a;rw[iI];grind
def JS {gs:List GF}{n:Int}(h:∀g∈gs,g.f.num≠n):iI gs n=none:=by
 induction gs with
 |nil=>rfl
 |cons x l ih=>
  rw[iI,dG (h x co)];simp_all
def xH {n:Int}:∀{fs:List fB} {f:fB},ei fs n=some f->f∈fs/\f.num=n
 | [],f,h=>by cases h
 |x::l,f,h=>by
  rw[ei]at h;split at h;.simp_all
  .have⟨a,b⟩:=xH h;simp_all
def zX {n:Int}:∀{fs:List fB},ei fs n=none->∀f∈fs,f.num≠n
 | [],_,f,a=>by cases a
 |x::l,h,f,a=>by
  rw[ei]at h;split at h;.cases h
  .rename_i e;rcases aR.1 a with rfl|a;.exact e
   .exact zX h f a
def Gc {b:dS}{g:GF}:g∈uA b<->∃p∈b.parts,∃f∈p.fields,g=sF p f:=by
 unfold uA;grind
def EB {b:dS}{f:fB}:f∈(oV b).fs<->∃p∈b.parts,∃g∈p.fields,f=iD p.oneof g:=by
 show f∈(b.parts.flatMap λp=>p.fields.map (iD p.oneof))<->_;grind
def JT (b:dS):(uA b).map (λg=>g.f.num)=(b.parts.flatMap (λp=>p.fields.map (λf=>gV f.num.1))).map (λn:Nat=>(n:Int)):=by
 unfold uA;rw[List.map_flatMap,List.map_flatMap];congr 1;funext p;rw[bI,bI];rfl
def QU {bs:List dS}(h:mJ bs){z:List (au×Nat)}(v:z.map (·.1)=dZ bs){b:dS}(i:b∈bs)(q:b.enum=false){gs:List GF}(c:Rm b gs):rV (eM bs) (nM z) (oV b) gs:=by
 have o:(gs.map λg=>g.f.num).Nodup:=(by rw[(c.1.map _).nodup_iff,JT];exact List.Pairwise.map _ (λa b r e=>r Te) (h.ok.chk b i q).nums);refine⟨c.2,?_,λn k=>JS λg s e=> ?_,λn f j=> ?_⟩;.rw[c.1.length_eq];have t:=sI b.parts;have w:=(h.ok.ok b i).parts;have x:(uA b).length<=lk b.parts:=t;omega
 .obtain⟨p,d,f,j,rfl⟩:=Gc.1 (c.1.mem_iff.1 s);exact zX k (iD p.oneof f) (EB.2 ⟨p,d,f,j,rfl⟩) e
 .have⟨u,k⟩:=xH j;obtain⟨p,d,m,l,rfl⟩:=EB.1 u;exact⟨sF p m,Hs o (c.1.mem_iff.2 (Gc.2 ⟨p,d,m,l,rfl⟩)) k,JR h v i q d l⟩
section
open Go.Maps
open Tq
def lH (w:aw)(R:Fx PM)(e:Ending)(w':aw):Prop:=
 match R with
 | .error x=>e=dX x.1 x.2/\aj w w'
 | .ok m=>∃v Z',e= .returned (.agg #[v,ae m.unk])/\lR 9 w' v m Z'/\(∀b,Z' b->w.heap.size<=b/\b<w'.heap.size)/\aj w w'
def ez.belowW {w w':aw}{Z Z':ax}{rb:Nat}(h:ez w Z rb w' Z'){n:Nat}(c:n<=w.heap.size)(a:∀x,Z x->n<=x)(d:n<=rb):Below n w w':=
 ⟨h.os,h.tape,h.output,h.size,λi b=>h.block i (aI b c) (λq=>by have:=a i q;omega) Te⟩
def EO (S:eE)(mp:am)(B:Nat)(b:au)(X:D9 S)(k:b.size<=268435456)(w:aw)(d:MT)(mb:Nat)(gs:List GF)(nm:au)(K:Oz w B S mp)(W:jX w (λb=>b<B) mp mb nm gs)
  (U:rV S mp d gs) (r:kM S d):
  Calls prog 47 #[ag mb,ae b] w (lH w (fj S b (b.size+1) d PM.none 0 b.size 1)):=by
 have m:b.extract 0 b.size=b:=Tf;have T:=K.le;have u:aj w (w.S6 #[ah,S8] 49):=(Below.refl _ _).alloc (aD _) _;have y:=u.alloc Tf (ak #[ah,ah] 183);have c:=y.alloc Tg (ak #[ae b,aa 0,aa 1] 244);have P:=((dP.new w #[ah,S8] 49).alloc (ak #[ah,ah] 183)).alloc (ak #[ae b,aa 0,aa 1] 244);have O:=(dP.newAt (w:=w.alloc (ak #[ah,S8] 49)) (n:=w.heap.size+1) Tf #[ah,ah] 183).alloc (ak #[ae b,aa 0,aa 1] 244);have Q:=dP.newAt (w:=(w.alloc (ak #[ah,S8] 49)).alloc (ak #[ah,ah] 183)) (n:=w.heap.size+1+1) Tf #[ae b,aa 0,aa 1] 244;have g:=Ow ((w.S6 #[ah,S8] 49).S6 #[ah,ah] 183) b;simp only[ca]at g;go_in
 go_wp2_with fail;refine g.V ?_;rintro e w' ⟨rfl,rfl⟩;have Z:w.heap.size+3=(((w.alloc (ak #[ah,S8] 49)).alloc (ak #[ah,ah] 183)).alloc (ak #[ae b,aa 0,aa 1] 244)).heap.size:=Tf;clear g u y;go_wp2_with fail;generalize(((w.alloc (ak #[ah,S8] 49)).alloc (ak #[ah,ah] 183)).alloc (ak #[ae b,aa 0,aa 1] 244))=w3 at*;have z:Below B w w3:=⟨c.os,c.tape,c.output,c.size,λi Y=>c.block i (aI Y T)⟩
 have C:=yY S mp B b X k (b.size+1) w3 (λx=>x=w.heap.size+1) d PM.none 0 b.size 1 7 mb gs nm (w.heap.size+1+1) (w.heap.size+1) (K.on z) (W.O (λx q _=>z.block x q)) U r (by rw[m];exact Q) (el.fresh O)
  (λx a=>by subst a;omega) Te Te (aM _) (aD _) Te rfl (WM.none _ _ _)
 refine C.V ?_;intro e s M;rcases M.part with⟨x,J,rfl,I,f⟩|⟨o,J,rfl,I,f,l⟩;.unfold dX;go_wp2;exact⟨rfl,rfl,c.J (f.belowW Te (λx a=>Te) Te)⟩
 .have N:aj w s:=c.J (f.belowW Te (λx a=>Te) Te);have D:dP s w.heap.size #[ah,S8] 49:=(f.block w.heap.size Te Te Te).J P;have c:=f.size;have V:=f.grow;clear C M f;go_wp2_with fail;refine(xO (S:=S) 8 (some d) s I (w.heap.size+1) o l).V ?_;rintro e t ⟨v,j,rfl,L,G,H⟩;obtain⟨c,e,rfl⟩:=L.form;have E:=D.G H D.lt;have⟨f,g⟩:=E.I
  have A:∀x,j x->w.heap.size<x:=λx a=>by
   rcases(G x a).2 with h|h
   .rcases V x h with h|h;.omega
    .omega
   .omega
  go_wp2
  have R:∀x,j x->x<t.heap.size->((t.setCell (ai w.heap.size 0) (.slice c o.fs.length e)).setCell (ai w.heap.size 1) (ae o.unk)).heap[x]?=t.heap[x]?:=λx a _=>by
   have F:w.heap.size≠x:=by have:=A x a;omega
   rw[dM,dG F,dM,dG F]
  rw[J];refine dJ (dW results47 _ _ rfl ((E.set 0 _).set 1 _) underlying49 Tj) rfl ⟨_,j,rfl,L.O R,λx a=>⟨cK (A x a),by simp only[cH];exact(G x a).1⟩,?_⟩;exact((dL N H).setCell (p:=(ai w.heap.size 0)) (aD _) _).setCell (p:=(ai w.heap.size 1)) (aD _) _
def qi:∀{l:List MT} {s:au} {d:MT},jG l s=some d->d.name=s
 | [],_,_,h=>by cases h
 |m::l,s,d,h=>by
  rw[jG]at h;split at h;.rename_i q;cases h;exact ja (iu.1 q)
  .exact qi h
def dY.freshP {bs:aB}{a b:aw}(h:dY bs a b){c:Nat}(f:a.heap.size<=c)(off:Nat)(u:Value):dY bs a (b.setCell (ai c off) u):=
 ⟨h.os,h.tape,h.output,by simpa using h.size,λi d e=>by rw[eO Te];exact h.block i d e⟩
def Qk (kp mk:Nat)(U:aB)(X:ax)(b:Nat):Prop:=b≠mk/\b≠kp/\b∉U/\X b
def nU (S:eE)(pm:am):Nat:=(S.ms.filter λd=>(pm d.name).isNone).length
def o0 {α:Type}{p q:α->Bool}(h:∀x,p x=true->q x=true):∀l:List α,(l.filter p).length<=(l.filter q).length
 | []=>aD _
 |x::l=>by
  have ih:=o0 h l;rw[cq,cq]
  cases hp:p x with
  |true=>rw[h x hp];simpa using ih
  |false=>
   cases q x with
   |true=>simp;omega
   |false=>simpa using ih
def tj {α:Type}{p q:α->Bool}(h:∀x,p x=true->q x=true){y:α}(a:p y=false)(b:q y=true):∀l:List α,y∈l->(l.filter p).length<(l.filter q).length
 |x::l,c=>by
  rw[cq,cq];rcases aR.1 c with rfl|c;.rw[a,b];have:=o0 h l;simp;omega
  .have ih:=tj h a b l c
   cases hp:p x with
   |true=>rw[h x hp];simpa using ih
   |false=>
    cases q x with
    |true=>simp;omega
    |false=>simpa using ih
def H6 {S:eE}{pm Tr:am}(h:∀t p,pm t=some p->Tr t=some p):nU S Tr<=nU S pm:=by
 refine o0 (λd a=> ?_) S.ms
 cases hq:pm d.name with
 |none=>rfl
 |some p=>rw[h _ _ hq]at a;cases a
def Ae {S:eE}{pm Tr:am}(h:∀t p,pm t=some p->Tr t=some p){d:MT}(a:d∈S.ms)(b:pm d.name=none){p:Nat}(h1:Tr d.name=some p):nU S Tr<nU S pm:=by
 refine tj (λd a=> ?_) (y:=d) (by rw[h1];rfl) (by rw[b];rfl) S.ms a
 cases hq:pm d.name with
 |none=>rfl
 |some p=>rw[h _ _ hq]at a;cases a
structure uO (kp mk:Nat)(mu:Int)(S:eE)(mp:am)(w:aw)(N:Nat)(pm:am)(U:aB)(X:ax):Prop where
 kb:dP w kp #[.int .i32 mu,.int .u32 0,.map (some mk)] 170
 mb:gk w mk N pm
 ne:mk≠kp
 ct:N+nU S pm<=4000
 inj:∀t t' p,pm t=some p->pm t'=some p->t=t'
 pl:∀t p,pm t=some p->(p∈U/\dP w p #[ah] 254/\∃d,S.msg t=some d)\/∃d gs,S.msg t=some d/\rV S mp d gs/\mN w (Qk kp mk U X) mp pm gs p
structure La (w:aw)(P:ax)(S:eE)(mp:am):Prop where
 md:∀t d,S.msg t=some d->∃mb gs,yJ mp t=some mb/\jX w P mp mb d.name gs/\rV S mp d gs/\d.name.size<=2000
 ty:∀t,jd mp t=16->∃d,S.msg t=some d
def La.O {w w':aw}{P:ax}{S:eE}{mp:am}(h:La w P S mp)(i:∀b,P b->b<w.heap.size->w'.heap[b]?=w.heap[b]?):La w' P S mp:=
 ⟨λt d q=>by
  have⟨j,a,c,e,f,g⟩:=h.md t d q
  exact⟨j,a,c,e.O i,f,g⟩,h.ty⟩
structure Cb (kp mk W0:Nat)(mu:Int)(S:eE)(mp:am)(P:ax)(w:aw)(N:Nat)(pm:am)(U:aB)(X:ax):Prop where
 ok:uO kp mk mu S mp w N pm U X
 md:La w P S mp
 w0:W0<=w.heap.size
 uu:∀u∈U,W0<=u/\u<w.heap.size
 xx:∀b,P b->X b
 xn:∀b,w.heap.size<=b->X b
 hp:∀b,P b->b<W0/\b≠mk/\b≠kp
 kl:kp<W0
 ml:mk<W0
def Pq (kp mk:Nat)(mu:Int)(S:eE)(mp:am)(w:aw)(pm:am)(U:aB)(X:ax)(A:aw->(am)->Value->Prop)(e:Ending)(w':aw):Prop:=
 ∃v N' Tr,e= .returned v/\A w' Tr v/\uO kp mk mu S mp w' N' Tr U X/\(∀t p,pm t=some p->Tr t=some p)/\dY [mk] w w'
section
variable {kp mk W0:Nat} {mu:Int} {S:eE} {mp:am} {P:ax} {w w':aw} {N N':Nat} {pm Tr:am} {U:aB} {X:ax}
def Cb.pq (h:Cb kp mk W0 mu S mp P w N pm U X){b:Nat}(a:P b):Qk kp mk U X b:=by
 have⟨e,c,d⟩:=h.hp b a;exact⟨c,d,λq=>by have:=(h.uu b q).1;omega,h.xx b a⟩
def Cb.nq (h:Cb kp mk W0 mu S mp P w N pm U X){b:Nat}(a:w.heap.size<=b):Qk kp mk U X b:=by
 have:=h.w0;have:=h.kl;have:=h.ml;exact⟨Te,Te,λq=>by have:=(h.uu b q).2;omega,h.xn b a⟩
def Cb.on (h:Cb kp mk W0 mu S mp P w N pm U X)(hk:uO kp mk mu S mp w' N' Tr U X)(hw:dY [mk] w w'):Cb kp mk W0 mu S mp P w' N' Tr U X:=
 ⟨hk,h.md.O λb a d=>hw.block b d (by simp;exact(h.hp b a).2.1),aL h.w0 hw.size,λu c=>⟨(h.uu u c).1,aI (h.uu u c).2 hw.size⟩,h.xx,λb a=>h.xn b (aL hw.size a),h.hp,h.kl,h.ml⟩
def uO.O (h:uO kp mk mu S mp w N pm U X)(hk:∀b,b<w.heap.size->w'.heap[b]?=w.heap[b]?):uO kp mk mu S mp w' N pm U X:=
 ⟨(hk _ h.kb.lt).J h.kb,h.mb.O (hk _ h.mb.lt),h.ne,h.ct,h.inj,λt p i=>by
  rcases h.pl t p i with⟨c,a,e⟩|⟨d,f,c,a,e⟩;.exact .inl ⟨c,(hk _ a.lt).J a,e⟩
  .exact .inr ⟨d,f,c,a,e.O (λb _ g=>hk b g) (λ_ _ q=>q)⟩⟩
def uO.lt (h:uO kp mk mu S mp w N pm U X){t:au}{p:Nat}(c:pm t=some p):p<w.heap.size:=by
 rcases h.pl t p c with⟨_,a,_⟩|⟨d,e,_,_,v,l,b,_⟩;.exact a.lt
 .exact b.lt
def Cb.O (h:Cb kp mk W0 mu S mp P w N pm U X)(hb:aj w w'):Cb kp mk W0 mu S mp P w' N pm U X:=h.on (h.ok.O λb a=>hb.block b a) (.oB hb)
def uO.begin {w2:aw}{d:MT}(h:uO kp mk mu S mp w N pm U X)(u:S.msg d.name=some d)(s:pm d.name=none)(v:((w.alloc (.cells #[ah] 254))).grownBy w2 (some mk))(hm:gk w2 mk (N+1) (iZ pm d.name w.heap.size)):
  uO kp mk mu S mp w2 (N+1) (iZ pm d.name w.heap.size) (w.heap.size::U) X:=by
 have r:∀t p,pm t=some p->iZ pm d.name w.heap.size t=some p:=λt p a=>by
  unfold iZ;split;.rename_i q;rw[show t=d.name from ja (iu.1 q),s]at a;cases a
  .exact a
 have C:iZ pm d.name w.heap.size d.name=some w.heap.size:=(by unfold iZ;rw[dH (iu.2 rfl)])
 have j:∀t p,iZ pm d.name w.heap.size t=some p->(t=d.name/\p=w.heap.size)\/pm t=some p:=λt p a=>by
  unfold iZ at a;split at a;.rename_i q;cases a;exact .inl ⟨ja (iu.1 q),rfl⟩
  .exact .inr a
 have l:∀b,b≠mk->b<w.heap.size->w2.heap[b]?=w.heap[b]?:=λb f m=>(v.block b Tg (λe=>f (Option.some.inj e))).J (Below.l _ _ b m)
 have x:dP w2 w.heap.size #[ah] 254:=(dP.new w _ _).grown v (λe=>by have:=h.mb.lt;have:=Option.some.inj e;omega);have F:=Ae r (jV u) s C;refine⟨(l _ (λe=>h.ne e.sy) h.kb.lt).J h.kb,hm,h.ne,by have:=h.ct;omega,λt o p i c=> ?_,λt p a=> ?_⟩
 .rcases j t p i with⟨k,G⟩|k
  .rcases j o p c with⟨g,_⟩|g;.rw[k,g]
   .have:=h.lt g;omega
  .rcases j o p c with⟨g,H⟩|g;.have:=h.lt k;omega
   .exact h.inj t o p k g
 .rcases j t p a with⟨rfl,rfl⟩|z;.exact .inl ⟨Tf,x,d,u⟩
  .rcases h.pl t p z with⟨i,c,n⟩|⟨A,B,i,c,n⟩;.refine .inl ⟨by simp[i],(l p (λe=> ?_) c.lt).J c,n⟩;subst e;have⟨D,E,_⟩:=h.mb;obtain⟨_,_,y,_⟩:=E;unfold dP at c;rw[y]at c;cases c
   .refine .inr ⟨A,B,i,c,n.mV (λb f m=>⟨⟨f.1,f.2.1,?_,f.2.2.2⟩,l b f.1 m⟩) r⟩;intro e;rcases aR.1 e with e|e;.omega
    .exact f.2.2.1 e
def uO.done {w3:aw}{p:Nat}{v:Value}{l:List tG}{d:MT}{gs:List GF}(h:uO kp mk mu S mp w3 N pm (p::U) X)(C:pm d.name=some p)(B:S.msg d.name=some d)(z:rV S mp d gs)(j:p∉U)(a:p≠mk/\p≠kp/\X p)(A:dP w3 p #[ah] 254)
  (x:d5 w3 (Qk kp mk (p::U) X) 268 8 v l.length (l.flatMap iT)) (D:ix w3 (Qk kp mk (p::U) X) mp (mg w3 (Qk kp mk (p::U) X) mp pm) gs l):uO kp mk mu S mp (w3.setCell (ai p 0) v) N pm U X:=by
 have f:∀b,b≠p->(w3.setCell (ai p 0) v).heap[b]?=w3.heap[b]?:=λb r=>eO (λe=>r e.sy)
 have c:Mv w3 (Qk kp mk (p::U) X) (w3.setCell (ai p 0) v) (Qk kp mk U X):=λb q _=>⟨⟨q.1,q.2.1,λe=>q.2.2.1 (by simp[e]),q.2.2.2⟩,f b (λe=>q.2.2.1 (by simp[e]))⟩
 refine⟨(f _ (λe=>a.2.1 e.sy)).J h.kb,h.mb.O (f _ (λe=>a.1 e.sy)),h.ne,h.ct,h.inj,λt q o=> ?_⟩;by_cases e:q=p;.subst e;obtain rfl:=h.inj _ _ _ o C;refine .inr ⟨d,gs,B,z,v,l,by simpa using A.set 0 v,⟨a.1,a.2.1,j,a.2.2⟩,x.mV c,D.mV c λg _ u E=>E.mV c (λ_ _ q=>q)⟩
 .rcases h.pl t q o with⟨k,m,n⟩|⟨y,s,k,m,n⟩
  .rcases aR.1 k with i|i;.exact absurd i e
   .exact .inl ⟨i,(f q e).J m,n⟩
  .exact .inr ⟨y,s,k,m,n.mV c (λ_ _ q=>q)⟩
end
section
variable (kp mk W0:Nat) (mu:Int) (S:eE) (mp:am) (P:ax)
def EV (n:Nat)(gs:List GF):Prop:=∀(w:aw) (N:Nat) (pm:am) (U:aB) (X:ax) (mb:Nat) (nm:au),Cb kp mk W0 mu S mp P w N pm U X->nU S pm<=n->jX w P mp mb nm gs->gs.length<=2001->
 S9 140 #[ag kp,ag mb] w (Pq kp mk mu S mp w pm U X λw' Tr v=>∃l,d5 w' (Qk kp mk U X) 268 8 v l.length (l.flatMap iT)/\ix w' (Qk kp mk U X) mp (mg w' (Qk kp mk U X) mp Tr) gs l)
def RL (n:Nat):Prop:=∀(w:aw) (N:Nat) (pm:am) (U:aB) (X:ax) (mb:Nat) (d:MT) (gs:List GF),Cb kp mk W0 mu S mp P w N pm U X->nU S pm<=n->S.msg d.name=some d->jX w P mp mb d.name gs->rV S mp d gs->d.name.size<=2000->
 S9 88 #[ag kp,ag mb] w (Pq kp mk mu S mp w pm U X λ_ Tr v=>∃p,v=ag p/\Tr d.name=some p)
def we (n:Nat)(g:GF):Prop:=∀(w:aw) (N:Nat) (pm:am) (U:aB) (X:ax) (fb:Nat),Cb kp mk W0 mu S mp P w N pm U X->nU S pm<=n->eR w P mp g fb->
 S9 207 #[ag kp,ag fb] w (Pq kp mk mu S mp w pm U X λw' Tr v=>qh w' (Qk kp mk U X) mp Tr g v)
def H7 (w:aw):(zeroValue 116).run prog w= .ok (.pointer none) w:=Tj
def gk.lookP {w:aw}{b n:Nat}{mp:am}(h:gk w b n mp)(s:au)(g:s.size<=maxLen):
  (Instr.lookup 161 (.map (some b)) (ae s) false).run prog w= .ok (gR (mp s)) w:=by
 obtain⟨D,d,f⟩:=h;have⟨v,ps,c,a⟩:=d.lookup G6 underlying161 (H7 w) (kS none) (G7 s g);have e:=f s;unfold oh at e;rw[e]at a;rw[c,pR a]
def RM (n:Nat)(H:∀m gs,m<n->EV kp mk W0 mu S mp P m gs):RL kp mk W0 mu S mp P n:=by
 intro w N pm U X mb d gs I hn B A T hsz;have⟨fv,fbs,h,hPb,O,TZ⟩:=id A;obtain⟨fa,fn,fc,rfl⟩:=dO O.1;have c:=λq=>gk.lookP (w:=w.drewN q) (I.ok.mb.O rfl) d.name Tl
 have⟨V,W⟩:=I.ok.kb.I;have⟨Y,Z⟩:=h.I
 cases hpm:pm d.name with
 |some p=>
  rw[hpm]at c;unfold gR at c;have hl0:=c 0;go_enter func88,ntmps88;go_upto_region 1 with fail
  go_quiet (fail);go_wp2;go_ret
  exact⟨_,N,pm,rfl,⟨p,rfl,hpm⟩,I.ok.O (λ_ _=>rfl),λ_ _ q=>q,(dY.refl _ _).drewN _⟩
 |none=>
  rw[hpm]at c;unfold gR at c;go_enter func88,ntmps88;go_upto_region 1 with fail
  go_quiet (fail);have k:aj w (w.drewN nq):=gN (Below.refl _ _) nq;have a:=I.O k;have TP:=h.G k h.lt;have TQ:=A.O (w':=w.drewN nq) (λb _ c=>k.block b c);have kq:dY [mk] w (w.drewN nq):= .oB k;clear V W Y Z c h A O TZ I k;generalize w.drewN nq=w1 at*;have⟨D,x,K⟩:=a.ok.mb;have s:(w1.S6 #[ah] 254).drew.ownsMap prog 9 gG mk N D:=x.alloc _;have hct:=a.ok.ct;have⟨w2,TD,Q,f⟩:=s.update G6 underlying161 Tl (key:=ae d.name) (val:=ag w1.heap.size) (G7 d.name Tl) (kS (some w1.heap.size));have i:(w1.S6 #[ah] 254).grownBy w2 (some mk):=⟨f.os,f.tape,f.output,f.size,f.block⟩;have G:=gk.put (b:=w1.heap.size) s K Q;have F:=a.ok.begin B hpm i G;have g:dY [mk] w1 w2:=((dY.refl _ _).alloc _).J (dY.of_grown i);have TR:w1.heap.size<w2.heap.size:=by have:=i.size;simp at this;omega
  have I2:Cb kp mk W0 mu S mp P w2 (N+1) (iZ pm d.name w1.heap.size) (w1.heap.size::U) X:=
   ⟨F,a.md.O λb o c=>g.block b c (by simp;exact(a.hp b o).2.1),aL a.w0 g.size,λu r=>by
    rcases aR.1 r with rfl|r;.exact⟨a.w0,TR⟩
    .exact⟨(a.uu u r).1,aI (a.uu u r).2 g.size⟩,a.xx,λb o=>a.xn b (aL g.size o),a.hp,a.kl,a.ml⟩
  have M:∀t p,pm t=some p->iZ pm d.name w1.heap.size t=some p:=λt p C=>by
   unfold iZ;split;.rename_i q;rw[show t=d.name from ja (iu.1 q),hpm]at C;cases C
   .exact C
  have z:iZ pm d.name w1.heap.size d.name=some w1.heap.size:=(by unfold iZ;rw[dH (iu.2 rfl)]);have TO:=Ae M (jV B) hpm z;obtain⟨E,rfl⟩:∃E,n=E+1:=⟨n-1,Te⟩;have TS:=H E gs Te w2 (N+1) _ _ X mb d.name I2 Te (TQ.O λb o c=>g.block b c (by simp;exact(a.hp b o).2.1)) T.len;have TT:dP w2 w1.heap.size #[ah] 254:=(dP.new w1 _ _).grown i (λe=>by have:=x.lt;have:=Option.some.inj e;omega);have j:=a.nq (aD _);have⟨V,W⟩:=(a.ok.kb.alloc (ak #[ah] 254)).I;have⟨Y,Z⟩:=(TP.alloc (ak #[ah] 254)).I
  have TU:Hid (∀(w3:aw) (N':Nat) (Tr:am) (v:Value) (l:List tG),uO kp mk mu S mp w3 N' Tr (w1.heap.size::U) X->Tr d.name=some w1.heap.size->dP w3 w1.heap.size #[ah] 254->d5 w3 (Qk kp mk (w1.heap.size::U) X) 268 8 v l.length (l.flatMap iT)->ix w3 (Qk kp mk (w1.heap.size::U) X) mp (mg w3 (Qk kp mk (w1.heap.size::U) X) mp Tr) gs l->uO kp mk mu S mp (w3.setCell (ai w1.heap.size 0) v) N' Tr U X):=
   λw3 N' Tr v l h h2 h3 h4 h5=>h.done h2 B T j.2.2.1 ⟨j.1,j.2.1,j.2.2.2⟩ h3 h4 h5
  have TV:w1.heap.size≠mk:=j.1;clear f s x K Q G i H;go_upto_region 5 with fail
  go_region
  all_goals
   go_wp2_with fail;refine TS.V ?_;rintro e w3 ⟨v,N',Tr,rfl,⟨l,R,TI⟩,T0,y,L⟩;have J:dP w3 w1.heap.size #[ah] 254:=TT.kept L (by simp;exact TV);obtain⟨va,vn,vc,rfl⟩:=dO R.1;have⟨k5,k6⟩:=J.I;go_wp2;go_ret;refine⟨_,N',Tr,rfl,⟨_,rfl,y _ _ z⟩,TU.o w3 N' Tr _ l T0 (y _ _ z) J R TI,λt p q=>y _ _ (M t p q),?_⟩;exact(kq.J (g.J L)).freshP kq.size 0 _
end
end
section
open Tq
def Lj {w:aw}{Q:ax}{mp pm:am}{k t:au}{p:Nat}(h:rE w Q mp (BZ w Q mp pm) [lF oe k 1,lF qZ t 2] p):mN w Q mp pm [lF oe k 1,lF qZ t 2] p:=
 rE.mV (.O λ_ _ _=>rfl) (λg a v b=>by
  simp only[aR,cp,or_false]at a;unfold mg;rcases a with rfl|rfl;.rw[dG (by simp[lF])];exact b
  .rw[dG (by simp[lF])];exact b) h
def Q5 (w:aw)(B:Nat)(S:eE)(mp pm:am)(k:Nat)(d:MT)(f:fB)(g:GF)(Z:ax)(rb db:Nat)(b:au)(e a z deep F:Nat)(kind:Int)(m:PM)(v:Value)
  (I:oZ w B S mp k d Z rb db b e a z deep m) (hpc:Bi w (λb=>b<B) S mp pm) (hv:OD w (λb=>b<B) mp (rE w (λb=>b<B) mp (BZ w (λb=>b<B) mp pm) [lF oe g.f.key 1,lF qZ g.f.ty 2]) g v) (P:FG S mp d f g) (H:ei d.fs f.num=some f) (X:D9 S) (h4:g.form=4) (hkd:k+deep=8) (hgd:kM S d) (hRd:KL S mp pm B b F) (hF:e-z<=F):
  lI v [aa kind,ag rb,ag db] w (ij S k d w Z rb db (b.extract 0 e) deep (xJ S b F (eX f) PM.none deep (yW f m) (nN (b.extract 0 e) z deep (kA mp g)))):=by
 obtain⟨ib,lb,ub,sb,T,rfl,h1,h2,h3,h5,Q,O,Y,q3,q4⟩:=hv;refine⟨418,[_,_,_,_],rfl,enters_of func418 Tj rfl,?_⟩;show S9 418 #[aa kind,ag rb,ag db,ag ib,ag lb,ag ub,ag sb] w _;have Q:=Lj Q;have hm:f.isMap=true:=by rw[P.map,h4];rfl
 have Tr:fS S f=some (eX f):=by unfold fS;rw[dH hm]
 have⟨TO,T6,T7,Uj⟩:=tg (deep:=deep) P X Tr Te;have⟨Uk,kq2,Ul,Um⟩:=P.key h4;have TS:pt S f= .ents f.key:=by unfold pt;rw[dH hm]
 have ok1:ot S (some d) f.num (.ents f.key):=λd' f' e1 e2=>by cases e1;rw[H]at e2;cases e2;exact TS.sy
 have ok2:∀kd,ot S (some d) f.num kd->kd= .ents f.key:=λkd q=>by rw[q d f rfl H,TS]
 rw[P.eq]at h3 h5 Q;rw[Uk,Um]at h5;have T8:(b.extract 0 e).size=e:=gB I.eb;have hab:=I.az;have hze:=I.ze;have T9:=I.eb;have Ua:=I.bs;have TT:=I.rB;have TU:=I.rZ;have G:=I.hZ;have TG:=I.cx.le;have Ub:rb<w.heap.size:=dP.lt I.hr;have TH:=λw1 (h:d6 w1 rb (b.extract 0 e) z deep)=>qD w1 rb (b.extract 0 e) z deep (kA mp g) h Te Te Te T6 T7
 obtain⟨u,Tt⟩:=Td (kA mp g);rw[Tt]at h2 TH⊢
 have TV:Hid (∀y:Nat×Nat,nN (b.extract 0 e) z deep u= .ok y->z<y.1/\y.1<=y.2/\y.2<=e/\1<=k/\(b.extract 0 e).extract 0 y.2=b.extract 0 y.2):=λy hy=>by
  have⟨O,Y⟩:=vZ hy;have⟨L,o,s⟩:=iS (z:=y.1) (e:=y.2) O;rw[T8]at s;have hlv:1<=u:=(by rw[<-Tt];unfold kA;rw[Uj];split<;>simp);exact⟨L,o,s,Te,kz T9 s⟩
 clear Tt T6 T7 TO;obtain⟨R,hR⟩:=Td (nN (b.extract 0 e) z deep u);rw[hR]at TH TV⊢;clear hR;have hlen:=I.wm.len
 have Uc:Hid (∀c,k=c+1->∀(t:aw) (C:ax) (y:Nat×Nat) (nb p:Nat),Below B w t->z<y.1->y.1<=y.2->y.2<=e->d6 t nb (b.extract 0 y.2) y.1 ((deep:Int)+1)->el S k (some (eX f)) t C p PM.none->(∀x,C x->B<=x/\x<t.heap.size)->B<=nb->¬C nb->
   S9 89 #[ag T,ag nb,ag p] t (ij S c (eX f) t C nb p (b.extract 0 y.2) (deep+1) (pu y.2 (fj S b F (eX f) PM.none y.1 y.2 (deep+1))))):=by
  rintro c rfl t C y nb p TP L o s Un Uo hC Up Uq;exact hRd t C (eX f) _ y.1 y.2 (deep+1) c T _ nb p (I.cx.on TP) (hpc.O (λx q _=>TP.block x q)) (Q.O (λx q _=>TP.block x q) (λ_ _ q=>q)) (Kc P h4) (X.good.sub Tr) (by rw[Int.natCast_succ];exact Un) Uo hC Up Uq o Te Te Te (WM.none _ _ _)
 have TI:Hid (∀c,k=c+1->∀(w6:aw) (K E:ax) (j:Nat) (y:Nat×Nat) (l:PM),z<y.1->y.1<=y.2->y.2<=e->fj S b F (eX f) PM.none y.1 y.2 (deep+1)= .ok l->el S (k+1) (some d) w6 K db m->el S k (some (eX f)) w6 E j l->(∀x,E x->¬K x)->(∀x,K x->x<w6.heap.size)->(∀x,E x->x<w6.heap.size)->
   S9 187 #[ag db,aa f.num,.bool (eC jD f.key),ag j] w6 λU w'=>U= .returned (.tuple #[])/\∃Z',et w6 (λb=>K b\/E b) w' Z'/\el S (k+1) (some d) w' Z' db (yW f m l)):=by
  rintro c rfl w6 K E j y l L o s Ur TN Us TQ Ut Uu;have TW:=jM X.good Ua F (eX f) PM.none y.1 y.2 (deep+1) l Ur (X.good.sub Tr) o Te (WM.none _ _ _);have TX:=vS (hgd f (gZ H).2 hm) TW;have hel:=TW.len.1;exact uI S c (some d) w6 K E db j m l f.num f.key _ TN Us.toKey Ul TQ Ut Uu ok1 ok2 rfl TX.ky (by have⟨r,hr⟩:=TX.key;show(fY l).get 1≠ [];have:(mV (fY l)).2.2.get 1=_:=hr;simp only[mV]at this;rw[this];simp) Te (by have:=hlen.2.2 f.num;omega) Te
 have hr0:=I.hr;have Ud:=I.hd;have⟨N,KE⟩:=eY w #[ah,ah] 183;have TY:w.heap.size<(w.alloc (ak #[ah,ah] 183)).heap.size:=KE.lt;have Ty:Hid (∀y:Nat×Nat,xJ S b F (eX f) PM.none deep (yW f m) (.ok y)=JY (yW f m) y.2 (fj S b F (eX f) PM.none y.1 y.2 (deep+1))):=λ_=>rfl
 clear I;go_enter func418,ntmps418;go_upto_region 1 with fail
 obtain⟨n,TR⟩:=Td (w.alloc (ak #[ah,ah] 183));rw[TR]at KE N TY;simp only[TR];clear TR;obtain⟨j,TB⟩:=Td w.heap.size;have b1:Below B w n.drew:=(N.V TG).drew;have TJ:d6 n.drew rb (b.extract 0 e) z deep:=dP.G hr0 N.drew Ub;have TK:el S (k+1) (some d) n.drew Z db m:=Ud.O (λx _ q=>N.block x q);have Tz:ez w Z rb n.drew Z:= .oB N.drew;have HC:Hid (∀W:aw,Below B w W->W.cell? (ai ib 0)=some (ag T)/\W.cell? (ai lb 0)=some (aa u)):=λW hW=>⟨(h1.G hW O).cell 0,(h2.G hW Y).cell 0⟩
 have TZ:dP n.drew w.heap.size #[ah,ah] 183:=KE;rw[TB]at TZ TY;simp only[TB]
 go_region_held2 (λW=>W.cell? (ai ib 0)=some (ag T)/\W.cell? (ai lb 0)=some (aa u))
  (first|exact HC.o _ b5|exact HC.o _ b3|exact HC.o _ b1)
  (first
   |(
     go_at_call 185;refine(TH n.drew TJ).V ?_;intro U w3 hq;rcases hq.part with⟨x,rfl,rfl,J⟩|⟨y,nb,rfl,rfl,J,Uv,Uw,TC,TD⟩;.unfold dX;go_wp2;exact⟨rfl,rfl,Z,Tz.J (.oK J)⟩
     have⟨L,o,s,v3,v4⟩:=TV.o y rfl;obtain⟨c,rfl⟩:∃c,k=c+1:=⟨k-1,Te⟩;have TL:=Tz.J (.oK J);have Ue:=ez.dr TK J TU;have hw3:n.heap.size<=w3.heap.size:=J.size;have hnb1:n.heap.size<=nb:=Uv;have hnl3:nb<w3.heap.size:=dP.lt TC;have Uf:¬Z nb:=λq=>by have:=(G nb q).2;omega
     have Ug:=TZ.kept J Tg;have Uh:el S (c+1) (some (eX f)) w3 (λx=>x=j) j PM.none:=el.fresh Ug;have b3:Below B w w3:=TL.G TG (λx q=>(G x q).1) TT
     have TA:d6 w3 nb (b.extract 0 y.2) y.1 ((deep:Int)+1):=by rw[<-v4];exact TC)
   |(
     go_at_call 89;refine(Uc.o c rfl w3 (λx=>x=j) y nb j b3 L o s TA Uh (λx q=>by subst q;exact⟨Te,Te⟩) Te Te).V ?_;intro U M Ux;rcases Ux.part with⟨x,V,rfl,Z5,A⟩|⟨l,V,rfl,Z5,A,Uy⟩;.unfold dX;go_wp2;rw[Ty.o y,V];exact⟨rfl,rfl,_,ti TL Te Te A⟩
     have T0:=ti TL Te Te A;have b5:Below B w M:=T0.G TG (λx q=>(G x q).1) TT;have T4:Hid (fj S b F (eX f) PM.none y.1 y.2 (deep+1)= .ok l):=V
     clear V))
 have T5:∀x,Z5 x->x=j\/w3.heap.size<=x:=A.grow;have TM:=Uy.clip;have TN:el S (c+1+1) (some d) M Z db m:=Ue.O λx q hl=>A.block x hl (λe=>by have:=(G x q).2;omega) (λe=>Uf (e▸q))
 have Ui:d6 M rb (b.extract 0 e) y.2 deep:=(A.block rb (dP.lt TD) Te (λe=>Uw e.sy)).J TD;have hw5:w3.heap.size<=M.heap.size:=A.size;have⟨k1,k2⟩:=(h3.G b5 q3).I;have⟨k3,k4⟩:=(h5.G b5 q4).I;go_wp2_with fail;refine(TI.o c rfl M Z (λx=>Z5 x/\x<M.heap.size) j y l L o s T4.o TN TM (λx O Y=>by have:=(G x Y).2;have:=T5 x O.1;omega) (λx q=>by have:=(G x q).2;omega) (λx q=>q.2)).V ?_;rintro U w9 ⟨rfl,Z9,D,Uz⟩;go_wp2;go_end0;rw[Ty.o y,T4.o];refine⟨rfl,Z9,T0.J ⟨D.os,D.tape,D.output,D.size,λi hi q _=>D.block i hi (λe=>q (e.imp id (λe=>e.1))),λi q=>(D.grow i q).imp (λe=>e.imp id (λe=>e.1)) id⟩,Uz,?_⟩;exact dP.step Ui D (λq=>q.elim TU (λq=>(T5 rb q.1).elim (λe=>Te) (λe=>Te)))
end
section
open Go.Maps
open Tq
def Px (S:eE)(b:au)(w:aw)(d:MT)(pb:Nat)
  (h:∀(w3:aw) (Z:ax) (rb db:Nat),aj w w3->d6 w3 rb (b.extract 0 b.size) 0 1->el S 8 (some d) w3 Z db PM.none->(∀x,Z x->w.heap.size<=x/\x<w3.heap.size)->w.heap.size<=rb->¬Z rb->
   S9 89 #[ag pb,ag rb,ag db] w3 (ij S 7 d w3 Z rb db (b.extract 0 b.size) 1 (pu b.size (fj S b (b.size+1) d PM.none 0 b.size 1)))):
  Calls prog 49 #[ag pb,ae b] w (lH w (fj S b (b.size+1) d PM.none 0 b.size 1)):=by
 have k:b.extract 0 b.size=b:=Tf;have q:aj w (w.S6 #[ah,S8] 49):=(Below.refl _ _).alloc (aD _) _;have r:=q.alloc Tf (ak #[ah,ah] 183);have f:=r.alloc Tg (ak #[ae b,aa 0,aa 1] 244);have I:=((dP.new w #[ah,S8] 49).alloc (ak #[ah,ah] 183)).alloc (ak #[ae b,aa 0,aa 1] 244);have H:=(dP.newAt (w:=w.alloc (ak #[ah,S8] 49)) (n:=w.heap.size+1) Tf #[ah,ah] 183).alloc (ak #[ae b,aa 0,aa 1] 244);have J:=dP.newAt (w:=(w.alloc (ak #[ah,S8] 49)).alloc (ak #[ah,ah] 183)) (n:=w.heap.size+1+1) Tf #[ae b,aa 0,aa 1] 244;have g:=Ow ((w.S6 #[ah,S8] 49).S6 #[ah,ah] 183) b;simp only[ca]at g;go_in
 go_wp2_with fail;refine g.V ?_;rintro e w' ⟨rfl,rfl⟩;have M:w.heap.size+3=(((w.alloc (ak #[ah,S8] 49)).alloc (ak #[ah,ah] 183)).alloc (ak #[ae b,aa 0,aa 1] 244)).heap.size:=Tf;clear g q r;go_wp2_with fail;generalize(((w.alloc (ak #[ah,S8] 49)).alloc (ak #[ah,ah] 183)).alloc (ak #[ae b,aa 0,aa 1] 244))=w3 at*;have t:=h w3 (λx=>x=w.heap.size+1) (w.heap.size+1+1) (w.heap.size+1) f (by rw[k];exact J) (el.fresh H) (λx a=>by subst a;omega) Te Te;refine t.V ?_;intro e m F;rcases F.part with⟨x,D,rfl,C,c⟩|⟨l,D,rfl,C,c,j⟩;.unfold dX;go_wp2;exact⟨rfl,rfl,f.J (c.belowW Te (λx a=>Te) Te)⟩
 .have G:aj w m:=f.J (c.belowW Te (λx a=>Te) Te);have u:dP m w.heap.size #[ah,S8] 49:=(c.block w.heap.size Te Te Te).J I;have R:=c.size;have L:=c.grow;clear t F c;go_wp2_with fail;refine(xO (S:=S) 8 (some d) m C (w.heap.size+1) l j).V ?_;rintro e o ⟨v,i,rfl,E,A,B⟩;obtain⟨N,O,rfl⟩:=E.form;have y:=u.G B u.lt;have⟨P,Q⟩:=y.I
  have s:∀x,i x->w.heap.size<x:=λx a=>by
   rcases(A x a).2 with h|h
   .rcases L x h with h|h;.omega
    .omega
   .omega
  go_wp2
  have K:∀x,i x->x<o.heap.size->((o.setCell (ai w.heap.size 0) (.slice N l.fs.length O)).setCell (ai w.heap.size 1) (ae l.unk)).heap[x]?=o.heap[x]?:=λx a _=>by
   have z:w.heap.size≠x:=by have:=s x a;omega
   rw[dM,dG z,dM,dG z]
  rw[D];refine dJ (dW results49 _ _ rfl ((y.set 0 _).set 1 _) underlying49 Tj) rfl ⟨_,i,rfl,E.O K,λx a=>⟨cK (s x a),by simp only[cH];exact(A x a).1⟩,?_⟩;exact((dL G B).setCell (p:=(ai w.heap.size 0)) (aD _) _).setCell (p:=(ai w.heap.size 1)) (aD _) _
end
def dv:an->Nat->Nat
 | [],a=>a
 |c::l,a=>dv l (a*10+(c.toNat-48))
def LM:∀(l:an) (a:Nat),a<=dv l a
 | [],a=>aD _
 |c::l,a=>by
  have:=LM l (a*10+(c.toNat-48));unfold dv;omega
def DC:∀(l:an) (a u:Nat),Lib.parseUintM (2^64-1) a l= .ok u->u=dv l a
 | [],a,u,h=>by
  unfold Lib.parseUintM at h;injection h with h
  exact h.sy
 |c::l,a,u,h=>by
  unfold Lib.parseUintM at h;split at h
  .split at h;.cases h
   .split at h;.cases h
    .exact DC l _ u h
  .cases h
def uV:∀(l:an) (a:Nat),Lib.parseUintM (2^64-1) a l= .range->1099511627776<dv l a
 | [],a,h=>by
  unfold Lib.parseUintM at h
  cases h
 |c::l,a,h=>by
  unfold Lib.parseUintM at h;have b:=LM l (a*10+(c.toNat-48));unfold dv;split at h
  .split at h;.omega
   .split at h;.omega
    .exact uV l _ h
  .cases h
def NN {s:au}(h:jL s):min (gV s) 1099511627776=min (dv s.data.toList 0) 1099511627776:=by
 unfold gV;have b:Lib.parseUintB 64 s.data.toList=if s.data.toList= []then .syntax else Lib.parseUintM (2^64-1) 0 s.data.toList:=rfl;rcases h.2 with⟨u,a⟩|a
 .rw[a];rw[b]at a;split at a;.cases a
  .rw[DC _ _ _ a]
 .rw[a];rw[b]at a;split at a;.cases a
  .have:=uV _ _ a;simp only;omega
def GN (s:au)(a:∀i,i<s.size->lM (fR s i)=true):∀(f k:Nat) (n:Nat),s.size-k<=f->n<=1099511627776->vm s f k n=((min (dv (s.data.toList.drop k) n) 1099511627776:Nat):Int)
 |0,k,n,hf,hn=>by
  have:s.data.toList.drop k= []:=by rw[ci];simp;omega
  rw[this];unfold vm dv
  omega
 |f+1,k,n,hf,hn=>by
  by_cases hlt:k<s.size
  .have g:k<s.data.toList.length:=by simpa using hlt
   have b:s.data.toList.drop k=s[k]::s.data.toList.drop (k+1):=(by rw[aS g];rfl);have e:=gX hlt;have d:=Fu.1 (a k hlt);rw[b,vm,dH hlt,dv];have c:(10*(n:Int)+(fR s k-48)%256)=((n*10+(s[k].toNat-48):Nat):Int):=(by rw[<-e]at d⊢;omega);rw[c];by_cases hc:1099511627776<n*10+(s[k].toNat-48);.rw[dH Te];have:=LM (s.data.toList.drop (k+1)) (n*10+(s[k].toNat-48));omega
   .rw[dG Te];exact GN s a f (k+1) _ Te Te
  .have:s.data.toList.drop k= []:=by rw[ci];simp;omega
   rw[this,vm,dG hlt];unfold dv;omega
def oG (s:au):Prop:=iR s=((min (gV s) 1099511627776:Nat):Int)
def LN {s:au}(h:jL s)(a:∀i,i<s.size->lM (fR s i)=true):oG s:=by
 unfold oG iR;rw[NN h];have:=GN s a s.size 0 0 Te Te;simpa using this
def BG (t:au)(c:t.size<=2000):∀(k:Nat) (x:W),(eB t)[k]?=some x->dN x.1=2->oG x.1:=by
 intro k x b a;rcases gK b with⟨_,h⟩|⟨_,rfl⟩;.exact LN ((lm t c).num k x b a) (uz h (Cl a))
 .have:dN (ByteArray.mk #[])=4:=rfl;rw[this]at a;omega
section
variable (types:aA) {so:Int} {s:au} {x:W} {ws:List W}
theorem uW (w:Int)(a:Nat):fA (fA w a) a=fA w a:=by
 unfold fA;by_cases h:w<0\/(a:Int)<w;.rw[dH h,dG Te]
 .rw[dG h,dG h]
theorem DD (w:Int)(a b:Nat):fA (fA w a) b=fA (fA w b) a:=by
 unfold fA;by_cases h1:w<0\/(a:Int)<w
 .by_cases h2:w<0\/(b:Int)<w
  .rw[dH h1,dH h2];by_cases h3:(b:Int)<a;.rw[dH Te,dG Te]
   .by_cases h4:(a:Int)<b;.rw[dG Te,dH Te]
    .rw[dG Te,dG Te];omega
  .rw[dH h1,dG h2,dG Te,dH Te]
 .by_cases h2:w<0\/(b:Int)<w;.rw[dG h1,dH h2,dG Te]
  .rw[dG h1,dG h2,dG h1]
theorem BH (names:aA):∀(us:List W) (w:Int) (a:Nat),qR names us (fA w a)=fA (qR names us w) a
 | [],_,_=>rfl
 |u::us,w,a=>by
  unfold qR;split;.exact BH names us w a
  .rw[DD,BH names us]
theorem DE (names:aA):∀(us:List W) (x:W) (w:Int),qR names (us++ [x]) w=if eC names x.1 then qR names us w else fA (qR names us w) x.2
 | [],x,w=>by
  show qR names [x] w=_;unfold qR
  split<;>rfl
 |u::us,x,w=>by
  rw[bo,qR,DE names us,qR]
def jI (types:aA)(p:PS):Int:=qR types p.used p.wrong
theorem qr (x:W)(p:PS):jI types (sY x p)=fA (jI types p) x.2:=BH types p.used p.wrong x.2
theorem mS (x:W)(p:PS):jI types (xq x p)=ko (jI types p) x:=by
 show qR types p.used (ko p.wrong x)=ko (qR types p.used p.wrong) x;unfold ko;split;.exact BH types p.used p.wrong x.2
 .rfl
def eT (types:aA)(x:W)(wr:Int):Int:=if nj types (dN x.1) x.1 then fA wr x.2 else wr
def eN (names:aA)(full:Bool)(x:W)(wr:Int):Int:=if gE names x.1||full then fA wr x.2 else wr
def eV (nums:ar)(y:W)(wr:Int):Int:=if Lv nums (iR y.1)then fA wr y.2 else wr
def eK:Option W->Int->Int
 |some k,wr=>if fL (dN k.1) k.1 then wr else fA wr k.2
 |none,wr=>wr
theorem DF (names:aA)(full:Bool)(x:W)(wr:Int):(if eC names x.1||full then fA (ko wr x) x.2 else ko wr x)=eN names full x wr:=by
 unfold eN gE ko;by_cases h:20<x.1.size;.rw[dH h];simp only[h,decide_true,cF,if_true,uW];split<;>rfl
 .rw[dG h];simp only[h,decide_false,cC]
theorem Q9 (x:W)(wr:Int):(if dN x.1==1 then(if eC types x.1 then ko wr x else fA (ko wr x) x.2)else wr)=eT types x wr:=by
 unfold eT nj ko;cases hk:(dN x.1==1);.rfl
 .simp only[Bool.true_and,if_true];by_cases h:20<x.1.size;.simp only[h,decide_true,cF,if_true,uW];split<;>rfl
  .simp only[h,decide_false,cC,if_false];cases eC types x.1<;>rfl
section
variable {ws:List W} {p:PS}
theorem LO (a:gh ws p=x)(h:gT so s x.1=true):gM ws so s p=x/\fG ws so s p={p with i:=p.i+1}:=by
 unfold gM fG sW mA mB;rw[a,h];exact⟨rfl,rfl⟩
theorem Fg (a:gh ws p=x)(h:gT so s x.1=false)(hb:p.bad<0):(fG ws so s p).bad=x.2:=by
 show mB so s (gh ws p) p.bad=x.2;unfold mB;rw[a,h];simp only[aN,if_false];rw[dH hb]
theorem ph (a:so=1\/so=2)(hi:p.i<ws.length)(hb:p.bad<0):
  (∃x,jK ws so p.i= .ok (x,p.i+1)/\gM ws so ⟨#[]⟩ p=x/\fG ws so ⟨#[]⟩ p={p with i:=p.i+1}/\ws[p.i]?=some x/\dN x.1=so)\/(∃q:Nat,jK ws so p.i= .error q/\(fG ws so ⟨#[]⟩ p).bad=q):=by
 have e:=fZ hi;have b:gT so ⟨#[]⟩ (gh ws p).1=(dN (gh ws p).1==so):=(by unfold gT;rcases a with rfl|rfl<;>rfl);unfold jK;rw[e];simp only;cases hk:(dN (gh ws p).1==so);.right;exact⟨_,rfl,Fg rfl (by rw[b,hk]) hb⟩
 .left;have⟨c,d⟩:=LO (ws:=ws) (p:=p) (so:=so) (s:=⟨#[]⟩) rfl (by rw[b,hk]);exact⟨_,rfl,c,d,rfl,by simpa using hk⟩
theorem GO (hi:p.i<ws.length)(hb:p.bad<0):
  (∃x,lN ws p.i= .ok (x,p.i+1)/\gM ws 3 ⟨#[]⟩ p=x/\fG ws 3 ⟨#[]⟩ p={p with i:=p.i+1}/\ws[p.i]?=some x/\(dN x.1==3||dN x.1==1)=true)\/(∃q:Nat,lN ws p.i= .error q/\(fG ws 3 ⟨#[]⟩ p).bad=q):=by
 have d:=fZ hi;have a:gT 3 ⟨#[]⟩ (gh ws p).1=(dN (gh ws p).1==3||dN (gh ws p).1==1):=rfl;unfold lN;rw[d];simp only;cases hk:(dN (gh ws p).1==3||dN (gh ws p).1==1);.right;exact⟨_,rfl,Fg rfl (by rw[a,hk]) hb⟩
 .left;have⟨b,c⟩:=LO (ws:=ws) (p:=p) (so:=3) (s:=⟨#[]⟩) rfl (by rw[a,hk]);exact⟨_,rfl,b,c,rfl,hk⟩
theorem jC (c:UInt8)(hi:p.i<ws.length)(hb:p.bad<0):
  (fU ws [c] p.i= .ok ((),p.i+1)/\fG ws 0 ⟨#[c]⟩ p={p with i:=p.i+1})\/(∃q:Nat,fU ws [c] p.i= .error q/\(fG ws 0 ⟨#[c]⟩ p).bad=q):=by
 have e:=fZ hi;have d:(⟨#[c]⟩:au).toList= [c]:=by rw[ByteArray.toList_eq]
 have a:gT 0 ⟨#[c]⟩ (gh ws p).1=((gh ws p).1.toList== [c]):=(by show((gh ws p).1.toList==(⟨#[c]⟩:au).toList&& !((⟨#[c]⟩:au).toList== []))=_;rw[d];have:([c]==([]:an))=false:=rfl;rw[this];simp);unfold fU;rw[e];simp only;cases hk:((gh ws p).1.toList== [c]);.right;exact⟨_,rfl,Fg rfl (by rw[a,hk]) hb⟩
 .left;have⟨f,b⟩:=LO (ws:=ws) (p:=p) (so:=0) (s:=⟨#[c]⟩) rfl (by rw[a,hk]);exact⟨rfl,b⟩
end
theorem PL {s:FD}(h:0<=(f2 ws s).bad):(f5 ws s).bad=(f2 ws s).bad:=by
 have a:(f3 ws s).bad=(f2 ws s).bad:=fT h;have b:(fG ws 2 ⟨#[]⟩ (f3 ws s)).bad=(f2 ws s).bad:=(fT (by rw[a];exact h)).J a;exact(fT (by rw[b];exact h)).J b
theorem PO (ws:List W)(s:FD):jI types (f2 ws s)=eN s.names (decide (12<=s.nums.length)) (gM ws 1 ⟨#[]⟩ s.p) (jI types s.p):=by
 rw[<-DF];unfold f2 f1;split;.rw[qr,mS];rfl
 .rw[mS];rfl
theorem LP (H:jY ws){t:T3}{s:FD}(K:s.p.i<ws.length)(g:s.p.bad<0):
  match jx ws s.p.i with
  | .ok (nm,j)=>(px ws t s).p.i=j/\(px ws t s).p.bad=s.p.bad/\jI types (px ws t s).p=eV (s.nums.map fB.num) nm.2 (eN s.names (decide (12<=s.nums.length)) nm.1 (jI types s.p))/\(px ws t s).nums=s.nums++ [⟨nm.1.1,t.1,t.2.1,t.2.2,iR nm.2.1⟩]/\(px ws t s).names=s.names++ [nm.1.1]
  | .error q=>(px ws t s).p.bad=q:=by
 have⟨A,o,_⟩:=nF ws s;have⟨O,b,_⟩:=oB ws t s;have I:=rT H K 1 ⟨#[]⟩;unfold jx;rcases ph (so:=1) (.inl rfl) K g with⟨x,m,a,B,_,_⟩|⟨q,m,a⟩
 .rw[dU m];have h:(f2 ws s).i=s.p.i+1:=by rw[A,B]
  have r:(f2 ws s).bad=s.p.bad:=by rw[o,B]
  have w:(f2 ws s).i<ws.length:=by rw[A];exact I
  rcases jC 61 (p:=f2 ws s) w (by rw[r];exact g)with⟨c,n⟩|⟨q,c,n⟩
  .rw[h]at c;rw[dU c];have d:f3 ws s={f2 ws s with i:=(f2 ws s).i+1}:=n;have k:(f3 ws s).i=s.p.i+1+1:=by rw[d];show(f2 ws s).i+1=_;rw[h]
   have u:(f3 ws s).bad=s.p.bad:=by rw[d];exact r
   have z:(f3 ws s).i<ws.length:=rT H w 0 ⟨#[61]⟩;rcases ph (so:=2) (.inr rfl) (p:=f3 ws s) z (by rw[u];exact g)with⟨y,e,f,G,_,_⟩|⟨q,e,f⟩
   .rw[k]at e;rw[dU e];have l:(fG ws 2 ⟨#[]⟩ (f3 ws s)).i=s.p.i+1+1+1:=by rw[G];show(f3 ws s).i+1=_;rw[k]
    have v:(fG ws 2 ⟨#[]⟩ (f3 ws s)).bad=s.p.bad:=by rw[G];exact u
    have J:=rT H z 2 ⟨#[]⟩;rcases jC 59 (p:=fG ws 2 ⟨#[]⟩ (f3 ws s)) J (by rw[v];exact g)with⟨l1,l2⟩|⟨q,l1,l2⟩
    .rw[l]at l1;rw[dU l1];simp only;have E:f5 ws s={fG ws 2 ⟨#[]⟩ (f3 ws s)with i:=(fG ws 2 ⟨#[]⟩ (f3 ws s)).i+1}:=l2;have L:(f5 ws s).i=s.p.i+1+1+1+1:=by rw[E];show(fG ws 2 ⟨#[]⟩ (f3 ws s)).i+1=_;rw[l]
     have M:(f5 ws s).bad=s.p.bad:=by rw[E];exact v
     have N:jI types (f5 ws s)=jI types (f2 ws s):=rfl;refine⟨by rw[O,L],by rw[b,M],?_,?_,?_⟩
     .have F:=PO types ws s;rw[a]at F;rw[<-F,<-N];unfold px eV;rw[f];simp only;split;.exact qr types y (f5 ws s)
      .rfl
     .show s.nums++ [⟨(gM ws 1 ⟨#[]⟩ s.p).1,t.1,t.2.1,t.2.2,iR (gM ws 2 ⟨#[]⟩ (f3 ws s)).1⟩]=_;rw[f,a]
     .show s.names++ [(gM ws 1 ⟨#[]⟩ s.p).1]=_;rw[a]
    .rw[l]at l1;rw[d7 l1];show(px ws t s).p.bad=q;rw[b];exact l2
   .rw[k]at e;rw[d7 e];show(px ws t s).p.bad=q;rw[b];exact(fT (by rw[f];omega)).J f
  .rw[h]at c;rw[d7 c];show(px ws t s).p.bad=q;have d:(f3 ws s).bad=q:=n;rw[b];have D:(fG ws 2 ⟨#[]⟩ (f3 ws s)).bad=q:=(fT (by rw[d];omega)).J d;exact(fT (by rw[D];omega)).J D
 .rw[d7 m];show(px ws t s).p.bad=q;have C:(f2 ws s).bad=q:=by rw[o,a]
  rw[b,PL (by rw[C];omega),C]
theorem LQ {p:PS}(f:p.i<ws.length)(e:p.bad<0):
  (∃x,lN ws p.i= .ok (x,p.i+1)/\(nh ws p).i=p.i+1/\(nh ws p).bad=p.bad/\jI types (nh ws p)=eT types x (jI types p)/\(Ea ws p).1=x.1)\/(∃q:Nat,lN ws p.i= .error q/\(nh ws p).bad=q):=by
 rcases GO f e with⟨x,a,b,c,_,_⟩|⟨q,a,b⟩
 .left;have d:Ea ws p=x:=b;refine⟨x,a,by rw[(tx ws p).1,c],by rw[(tx ws p).2,c],?_,by rw[d]⟩;rw[<-Q9];unfold nh;rw[d];split;.show qR types (p.used++ [x]) (ko p.wrong x)=_;rw[DE];have g:qR types p.used (ko p.wrong x)=ko (jI types p) x:=mS types x p;rw[g]
  .rfl
 .right;exact⟨q,a,by rw[(tx ws p).2,b]⟩
end
structure ES where
 wr:Int
 nums:ar
 names:aA
def vC (types:aA)(s:FD):ES:=⟨jI types s.p,s.nums.map fB.num,s.names⟩
def PP (o:Option W)(f:ek):fB:=⟨f.name.1,f.type.1,jp f.key,lp o f.form,iR f.num.1⟩
def PQ (p:ft):List fB:=p.fields.map (PP p.oneof)
def fE (types:aA)(f:ek)(e:ES):ES:=
 ⟨eV e.nums f.num (eN e.names (decide (12<=e.nums.length)) f.name (eT types f.type (eK f.key e.wr))),e.nums++ [iR f.num.1],e.names++ [f.name.1]⟩
def IH (types:aA):List ek->ES->ES
 | [],e=>e
 |f::fs,e=>IH types fs (fE types f e)
def pE (types:aA)(p:ft)(e:ES):ES:=
 match p.oneof with
 |some o=>IH types p.fields ⟨eN e.names false o e.wr,e.nums,e.names++ [o.1]⟩
 |none=>IH types p.fields e
def Mk (types:aA):List ft->ES->ES
 | [],e=>e
 |p::ps,e=>Mk types ps (pE types p e)
def zb {α:Type}(types:aA)(s s':FD)(r:mX α)(b:α->ES->ES)(c:α->List fB):Prop:=
 match r with
 | .ok (a,j)=>s'.p.i=j/\s'.p.bad=s.p.bad/\vC types s'=b a (vC types s)/\s'.nums=s.nums++c a
 | .error q=>s'.p.bad=q
def nb {p:PS}{q:Nat}(h:p.bad=q):decide (p.bad<0)=false:=by
 rw[h];simp
section
variable {types:aA} {ws:List W}
def yr (H:jY ws){s:FD}(i:iC ws s.p)(g:s.p.bad<0)(form:Int)(o:Option W):zb types s (oC ws (lp o form) s) (fF ws form s.p.i) (fE types) (λf=> [PP o f]):=by
 unfold fF;rcases LQ types i.lt g with⟨x,b,c,e,m,r⟩|⟨q,b,c⟩
 .rw[dU b];have h:=LP types H (t:=((Ea ws s.p).1,eS,lp o form)) (s:={s with p:=nh ws s.p}) (lK H i).lt (by rw[e];exact g);have n:=c;rw[n]at h
  cases hn:jx ws (s.p.i+1)with
  |error q=>
   rw[hn]at h;rw[d7 rfl]
   exact h
  |ok v=>
   obtain⟨nm,j⟩:=v;rw[hn]at h;rw[dU rfl];obtain⟨a,u,w,y,z⟩:=h;have l:jI types (oC ws (lp o form) s).p=eV (s.nums.map fB.num) nm.2 (eN s.names (decide (12<=s.nums.length)) nm.1 (jI types (nh ws s.p))):=w;have d:(oC ws (lp o form) s).nums=s.nums++ [⟨nm.1.1,(Ea ws s.p).1,eS,lp o form,iR nm.2.1⟩]:=y;have k:(oC ws (lp o form) s).names=s.names++ [nm.1.1]:=z;refine⟨a,u.J e,?_,by rw[d,r];rfl⟩;unfold vC fE;rw[l,d,k,m];simp only[bM,bm];rfl
 .rw[d7 b];show(oC ws (lp o form) s).p.bad=q;have a:=c;have:=Bq (ws:=ws) (t:=((Ea ws s.p).1,eS,lp o form)) (s:={s with p:=nh ws s.p}) (by rw[a];omega);exact this.J a
def kX {l:an}{p:PS}(a:p.i<ws.length):fO ws l p.i=((gh ws p).1.toList==l):=by
 unfold fO;rw[fZ a]
def qS {l:an}{p:PS}(a:p.i<ws.length)(h:((gh ws p).1.toList==l)=true):fU ws l p.i= .ok ((),p.i+1):=by
 unfold fU;rw[fZ a];simp only;rw[h];rfl
def BI {p:PS}(c:p.i<ws.length)(a:p.bad<0):tV ws ⟨#[125]⟩ p=fO ws [125] p.i:=by
 rw[kX c];unfold tV;have b:(⟨#[125]⟩:au).toList= [125]:=by rw[ByteArray.toList_eq]
 rw[b];simp[a]
def PT (H:jY ws){s:FD}(D:iC ws s.p)(e:s.p.bad<0)(M:((gh ws s.p).1.toList== [109,97,112])=true):zb types s (Cd ws (ew s)) (lS ws s.p.i) (fE types) (λf=> [PP none f]):=by
 have B:iC ws (ew s).p:=nH D (H.last _ _ (fZ D.lt) (il M));unfold lS;rw[dU (qS D.lt M)];have m:∀q:Nat,(uT ws (ew s).p).bad=q->(Cd ws (ew s)).p.bad=q:=λq h=>(Bq (ws:=ws) (s:={ew s with p:=uT ws (ew s).p}) (by show 0<=(uT ws (ew s).p).bad;rw[h];omega)).J h
 have b:∀(so:Int) (t:au) (p:PS) (q:Nat),p.bad=q->(fG ws so t p).bad=q:=λso t p q h=>(fT (by rw[h];omega)).J h
 have y:∀(p:PS) (q:Nat),p.bad=q->(nh ws p).bad=q:=λp q h=>(Gx (by rw[h];omega)).J h
 have V:∀(p:PS) (q:Nat),p.bad=q->(sq ws p).bad=q:=λp q h=>by rw[(oF ws p).2.1];exact b _ _ _ _ h
 have U:(ew s).p.bad<0:=e;have N:(ew s).p.i=s.p.i+1:=rfl;rcases jC 60 (p:=(ew s).p) B.lt U with⟨g,o⟩|⟨q,g,o⟩;rotate_left;.rw[N]at g;rw[d7 g];exact m q (b _ _ _ _ (y _ _ (b _ _ _ _ (V _ _ o))))
 rw[N]at g;rw[dU g];have w:iC ws (fG ws 0 ⟨#[60]⟩ (ew s).p):=fQ H B _ _;obtain⟨a,d⟩:=Td (fG ws 0 ⟨#[60]⟩ (ew s).p);have X:a.i=s.p.i+1+1:=by rw[<-d,o];rfl
 have E:a.bad=s.p.bad:=by rw[<-d,o];rfl
 have Y:jI types a=jI types s.p:=by rw[<-d];rfl
 have c:uT ws (ew s).p=fG ws 0 ⟨#[62]⟩ (nh ws (fG ws 0 ⟨#[44]⟩ (sq ws a))):=by unfold uT;rw[d]
 rw[d]at w;have Z:s.p.i+1+1=a.i:=X.sy;rw[Z];rcases GO (p:=a) w.lt (by rw[E];exact e)with⟨k,C,n,K,L,_⟩|⟨q,C,n⟩;rotate_left;.rw[d7 C];refine m q ?_;rw[c];exact b _ _ _ _ (y _ _ (b _ _ _ _ (by rw[(oF ws a).2.1];exact n)))
 rw[dU C];have i:gh ws a=k:=(by have:=fZ w.lt;rw[this]at L;exact Option.some.inj L);have⟨R,S,_⟩:=oF ws a;have z:(sq ws a).i=a.i+1:=by rw[R,K]
 have F:(sq ws a).bad=s.p.bad:=by rw[S,K];exact E
 have g:jI types (sq ws a)=eK (some k) (jI types s.p):=by
  unfold sq;rw[n,i,<-Y];show _=if fL (dN k.1) k.1 then jI types a else fA (jI types a) k.2;split;.rfl
  .rw[qr];rfl
 have P:=E5 H w;rcases jC 44 (p:=sq ws a) P.lt (by rw[F];exact e)with⟨i,r⟩|⟨q,i,r⟩;rotate_left;.rw[z]at i;rw[d7 i];refine m q ?_;rw[c];exact b _ _ _ _ (y _ _ r)
 rw[z]at i;rw[dU i];have Q:=fQ H P 0 ⟨#[44]⟩;have G:(fG ws 0 ⟨#[44]⟩ (sq ws a)).i=a.i+1+1:=by rw[r];show(sq ws a).i+1=_;rw[z]
 have A:(fG ws 0 ⟨#[44]⟩ (sq ws a)).bad=s.p.bad:=by rw[r];exact F
 have i:jI types (fG ws 0 ⟨#[44]⟩ (sq ws a))=eK (some k) (jI types s.p):=g;rcases LQ types Q.lt (by rw[A];exact e)with⟨x,l1,l2,O,j,o⟩|⟨q,l1,l2⟩;rotate_left;.rw[G]at l1;rw[d7 l1];refine m q ?_;rw[c];exact b _ _ _ _ l2
 rw[G]at l1 l2;rw[dU l1];have b:=lK H Q;rcases jC 62 (p:=nh ws (fG ws 0 ⟨#[44]⟩ (sq ws a))) b.lt (by rw[O,A];exact e)with⟨l,u⟩|⟨q,l,u⟩;rotate_left;.rw[l2]at l;rw[d7 l];refine m q ?_;rw[c];exact u
 rw[l2]at l;rw[dU l];have l:iC ws (uT ws (ew s).p):=E6 H B;have b:(uT ws (ew s).p).i=a.i+1+1+1+1:=by rw[c,u];show(nh ws (fG ws 0 ⟨#[44]⟩ (sq ws a))).i+1=_;rw[l2]
 have I:(uT ws (ew s).p).bad=s.p.bad:=by rw[c,u];exact O.J A
 have g:jI types (uT ws (ew s).p)=eT types x (eK (some k) (jI types s.p)):=by rw[c,<-i,<-j];rfl
 have h:=LP types H (t:=NC ws (ew s).p) (s:={ew s with p:=uT ws (ew s).p}) l.lt (by show(uT ws (ew s).p).bad<0;rw[I];exact e);have c:({ew s with p:=uT ws (ew s).p}:FD).p.i=a.i+1+1+1+1:=b;rw[c]at h
 cases hn:jx ws (a.i+1+1+1+1)with
 |error q=>
  rw[hn]at h;rw[d7 rfl]
  exact h
 |ok v=>
  obtain⟨nm,j⟩:=v;rw[hn]at h;rw[dU rfl];obtain⟨b,c,e,i,j⟩:=h;have h:NC ws (ew s).p=(x.1,k.1,AC):=by unfold NC;rw[d,n,o]
  have a:jI types (Cd ws (ew s)).p=eV (s.nums.map fB.num) nm.2 (eN s.names (decide (12<=s.nums.length)) nm.1 (jI types (uT ws (ew s).p))):=e;have J:(Cd ws (ew s)).nums=s.nums++ [⟨nm.1.1,(NC ws (ew s).p).1,(NC ws (ew s).p).2.1,(NC ws (ew s).p).2.2,iR nm.2.1⟩]:=i;have T:(Cd ws (ew s)).names=s.names++ [nm.1.1]:=j;refine⟨b,c.J I,?_,by rw[J,h];rfl⟩;unfold vC fE;rw[a,J,T,g];simp only[bM,bm];rfl
def up (H:jY ws){how:au}{s:FD}(h:iC ws s.p):iC ws (oC ws how s).p:=yh H (s:={s with p:=nh ws s.p}) (lK H h)
def BJ (H:jY ws){how:au}:∀(n:Nat) (b:Bool) (s:FD),iC ws s.p->iC ws (o9 ws how n b s).p
 |0,_,_,h=>h
 |n+1,b,s,h=>by
  rw[o9];split;.exact BJ H n false _ (up H h)
  .exact h
def GP (H:jY ws)(o:Option W):∀(m n:Nat) (s:FD),iC ws s.p->s.p.bad<0->fo ws s.p<=n->ws.length-s.p.i<=m->
  zb types s (o9 ws (lp o 3) n false s) (fC (fO ws [125]) (fF ws 3) m s.p.i) (IH types) (λl=>l.map (PP o))
 |0,n,s,ho,hb,hn,hm=>by have:=ho.lt;omega
 |m+1,n,s,ho,hb,hn,hm=>by
  have b:=BI (ws:=ws) ho.lt hb;have z:0<fo ws s.p:=by unfold fo;rw[dH hb];have:=ho.lt;omega
  unfold fC;cases hs:fO ws [125] s.p.i
  .rw[hs]at b;simp only[aN,if_false];have g:(decide (s.p.bad<0)&& !(tV ws ⟨#[125]⟩ s.p&& !false))=true:=by rw[b];simp[hb]
   rw[Bt g Te];have a:=yr (types:=types) H ho hb 3 o;have r:=qj (how:=lp o 3) H ho hb;have e:=up (how:=lp o 3) H ho
   cases hf:fF ws 3 s.p.i with
   |error q=>
    rw[hf]at a;rw[d7 rfl];have d:=a;rw[oD (by rw[nb d];rfl)]
    exact d
   |ok v=>
    obtain⟨f,j⟩:=v;rw[hf]at a;obtain⟨h,c,i,p⟩:=a;rw[dU rfl];have y:=jy ws 3 s.p.i f j hf;have ih:=GP H o m (n-1) (oC ws (lp o 3) s) e (by rw[c];exact hb) Te Te;rw[h]at ih
    cases hr:fC (fO ws [125]) (fF ws 3) m j with
    |error q=>
     rw[hr]at ih;rw[d7 rfl]
     exact ih
    |ok v=>
     obtain⟨l,k⟩:=v;rw[hr]at ih;obtain⟨t,u,w,x⟩:=ih;rw[dU rfl];refine⟨t,u.J c,?_,?_⟩;.rw[w,i];rfl
     .rw[x,p,cJ];rfl
  .rw[hs]at b;simp only[if_true];rw[oD (by rw[b];simp)];exact⟨rfl,rfl,rfl,(bH _).sy⟩
def NO (s:FD):jI types (rG ws s)=eN s.names false (gM ws 1 ⟨#[]⟩ s.p) (jI types s.p):=by
 rw[<-DF];simp only[dd];unfold rG f1;split;.rw[qr,mS];rfl
 .rw[mS];rfl
def PU (H:jY ws){s:FD}(z:iC ws s.p)(y:s.p.bad<0)(N:((gh ws s.p).1.toList== [111,110,101,111,102])=true):zb types s (Cc ws (ew s)) (ie ws s.p.i) (pE types) PQ:=by
 have J:iC ws (ew s).p:=nH z (H.last _ _ (fZ z.lt) (il N));have U:(ew s).p.bad<0:=y;have⟨T,D,_⟩:=qk ws (ew s);have O:=Bz H J;have P:iC ws (nG ws (ew s)).p:=fQ H O 0 ⟨#[123]⟩
 have L:∀q:Nat,(nG ws (ew s)).p.bad=q->(Cc ws (ew s)).p.bad=q:=λq h=>by
  have n:o9 ws (pG ws (ew s)) ws.length true (nG ws (ew s))=nG ws (ew s):=oD (by rw[nb h];rfl);show(fG ws 0 ⟨#[125]⟩ (o9 ws (pG ws (ew s)) ws.length true (nG ws (ew s))).p).bad=q;rw[n,fT (by rw[h];omega),h]
 unfold ie;rw[dU (qS z.lt N)];rcases ph (so:=1) (.inl rfl) J.lt U with⟨x,e,c,K,_,_⟩|⟨q,e,c⟩;rotate_left;.have a:(ew s).p.i=s.p.i+1:=rfl;rw[a]at e;rw[d7 e];exact L q ((fT (by rw[D,c];omega)).J (D.J c))
 have a:(ew s).p.i=s.p.i+1:=rfl;rw[a]at e;rw[dU e];have A:(rG ws (ew s)).i=s.p.i+1+1:=by rw[T,K];rfl
 have E:(rG ws (ew s)).bad=s.p.bad:=by rw[D,K];rfl
 rcases jC 123 (p:=rG ws (ew s)) O.lt (by rw[E];exact y)with⟨g,u⟩|⟨q,g,u⟩;rotate_left;.rw[A]at g;rw[d7 g];exact L q u
 rw[A]at g;rw[dU g];have R:(nG ws (ew s)).p.i=s.p.i+1+1+1:=(by have:(nG ws (ew s)).p={rG ws (ew s)with i:=(rG ws (ew s)).i+1}:=u;rw[this];show(rG ws (ew s)).i+1=_;rw[A]);have F:(nG ws (ew s)).p.bad=s.p.bad:=(by have:(nG ws (ew s)).p={rG ws (ew s)with i:=(rG ws (ew s)).i+1}:=u;rw[this];exact E);have S:vC types (nG ws (ew s))=⟨eN s.names false x (jI types s.p),s.nums.map fB.num,s.names++ [x.1]⟩:=(by have n:jI types (nG ws (ew s)).p=jI types (rG ws (ew s)):=rfl;have o:=NO (types:=types) (ws:=ws) (ew s);rw[c]at o;unfold vC;rw[n,o];show(⟨_,s.nums.map fB.num,s.names++ [(gM ws 1 ⟨#[]⟩ (ew s).p).1]⟩:ES)=_;rw[c];rfl);have B:(nG ws (ew s)).p.bad<0:=by rw[F];exact y
 have X:0<ws.length:=by have:=z.lt;omega
 have V:(decide ((nG ws (ew s)).p.bad<0)&& !(tV ws ⟨#[125]⟩ (nG ws (ew s)).p&& !true))=true:=by simp[B]
 have t:o9 ws (pG ws (ew s)) ws.length true (nG ws (ew s))=o9 ws (pG ws (ew s)) (ws.length-1) false (oC ws (pG ws (ew s)) (nG ws (ew s))):=Bt V X;have M:pG ws (ew s)=lp (some x) 3:=by unfold pG;rw[c];rfl
 have b:=yr (types:=types) H P B 3 (some x);rw[<-M]at b;rw[R]at b
 cases hf:fF ws 3 (s.p.i+1+1+1)with
 |error q=>
  rw[hf]at b;rw[d7 rfl];have d:(oC ws (pG ws (ew s)) (nG ws (ew s))).p.bad=q:=b;show(fG ws 0 ⟨#[125]⟩ (o9 ws (pG ws (ew s)) ws.length true (nG ws (ew s))).p).bad=q
  rw[t,oD (by rw[nb d];rfl),fT (by rw[d];omega),d]
 |ok v=>
  obtain⟨f,j⟩:=v;rw[hf]at b;obtain⟨n,o,Z,c⟩:=b;rw[dU rfl];have Q:=up (how:=pG ws (ew s)) H P;have b:=jy ws 3 _ f j hf;have G:(oC ws (pG ws (ew s)) (nG ws (ew s))).p.bad<0:=by rw[o];exact B
  have ih:=GP (types:=types) H (some x) ws.length (ws.length-1) (oC ws (pG ws (ew s)) (nG ws (ew s))) Q G (by unfold fo;rw[dH G];omega) Te;rw[n,<-M]at ih;have r:(Cc ws (ew s)).p=fG ws 0 ⟨#[125]⟩ (o9 ws (pG ws (ew s)) (ws.length-1) false (oC ws (pG ws (ew s)) (nG ws (ew s)))).p:=(by show fG ws 0 ⟨#[125]⟩ (o9 ws (pG ws (ew s)) ws.length true (nG ws (ew s))).p=_;rw[t])
  have C:(Cc ws (ew s)).nums=(o9 ws (pG ws (ew s)) (ws.length-1) false (oC ws (pG ws (ew s)) (nG ws (ew s)))).nums/\(Cc ws (ew s)).names=(o9 ws (pG ws (ew s)) (ws.length-1) false (oC ws (pG ws (ew s)) (nG ws (ew s)))).names:=by
   constructor;.show(o9 ws (pG ws (ew s)) ws.length true (nG ws (ew s))).nums=_;rw[t]
   .show(o9 ws (pG ws (ew s)) ws.length true (nG ws (ew s))).names=_;rw[t]
  cases hr:fC (fO ws [125]) (fF ws 3) ws.length j with
  |error q=>
   rw[hr]at ih;have d:(o9 ws (pG ws (ew s)) (ws.length-1) false (oC ws (pG ws (ew s)) (nG ws (ew s)))).p.bad=q:=ih;show(Cc ws (ew s)).p.bad=q
   rw[r,fT (by rw[d];omega),d]
  |ok v=>
   obtain⟨l,k⟩:=v;rw[hr]at ih;obtain⟨a,b,d,e⟩:=ih;have hpre:m9 [f] (.ok (l,k))= .ok ([f]++l,k):=rfl;rw[hpre,dU rfl];have I:(o9 ws (pG ws (ew s)) (ws.length-1) false (oC ws (pG ws (ew s)) (nG ws (ew s)))).p.bad=s.p.bad:=b.J (o.J F);have b:(o9 ws (pG ws (ew s)) (ws.length-1) false (oC ws (pG ws (ew s)) (nG ws (ew s)))).p.i<ws.length:=(by exact(BJ H _ _ _ Q).lt);rcases jC 125 (p:=(o9 ws (pG ws (ew s)) (ws.length-1) false (oC ws (pG ws (ew s)) (nG ws (ew s)))).p) b (by rw[I];exact y)with⟨m,w⟩|⟨q,m,w⟩
   .rw[a]at m;rw[dU m];refine⟨?_,?_,?_,?_⟩;.rw[r,w];show(o9 ws (pG ws (ew s)) (ws.length-1) false (oC ws (pG ws (ew s)) (nG ws (ew s)))).p.i+1=_;rw[a]
    .rw[r,w];exact I
    .have Y:vC types (Cc ws (ew s))=vC types (o9 ws (pG ws (ew s)) (ws.length-1) false (oC ws (pG ws (ew s)) (nG ws (ew s)))):=(by unfold vC;rw[r,C.1,C.2];rfl);rw[Y,d,Z,S];rfl
    .rw[C.1,e,c,cJ];rfl
   .rw[a]at m;rw[d7 m];show(Cc ws (ew s)).p.bad=q;rw[r];exact w
end
section
variable {types:aA} {ws:List W}
def OI {x:au}{l:an}(h:(x.toList==l)=true):x=⟨l.toArray⟩:=by
 have a:x.toList=l:=by simpa using h
 rw[ByteArray.toList_eq]at a;obtain⟨d⟩:=x;simp only at a;rw[<-a]
def qT {s s':FD}{r:mX ek}(h:zb types s s' r (fE types) (λf=> [PP none f])):zb types s s' (kN r) (pE types) PQ:=by
 cases r with
 |error q=>exact h
 |ok v=>
  obtain⟨f,j⟩:=v;exact h
def qU (H:jY ws){s:FD}(a:iC ws s.p)(b:0<(gh ws s.p).1.size):iC ws (ew s).p:=nH a (H.last _ _ (fZ a.lt) b)
def GQ {s s':FD}{α:Type}{r:mX α}{eff:α->ES->ES}{fl:α->List fB}(h:zb types (ew s) s' r eff fl):zb types s s' r eff fl:=h
def PW (H:jY ws){s:FD}(a:iC ws s.p)(b:s.p.bad<0):zb types s (nW ws s) (jg ws s.p.i) (pE types) PQ:=by
 unfold nW jg;rw[kX a.lt,kX a.lt,kX a.lt,kX a.lt];split;.next ht=>exact PU H a b ht
 .split;.next ht=>exact qT (PT H a b ht)
  .cases h3:((gh ws s.p).1.toList== [114,101,112,101,97,116,101,100])
   .cases h4:((gh ws s.p).1.toList== [111,112,116,105,111,110,97,108]);.simp only[Bool.or_self,aN,if_false];exact qT (yr H a b 0 none)
    .simp only[cC,aN,if_false,if_true];have q:=qT (GQ (yr (types:=types) H (qU H a (il h4)) b 1 none));rw[show lp none 1=(gh ws s.p).1 from(OI h4).sy]at q;exact q
   .simp only[cF,if_true];have q:=qT (GQ (yr (types:=types) H (qU H a (il h3)) b 2 none));rw[show lp none 2=(gh ws s.p).1 from(OI h3).sy]at q;exact q
def PX (H:jY ws){s:FD}(h:iC ws s.p):iC ws (Cc ws s).p:=fQ H (BJ H _ _ _ (fQ H (Bz H h) 0 ⟨#[123]⟩)) 0 ⟨#[125]⟩
def PY (H:jY ws){s:FD}(h:iC ws s.p):iC ws (Cd ws s).p:=yh H (s:={s with p:=uT ws s.p}) (E6 H h)
def LR (H:jY ws){s:FD}(h:iC ws s.p):iC ws (nW ws s).p:=by
 unfold nW;split;.next a=>exact PX H (qU H h (il a))
 .split;.next a=>exact PY H (qU H h (il a))
  .split
   .next a=>
    rcases(Bool.or_eq_true _ _).mp a with a|a;.exact up H (qU H h (il a))
    .exact up H (qU H h (il a))
   .exact up H h
def Is (H:jY ws){s:FD}(h:iC ws s.p)(b:s.p.bad<0):fo ws (nW ws s).p<fo ws s.p:=by
 have a:∀t:FD,s.p.i+1<=t.p.i->fo ws t.p<fo ws s.p:=λt c=>by
  have:=h.lt;unfold fo;rw[dH b];split<;>omega
 unfold nW;split;.exact a _ (E8 ws (ew s))
 .split;.exact a _ (E9 ws (ew s))
  .split;.exact a _ (yj ws _ (ew s))
   .exact qj H h b
def GR (H:jY ws):∀(n:Nat) (s:FD),iC ws s.p->iC ws (Al ws n s).p
 |0,_,h=>h
 |n+1,s,h=>by
  rw[Al];split;.exact GR H n _ (LR H h)
  .exact h
def GS (H:jY ws):∀(m n:Nat) (s:FD),iC ws s.p->s.p.bad<0->fo ws s.p<=n->ws.length-s.p.i<=m->
  zb types s (Al ws n s) (fC (fO ws [125]) (jg ws) m s.p.i) (Mk types) (λl=>l.flatMap PQ)
 |0,n,s,ho,hb,hn,hm=>by have:=ho.lt;omega
 |m+1,n,s,ho,hb,hn,hm=>by
  have a:=BI (ws:=ws) ho.lt hb;have d:0<fo ws s.p:=by unfold fo;rw[dH hb];have:=ho.lt;omega
  unfold fC;cases hs:fO ws [125] s.p.i
  .rw[hs]at a;simp only[aN,if_false];have g:(decide (s.p.bad<0)&& !tV ws ⟨#[125]⟩ s.p)=true:=by rw[a];simp[hb]
   rw[Ly g Te];have b:=PW (types:=types) H ho hb;have t:=Is H ho hb;have h:=LR H ho
   cases hf:jg ws s.p.i with
   |error q=>
    rw[hf]at b;rw[d7 rfl];have e:(nW ws s).p.bad=q:=b;rw[qm (by rw[nb e];rfl)]
    exact e
   |ok v=>
    obtain⟨f,j⟩:=v;rw[hf]at b;obtain⟨i,c,o,p⟩:=b;rw[dU rfl];have r:=wE ws s.p.i f j hf;have ih:=GS H m (n-1) (nW ws s) h (by rw[c];exact hb) Te Te;rw[i]at ih
    cases hr:fC (fO ws [125]) (jg ws) m j with
    |error q=>
     rw[hr]at ih;rw[d7 rfl]
     exact ih
    |ok v=>
     obtain⟨l,k⟩:=v;rw[hr]at ih;obtain⟨u,w,x,y⟩:=ih;rw[dU rfl];refine⟨u,w.J c,?_,?_⟩;.rw[x,o];rfl
     .rw[y,p,cJ];rfl
  .rw[hs]at a;simp only[if_true];rw[qm (by rw[a];simp)];exact⟨rfl,rfl,rfl,(bH _).sy⟩
def vE (v:W×W)(e:Int×aA):Int×aA:=
 (
  let w1:=eN e.2 false v.1 e.1
  if 2147483647<iR v.2.1 then fA w1 v.2.2 else w1,e.2++ [v.1.1])
def Ml:List (W×W)->Int×aA->Int×aA
 | [],e=>e
 |v::vs,e=>Ml vs (vE v e)
def bE (types:aA)(b:dS)(names:aA)(m:Nat)(wr:Int):Int:=
 if b.enum then(Ml b.values (eN names false b.name wr,[])).1 else(Mk types b.parts ⟨eN names (decide (6<=m)) b.name wr,[],[]⟩).wr
def NP (p:PS):jI types (rH ws p)=eN p.names (decide (6<=p.msgs.length)) (gM ws 1 ⟨#[]⟩ p) (jI types p):=by
 rw[<-DF];unfold rH;split;.rw[qr,mS];rfl
 .rw[mS];rfl
def NQ (p:PS):jI types (nX ws p)=eN p.names false (gM ws 1 ⟨#[]⟩ p) (jI types p):=by
 rw[<-DF];simp only[dd];unfold nX;split;.rw[qr,mS];rfl
 .rw[mS];rfl
def NR (p:PS)(l:aA):jI types (uU ws p l)=eN l false (gM ws 1 ⟨#[]⟩ p) (jI types p):=by
 rw[<-DF];simp only[dd];unfold uU;split;.rw[qr,mS];rfl
 .rw[mS];rfl
def RP (b:dS):MT:=⟨b.name.1,b.parts.flatMap PQ⟩
def P1 (types:aA)(p p':PS)(r:mX dS):Prop:=
 match r with
 | .ok (b,j)=>p'.i=j/\p'.bad=p.bad/\jI types p'=bE types b p.names p.msgs.length (jI types p)/\p'.names=p.names++ [b.name.1]/\p'.msgs=p.msgs++(if b.enum then []else [RP b])/\p'.enums=p.enums++(if b.enum then [b.name.1]else [])
 | .error q=>p'.bad=q
def P4 (H:jY ws){p:PS}(u:iC ws p)(g:p.bad<0)(K:((gh ws p).1.toList== [109,101,115,115,97,103,101])=true):P1 types p (BC ws (eJ p)) (gz ws p.i):=by
 have m:iC ws (eJ p):=nH u (H.last _ _ (fZ u.lt) (il K));have L:(eJ p).bad<0:=g;have⟨z,r,_⟩:=yk ws (eJ p);have e:=fQ H m 1 ⟨#[]⟩;have I:(eJ p).i=p.i+1:=rfl;have J:iC ws (Ce ws (eJ p)).p:=(GM H m).ok;have Y:(Dx ws (eJ p)).i<ws.length:=by show(rH ws (eJ p)).i<_;rw[z];exact e.lt
 have j:=GJ ws (eJ p);have M:(BC ws (eJ p)).names=p.names++ [(gM ws 1 ⟨#[]⟩ (eJ p)).1]:=dK (λt=>t.1) j;have N:(BC ws (eJ p)).msgs=p.msgs++ [⟨(gM ws 1 ⟨#[]⟩ (eJ p)).1,(uo ws (eJ p)).nums⟩]:=dK (λt=>t.2.1) j;have O:(BC ws (eJ p)).enums=p.enums:=dK (λt=>t.2.2) j
 have E:∀q:Nat,(Ce ws (eJ p)).p.bad=q->(BC ws (eJ p)).bad=q:=λq h=>by
  have e:uo ws (eJ p)=Ce ws (eJ p):=qm (by rw[nb h];rfl);show(fG ws 0 ⟨#[125]⟩ (uo ws (eJ p)).p).bad=q;rw[e,fT (by rw[h];omega),h]
 unfold gz;rw[dU (qS u.lt K)];rcases ph (so:=1) (.inl rfl) m.lt L with⟨x,b,a,C,_,_⟩|⟨q,b,a⟩;rotate_left;.rw[I]at b;rw[d7 b];exact E q ((fT (p:=Dx ws (eJ p)) (by show 0<=(rH ws (eJ p)).bad;rw[r,a];omega)).J (r.J a))
 rw[I]at b;rw[dU b];have n:(Dx ws (eJ p)).i=p.i+1+1:=by show(rH ws (eJ p)).i=_;rw[z,C];rfl
 have A:(Dx ws (eJ p)).bad=p.bad:=by show(rH ws (eJ p)).bad=_;rw[r,C];rfl
 rcases jC 123 (p:=Dx ws (eJ p)) Y (by rw[A];exact g)with⟨c,s⟩|⟨q,c,s⟩;rotate_left;.rw[n]at c;rw[d7 c];exact E q s
 rw[n]at c;rw[dU c];have F:(Ce ws (eJ p)).p={Dx ws (eJ p)with i:=(Dx ws (eJ p)).i+1}:=s;have P:(Ce ws (eJ p)).p.i=p.i+1+1+1:=by rw[F];show(Dx ws (eJ p)).i+1=_;rw[n]
 have B:(Ce ws (eJ p)).p.bad=p.bad:=by rw[F];exact A
 have Q:vC types (Ce ws (eJ p))=⟨eN p.names (decide (6<=p.msgs.length)) x (jI types p),[],[]⟩:=(by have D:=NP (types:=types) (ws:=ws) (eJ p);rw[a]at D;have e:jI types (Ce ws (eJ p)).p=jI types (rH ws (eJ p)):=rfl;unfold vC;rw[e,D];rfl);have w:(Ce ws (eJ p)).p.bad<0:=by rw[B];exact g
 have ih:=GS (types:=types) H ws.length ws.length (Ce ws (eJ p)) J w (by unfold fo;rw[dH w];omega) Te;rw[P]at ih;have Z:(uo ws (eJ p)).p.i<ws.length:=(GR H _ _ J).lt
 cases hr:fC (fO ws [125]) (jg ws) ws.length (p.i+1+1+1)with
 |error q=>
  rw[hr]at ih;rw[d7 rfl];have G:(uo ws (eJ p)).p.bad=q:=ih;show(fG ws 0 ⟨#[125]⟩ (uo ws (eJ p)).p).bad=q
  rw[fT (by rw[G];omega),G]
 |ok v=>
  obtain⟨l,k⟩:=v;rw[hr]at ih;obtain⟨S,T,U,V⟩:=ih;have o:(uo ws (eJ p)).p.i=k:=S;have y:(uo ws (eJ p)).p.bad=p.bad:=T.J B;rw[dU rfl];rcases jC 125 (p:=(uo ws (eJ p)).p) Z (by rw[y];exact g)with⟨d,f⟩|⟨q,d,f⟩
  .rw[o]at d;rw[dU d];refine⟨?_,?_,?_,?_,?_,?_⟩;.show(fG ws 0 ⟨#[125]⟩ (uo ws (eJ p)).p).i=_;rw[f];show(uo ws (eJ p)).p.i+1=_;rw[o]
   .show(fG ws 0 ⟨#[125]⟩ (uo ws (eJ p)).p).bad=_;rw[f];exact y
   .have R:jI types (BC ws (eJ p))=(vC types (Al ws ws.length (Ce ws (eJ p)))).wr:=rfl;rw[R,U,Q];rfl
   .rw[M,a]
   .have X:(uo ws (eJ p)).nums=l.flatMap PQ:=V;rw[N,a,X];rfl
   .rw[O];exact(bH _).sy
  .rw[o]at d;rw[d7 d];exact f
end
section
variable {types:aA} {ws:List W}
def NS (H:jY ws){p:PS}(r:iC ws p)(d:p.bad<0)(l:aA):
  match jx ws p.i with
  | .ok (v,j)=>(tH ws p l).i=j/\(tH ws p l).bad=p.bad/\(jI types (tH ws p l),l++ [(gM ws 1 ⟨#[]⟩ p).1])=vE v (jI types p,l)
  | .error q=>(tH ws p l).bad=q:=by
 have⟨L,A,_⟩:=qp ws p l;have G:=Fa H r l;have N:iC ws (kH ws p l):=fQ H G 0 ⟨#[61]⟩;have⟨I,g,_⟩:=qq ws p l (fG ws 2 ⟨#[]⟩ (kH ws p l)) (gM ws 2 ⟨#[]⟩ (kH ws p l));have O:=Fb H r l
 have s:∀q:Nat,(fG ws 2 ⟨#[]⟩ (kH ws p l)).bad=q->(tH ws p l).bad=q:=λq h=>by
  unfold tH;rw[fT (by rw[g,h];omega),g,h]
 have t:∀q:Nat,(kH ws p l).bad=q->(tH ws p l).bad=q:=λq h=>s q ((fT (by rw[h];omega)).J h)
 have J:∀q:Nat,(uU ws p l).bad=q->(tH ws p l).bad=q:=λq h=>t q ((fT (p:=uU ws p l) (by rw[h];omega)).J h)
 unfold jx;rcases ph (so:=1) (.inl rfl) r.lt d with⟨x,m,c,C,_,_⟩|⟨q,m,c⟩;rotate_left;.rw[d7 m];exact J q (A.J c)
 rw[dU m];have e:(uU ws p l).i=p.i+1:=by rw[L,C]
 have u:(uU ws p l).bad=p.bad:=by rw[A,C]
 rcases jC 61 (p:=uU ws p l) G.lt (by rw[u];exact d)with⟨a,n⟩|⟨q,a,n⟩;rotate_left;.rw[e]at a;rw[d7 a];exact t q n
 rw[e]at a;rw[dU a];have D:kH ws p l={uU ws p l with i:=(uU ws p l).i+1}:=n;have k:(kH ws p l).i=p.i+1+1:=by rw[D];show(uU ws p l).i+1=_;rw[e]
 have B:(kH ws p l).bad=p.bad:=by rw[D];exact u
 rcases ph (so:=2) (.inr rfl) N.lt (by rw[B];exact d)with⟨y,b,o,F,_,_⟩|⟨q,b,o⟩;rotate_left;.rw[k]at b;rw[d7 b];exact s q o
 rw[k]at b;rw[dU b];have f:(if 2147483647<iR (gM ws 2 ⟨#[]⟩ (kH ws p l)).1 then sY (gM ws 2 ⟨#[]⟩ (kH ws p l)) (fG ws 2 ⟨#[]⟩ (kH ws p l))else fG ws 2 ⟨#[]⟩ (kH ws p l)).i=p.i+1+1+1:=by rw[I,F];show(kH ws p l).i+1=_;rw[k]
 have w:(if 2147483647<iR (gM ws 2 ⟨#[]⟩ (kH ws p l)).1 then sY (gM ws 2 ⟨#[]⟩ (kH ws p l)) (fG ws 2 ⟨#[]⟩ (kH ws p l))else fG ws 2 ⟨#[]⟩ (kH ws p l)).bad=p.bad:=by rw[g,F];exact B
 rcases jC 59 O.lt (by rw[w];exact d)with⟨l1,l2⟩|⟨q,l1,l2⟩;rotate_left;.rw[f]at l1;rw[d7 l1];exact l2
 rw[f]at l1;rw[dU l1];have E:tH ws p l=_:=l2;refine⟨?_,?_,?_⟩;.rw[E];show(if 2147483647<iR (gM ws 2 ⟨#[]⟩ (kH ws p l)).1 then sY (gM ws 2 ⟨#[]⟩ (kH ws p l)) (fG ws 2 ⟨#[]⟩ (kH ws p l))else fG ws 2 ⟨#[]⟩ (kH ws p l)).i+1=_;rw[f]
 .rw[E];exact w
 .have M:jI types (tH ws p l)=jI types (if 2147483647<iR (gM ws 2 ⟨#[]⟩ (kH ws p l)).1 then sY (gM ws 2 ⟨#[]⟩ (kH ws p l)) (fG ws 2 ⟨#[]⟩ (kH ws p l))else fG ws 2 ⟨#[]⟩ (kH ws p l)):=rfl;have K:jI types (fG ws 2 ⟨#[]⟩ (kH ws p l))=jI types (uU ws p l):=rfl;have z:=NR (types:=types) (ws:=ws) p l;rw[c]at z;rw[M,o,c];unfold vE;simp only;rw[<-z,<-K];split;.rw[qr]
  .rfl
def GT (H:jY ws):∀(m n:Nat) (p:PS) (l:aA),iC ws p->p.bad<0->fo ws p<=n->ws.length-p.i<=m->
  match fC (fO ws [125]) (jx ws) m p.i with
  | .ok (vs,j)=>(se ws n p l).i=j/\(se ws n p l).bad=p.bad/\jI types (se ws n p l)=(Ml vs (jI types p,l)).1
  | .error q=>(se ws n p l).bad=q
 |0,n,p,l,ho,hb,hn,hm=>by have:=ho.lt;omega
 |m+1,n,p,l,ho,hb,hn,hm=>by
  have b:=BI (ws:=ws) ho.lt hb;have t:0<fo ws p:=by unfold fo;rw[dH hb];have:=ho.lt;omega
  unfold fC;cases hs:fO ws [125] p.i
  .rw[hs]at b;simp only[aN,if_false];have e:(decide (p.bad<0)&& !tV ws ⟨#[125]⟩ p)=true:=by rw[b];simp[hb]
   rw[LB e Te];have a:=NS (types:=types) H ho hb l;have u:=Dy l ho hb;have g:=Fc H ho l
   cases hf:jx ws p.i with
   |error q=>
    rw[hf]at a;rw[d7 rfl];have d:(tH ws p l).bad=q:=a;rw[qo (by rw[nb d];rfl)]
    exact d
   |ok v=>
    obtain⟨f,j⟩:=v;rw[hf]at a;obtain⟨h,c,i⟩:=a;rw[dU rfl];have w:=sB ws p.i f j hf;have ih:=GT H m (n-1) (tH ws p l) (l++ [(gM ws 1 ⟨#[]⟩ p).1]) g (by rw[c];exact hb) Te Te;rw[h]at ih
    cases hr:fC (fO ws [125]) (jx ws) m j with
    |error q=>
     rw[hr]at ih;rw[d7 rfl]
     exact ih
    |ok v=>
     obtain⟨vs,k⟩:=v;rw[hr]at ih;obtain⟨o,r,s⟩:=ih;rw[dU rfl];refine⟨o,r.J c,?_⟩;rw[s,i];rfl
  .rw[hs]at b;simp only[if_true];rw[qo (by rw[b];simp)];exact⟨rfl,rfl,rfl⟩
def P6 (H:jY ws){p:PS}(y:iC ws p)(n:p.bad<0)(L:((gh ws p).1.toList== [101,110,117,109])=true):P1 types p (BD ws (eJ p)) (j9 ws p.i):=by
 have o:iC ws (eJ p):=nH y (H.last _ _ (fZ y.lt) (il L));have R:(eJ p).bad<0:=n;have⟨F,w,_⟩:=yn ws (eJ p);have g:=fQ H o 1 ⟨#[]⟩;have M:(eJ p).i=p.i+1:=rfl;have N:iC ws (rI ws (eJ p)):=LG H o;obtain⟨a,i⟩:∃a:PS,{nX ws (eJ p)with names:=(eJ p).names++ [(gM ws 1 ⟨#[]⟩ (eJ p)).1],enums:=(eJ p).enums++ [(gM ws 1 ⟨#[]⟩ (eJ p)).1]}=a:=⟨_,rfl⟩;have j:rI ws (eJ p)=fG ws 0 ⟨#[123]⟩ a:=by unfold rI;rw[i]
 have A:a.i=(nX ws (eJ p)).i:=by rw[<-i]
 have r:a.bad=(nX ws (eJ p)).bad:=by rw[<-i]
 have S:jI types a=jI types (nX ws (eJ p)):=by rw[<-i];rfl
 have Z:a.i<ws.length:=by rw[A,F];exact g.lt
 have u:=GI ws (eJ p);have T:(BD ws (eJ p)).names=p.names++ [(gM ws 1 ⟨#[]⟩ (eJ p)).1]:=dK (λt=>t.1) u;have U:(BD ws (eJ p)).msgs=p.msgs:=dK (λt=>t.2.1) u;have O:(BD ws (eJ p)).enums=p.enums++ [(gM ws 1 ⟨#[]⟩ (eJ p)).1]:=dK (λt=>t.2.2) u
 have J:∀q:Nat,(rI ws (eJ p)).bad=q->(BD ws (eJ p)).bad=q:=λq h=>by
  have g:se ws ws.length (rI ws (eJ p)) []=rI ws (eJ p):=qo (by rw[nb h];rfl);show(fG ws 0 ⟨#[125]⟩ (se ws ws.length (rI ws (eJ p)) [])).bad=q;rw[g,fT (by rw[h];omega),h]
 unfold j9;rw[dU (qS y.lt L)];rcases ph (so:=1) (.inl rfl) o.lt R with⟨x,c,b,G,_,_⟩|⟨q,c,b⟩;rotate_left;.rw[M]at c;rw[d7 c];refine J q ?_;rw[j,fT (by rw[r,w,b];omega),r,w,b]
 rw[M]at c;rw[dU c];have s:a.i=p.i+1+1:=by rw[A,F,G];rfl
 have E:a.bad=p.bad:=by rw[r,w,G];rfl
 rcases jC 123 (p:=a) Z (by rw[E];exact n)with⟨d,e⟩|⟨q,d,e⟩;rotate_left;.rw[s]at d;rw[d7 d];exact J q (by rw[j];exact e)
 rw[s]at d;rw[dU d];rw[<-j]at e;have P:(rI ws (eJ p)).i=p.i+1+1+1:=by rw[e];show a.i+1=_;rw[s]
 have B:(rI ws (eJ p)).bad=p.bad:=by rw[e];exact E
 have Q:jI types (rI ws (eJ p))=eN p.names false x (jI types p):=by
  have I:=NQ (types:=types) (ws:=ws) (eJ p);rw[b]at I;have g:jI types (rI ws (eJ p))=jI types a:=by rw[j];rfl
  rw[g,S,I];rfl
 have C:(rI ws (eJ p)).bad<0:=by rw[B];exact n
 have ih:=GT (types:=types) H ws.length ws.length (rI ws (eJ p)) [] N C (by unfold fo;rw[dH C];omega) Te;rw[P]at ih;have a:=(Fe H ws.length (rI ws (eJ p)) [] N).lt
 cases hr:fC (fO ws [125]) (jx ws) ws.length (p.i+1+1+1)with
 |error q=>
  rw[hr]at ih;rw[d7 rfl];have K:(se ws ws.length (rI ws (eJ p)) []).bad=q:=ih;show(fG ws 0 ⟨#[125]⟩ (se ws ws.length (rI ws (eJ p)) [])).bad=q
  rw[fT (by rw[K];omega),K]
 |ok v=>
  obtain⟨l,k⟩:=v;rw[hr]at ih;obtain⟨z,X,Y⟩:=ih;have D:(se ws ws.length (rI ws (eJ p)) []).bad=p.bad:=X.J B;rw[dU rfl];rcases jC 125 (p:=se ws ws.length (rI ws (eJ p)) []) a (by rw[D];exact n)with⟨f,m⟩|⟨q,f,m⟩
  .rw[z]at f;rw[dU f];refine⟨?_,?_,?_,?_,?_,?_⟩;.show(fG ws 0 ⟨#[125]⟩ (se ws ws.length (rI ws (eJ p)) [])).i=_;rw[m];show(se ws ws.length (rI ws (eJ p)) []).i+1=_;rw[z]
   .show(fG ws 0 ⟨#[125]⟩ (se ws ws.length (rI ws (eJ p)) [])).bad=_;rw[m];exact D
   .have V:jI types (BD ws (eJ p))=jI types (se ws ws.length (rI ws (eJ p)) []):=rfl;rw[V,Y,Q];rfl
   .rw[T,b]
   .rw[U];exact(bH _).sy
   .rw[O,b];rfl
  .rw[z]at f;rw[d7 f];exact m
def NT (H:jY ws){p:PS}(b:iC ws p)(c:p.bad<0):P1 types p (sf ws p) (ir ws p.i):=by
 unfold sf ir;rw[kX b.lt];cases h2:((gh ws p).1.toList== [101,110,117,109])
 .simp only[aN,if_false];cases a:((gh ws p).1.toList== [109,101,115,115,97,103,101]);.simp only[aN,if_false];unfold gz;have d:fU ws [109,101,115,115,97,103,101] p.i= .error (gh ws p).2:=(by unfold fU;rw[fZ b.lt];simp only;rw[a];rfl);rw[d7 d];rfl
  .simp only[if_true];exact P4 H b c a
 .have a:((gh ws p).1.toList== [109,101,115,115,97,103,101])=false:=by
   have e:(gh ws p).1.toList= [101,110,117,109]:=by simpa using h2
   rw[e];rfl
  rw[a];simp only[aN,if_false,if_true];exact P6 H b c h2
def It (types:aA):List dS->aA->Nat->Int->Int
 | [],_,_,wr=>wr
 |b::bs,names,m,wr=>It types bs (names++ [b.name.1]) (m+(if b.enum then 0 else 1)) (bE types b names m wr)
def Iu (s:au):(dN s==4)=decide (s.size=0):=by
 unfold dN iP;by_cases h0:s.size=0;.simp[h0]
 .rw[dG h0];split;.simp[h0]
  .split;.simp[h0]
   .split<;>simp[h0]
def Fh (H:jY ws)(hne:∀(k:Nat) (x:W),ws[k]?=some x->k+1<ws.length->0<x.1.size){p:PS}(b:p.i<ws.length):mm ws p.i= !decide (p.i+1<ws.length):=by
 unfold mm;rw[fZ b];simp only;rw[Iu];by_cases h:p.i+1<ws.length;.have:=hne _ _ (fZ b) h;simp[h];intro a;rw[a]at this;exact absurd this Th
 .have:(gh ws p).1.size=0:=by
   rcases Nat.eq_zero_or_pos (gh ws p).1.size with a|a;.exact a
   .exact absurd (H.last _ _ (fZ b) a) h
  simp[h,this]
def P7 (H:jY ws){p:PS}(h:iC ws p)(b:p.i+1<ws.length):iC ws (sf ws p):=by
 have a:=nH h b;unfold sf;split;.exact LC H a
 .split;.exact LH H a
  .exact⟨h.lt,h.used⟩
def BK (bs:List dS):eE:=⟨(bs.filter λb=> !b.enum).map RP,(bs.filter λb=>b.enum).map λb=>b.name.1⟩
def yt (H:jY ws)(hne:∀(k:Nat) (x:W),ws[k]?=some x->k+1<ws.length->0<x.1.size):∀(m n:Nat) (p:PS),iC ws p->p.bad<0->fo ws p<=n->ws.length-p.i<=m->
  match fC (mm ws) (ir ws) m p.i with
  | .ok (bs,_)=>(tz ws n p).bad=p.bad/\jI types (tz ws n p)=It types bs p.names p.msgs.length (jI types p)/\(tz ws n p).names=p.names++eZ bs/\(tz ws n p).msgs=p.msgs++(BK bs).ms/\(tz ws n p).enums=p.enums++(BK bs).es
  | .error q=>(tz ws n p).bad=q
 |0,n,p,ho,hb,hn,hm=>by have:=ho.lt;omega
 |m+1,n,p,ho,hb,hn,hm=>by
  have d:=Fh H hne ho.lt;have A:0<fo ws p:=by unfold fo;rw[dH hb];have:=ho.lt;omega
  unfold fC;cases hs:mm ws p.i
  .rw[hs]at d;have a:p.i+1<ws.length:=by simpa using d
   simp only[aN,if_false];have i:(decide (p.bad<0)&&decide (p.i+1<ws.length))=true:=by simp[hb,a]
   rw[LJ i Te];have c:=NT (types:=types) H ho hb;have B:=DB (ws:=ws) hb a;have l:=P7 H ho a
   cases hf:ir ws p.i with
   |error q=>
    rw[hf]at c;rw[d7 rfl];have h:(sf ws p).bad=q:=c;rw[tA (by rw[nb h];rfl)]
    exact h
   |ok v=>
    obtain⟨b,j⟩:=v;rw[hf]at c;obtain⟨o,e,r,f,g,s⟩:=c;rw[dU rfl]
    have C:p.i<(sf ws p).i:=by
     have:fo ws (sf ws p)=ws.length-(sf ws p).i:=by unfold fo;rw[dH (by rw[e];exact hb)]
     have D:fo ws p=ws.length-p.i:=by unfold fo;rw[dH hb]
     omega
    have ih:=yt H hne m (n-1) (sf ws p) l (by rw[e];exact hb) Te Te;rw[o]at ih
    cases hr:fC (mm ws) (ir ws) m j with
    |error q=>
     rw[hr]at ih;rw[d7 rfl]
     exact ih
    |ok v=>
     obtain⟨bs,k⟩:=v;rw[hr]at ih;obtain⟨t,u,w,y,z⟩:=ih;rw[dU rfl];refine⟨t.J e,?_,?_,?_,?_⟩;.rw[u,r,f,g];show _=It types bs (p.names++ [b.name.1]) (p.msgs.length+(if b.enum then 0 else 1)) (bE types b p.names p.msgs.length (jI types p));cases he:b.enum<;>simp
     .rw[w,f];unfold eZ;simp
     .rw[y,g];unfold BK;cases he:b.enum<;>simp[he]
     .rw[z,s];unfold BK;cases he:b.enum<;>simp[he]
  .rw[hs]at d;have a:¬p.i+1<ws.length:=by simpa using d
   simp only[if_true];rw[tA (by simp[a])];refine⟨rfl,rfl,?_,?_,?_⟩;.exact(bH _).sy
   .exact(bH _).sy
   .exact(bH _).sy
end
section
variable {w:Int} {a:Nat} {types names:aA} {f:ek} {e:ES} {nums:aB} {full:Bool} {x:W}
def gu:Nat->aB->ax
 |lo,[],hi=>lo<=hi
 |lo,a::l,hi=>lo<=a/\gu a l hi
theorem gu.app:∀{l1 l2:aB} {lo mid hi:Nat},gu lo l1 mid->gu mid l2 hi->gu lo (l1++l2) hi
 | [],[],_,_,_,h1,h2=>aL h1 h2
 | [],_::_,_,_,_,h1,h2=>⟨aL h1 h2.1,h2.2⟩
 |_::_,_,_,_,_,h1,h2=>⟨h1.1,gu.app h1.2 h2⟩
theorem gu.low:∀{l:aB} {lo lo' hi:Nat},gu lo l hi->lo'<=lo->gu lo' l hi
 | [],_,_,_,h,h'=>aL h' h
 |_::_,_,_,_,h,h'=>⟨aL h' h.1,h.2⟩
theorem gu.le:∀{l:aB} {lo hi:Nat},gu lo l hi->∀a∈l,lo<=a
 |_::_,_,_,h,a,b=>by
  rcases aR.1 b with rfl|b;.exact h.1
  .exact aL h.1 (gu.le h.2 a b)
theorem gu.tail:∀{l1 l2:aB} {lo hi:Nat},gu lo (l1++l2) hi->gu lo l2 hi
 | [],_,_,_,h=>h
 |_::_,_,_,_,h=>(gu.tail h.2).low h.1
theorem gu.split:∀{l1 l2:aB} {lo hi:Nat},gu lo (l1++l2) hi->∀a∈l1,∀b∈l2,a<=b
 |_::_,_,_,_,h,a,c,b,hb=>by
  rcases aR.1 c with rfl|c;.exact(gu.tail h.2).le b hb
  .exact gu.split h.2 a c b hb
def mT:Option W->aB
 |some k=> [k.2]
 |none=> []
def vD (f:ek):aB:=mT f.key++ [f.type.2,f.name.2,f.num.2]
def zg (p:ft):aB:=mT p.oneof++p.fields.flatMap vD
def GU (v:W×W):aB:= [v.1.2,v.2.2]
def DG (b:dS):aB:=b.name.2::(b.parts.flatMap zg++b.values.flatMap GU)
theorem nI (b:0<=w)(h:w<=a):fA w a=w:=by
 unfold fA;rw[dG Te]
theorem iB {c:Bool}(b:0<=w)(h:w<=a):(if c then fA w a else w)=w:=by
 split;.exact nI b h
 .rfl
theorem NU {o:Option W}(b:0<=w)(h:∀a∈mT o,w<=(a:Nat)):eK o w=w:=by
 cases o with
 |none=>rfl
 |some k=>
  show(if fL (dN k.1) k.1 then w else fA w k.2)=w;split;.rfl
  .exact nI b (h k.2 (by simp[mT]))
theorem NV (b:0<=e.wr)(h:∀a∈vD f,e.wr<=(a:Nat)):(fE types f e).wr=e.wr:=by
 show eV e.nums f.num (eN e.names (decide (12<=e.nums.length)) f.name (eT types f.type (eK f.key e.wr)))=e.wr;rw[NU b (λa g=>h a (by simp[vD,g]))];have c:eT types f.type e.wr=e.wr:=iB b (h f.type.2 (by simp[vD]));have d:eN e.names (decide (12<=e.nums.length)) f.name e.wr=e.wr:=iB b (h f.name.2 (by simp[vD]));rw[c,d];exact iB b (h f.num.2 (by simp[vD]))
theorem qs:∀{fs:List ek} {e:ES},0<=e.wr->(∀a∈fs.flatMap vD,e.wr<=(a:Nat))->(IH types fs e).wr=e.wr
 | [],e,_,_=>rfl
 |f::fs,e,h0,h=>by
  have b:=NV (types:=types) (f:=f) (e:=e) h0 (λa c=>h a (by simp only[aW,aQ];exact .inl c));show(IH types fs (fE types f e)).wr=e.wr;rw[qs (by rw[b];exact h0) (λa c=>by rw[b];exact h a (by simp only[aW,aQ];exact .inr c)),b]
theorem NW {p:ft}(b:0<=e.wr)(h:∀a∈zg p,e.wr<=(a:Nat)):(pE types p e).wr=e.wr:=by
 unfold pE
 cases ho:p.oneof with
 |none=>exact qs b (λa d=>h a (by simp only[zg,aQ];exact .inr d))
 |some o=>
  have c:eN e.names false o e.wr=e.wr:=iB b (h o.2 (by simp[zg,ho,mT]));simp only;rw[qs (by rw[c];exact b) (λa d=>by show eN e.names false o e.wr<=_;rw[c];exact h a (by simp only[zg,aQ];exact .inr d))];exact c
theorem qt:∀{ps:List ft} {e:ES},0<=e.wr->(∀a∈ps.flatMap zg,e.wr<=(a:Nat))->(Mk types ps e).wr=e.wr
 | [],e,_,_=>rfl
 |p::ps,e,h0,h=>by
  have b:=NW (types:=types) (p:=p) (e:=e) h0 (λa c=>h a (by simp only[aW,aQ];exact .inl c));show(Mk types ps (pE types p e)).wr=e.wr;rw[qt (by rw[b];exact h0) (λa c=>by rw[b];exact h a (by simp only[aW,aQ];exact .inr c)),b]
theorem NX {v:W×W}{e:Int×aA}(b:0<=e.1)(h:∀a∈GU v,e.1<=(a:Nat)):(vE v e).1=e.1:=by
 unfold vE;simp only;have c:eN e.2 false v.1 e.1=e.1:=iB b (h v.1.2 (by simp[GU]));rw[c];split;.exact nI b (h v.2.2 (by simp[GU]))
 .rfl
theorem qu:∀{vs:List (W×W)} {e:Int×aA},0<=e.1->(∀a∈vs.flatMap GU,e.1<=(a:Nat))->(Ml vs e).1=e.1
 | [],e,_,_=>rfl
 |v::vs,e,h0,h=>by
  have b:=NX (v:=v) (e:=e) h0 (λa c=>h a (by simp only[aW,aQ];exact .inl c));show(Ml vs (vE v e)).1=e.1;rw[qu (by rw[b];exact h0) (λa c=>by rw[b];exact h a (by simp only[aW,aQ];exact .inr c)),b]
theorem NY {b:dS}{m:Nat}(c:0<=w)(h:∀a∈DG b,w<=(a:Nat)):bE types b names m w=w:=by
 unfold bE;split;.have d:eN names false b.name w=w:=iB c (h b.name.2 (by simp[DG]));rw[d];exact qu (e:=(w,[])) c (λa f=>h a (by simp only[DG,aR,aQ];exact .inr (.inr f)))
 .have d:eN names (decide (6<=m)) b.name w=w:=iB c (h b.name.2 (by simp[DG]));rw[d];exact qt (e:=⟨w,[],[]⟩) c (λa f=>h a (by simp only[DG,aR,aQ];exact .inr (.inl f)))
theorem DH:∀{bs:List dS} {names:aA} {m:Nat} {w:Int},0<=w->(∀a∈bs.flatMap DG,w<=(a:Nat))->It types bs names m w=w
 | [],_,_,_,_,_=>rfl
 |b::bs,names,m,w,h0,h=>by
  have d:=NY (types:=types) (b:=b) (names:=names) (m:=m) h0 (λa c=>h a (by simp only[aW,aQ];exact .inl c));show It types bs _ _ (bE types b names m w)=w;rw[d];exact DH h0 (λa c=>h a (by simp only[aW,aQ];exact .inr c))
theorem mU (h:w<0):fA w a=a:=by
 unfold fA;rw[dH (.inl h)]
structure BL (e:ES)(names:aA)(nums:aB):Prop where
 ename:e.names=names
 enum_:e.nums=nums.map λn:Nat=>(n:Int)
 few:∀n∈nums,n<=536870911
theorem DI (n:Nat):∀nums:aB,tu (nums.map λn:Nat=>(n:Int)) n=yI nums n
 | []=>rfl
 |a::l=>by
  have ih:=DI n l;unfold tu yI at*;simp only[cu,List.any_cons];rw[ih];congr 1;rw[bV];simp;omega
theorem NZ (h:BL e names nums){s:au}(c:oG s):Lv e.nums (iR s)=lD nums (gV s):=by
 unfold Lv lD;rw[c,h.enum_];by_cases h1:gV s<=536870911
 .have a:min (gV s) 1099511627776=gV s:=Te;rw[a,DI,Bool.or_assoc];congr 1;.rw[bV];simp;omega
  .congr 1;rw[bV];simp;omega
 .have a:decide (536870911<((min (gV s) 1099511627776:Nat):Int))=true:=Tg;have b:decide (536870911<gV s)=true:=Tg;rw[a,b];simp
def P8 (f:ek):Prop:=(f.key=none/\(f.form==4)=false)\/(∃k,f.key=some k/\(f.form==4)=true)
structure uX (f:ek):Prop where
 form:P8 f
 num:oG f.num.1
theorem si (a:w<0)(h:(gE names x.1||full)=true):eN names full x w=x.2:=by
 unfold eN;rw[dH h,mU a]
theorem tB (h:(gE names x.1||full)=false):eN names full x w=w:=by
 unfold eN;rw[dG (by rw[h];decide)]
theorem P9 {lo hi:Nat}(i:e.wr<0)(h:BL e names nums)(m:uX f)(t:gu lo (vD f) hi):
  match ld types names nums f with
  | .error p=>(fE types f e).wr=p/\p∈vD f
  | .ok (v,w)=>(fE types f e).wr<0/\BL (fE types f e) v w:=by
 have o:=NZ h m.num;have b:(fE types f e).wr=eV e.nums f.num (eN e.names (decide (12<=e.nums.length)) f.name (eT types f.type (eK f.key e.wr))):=rfl;have hlen:e.nums.length=nums.length:=by rw[h.enum_];simp
 rw[h.ename,hlen]at b;have E:f.type.2∈vD f:=by simp[vD]
 have s:f.name.2∈vD f:=by simp[vD]
 have D:f.num.2∈vD f:=by simp[vD]
 have z:gu lo [f.type.2,f.name.2,f.num.2] hi:=gu.tail (l1:=mT f.key) t;obtain⟨_,H,I,_⟩:=z;unfold ld uy
 have x:(∃k,f.key=some k/\(f.form==4)=true/\fL (dN k.1) k.1=false)\/((f.form==4&& !fL (lO f.key) (jp f.key))=false/\eK f.key e.wr=e.wr):=by
  rcases m.form with⟨a,d⟩|⟨k,a,d⟩;.right;rw[a,d];exact⟨rfl,rfl⟩
  .cases hk:fL (dN k.1) k.1;.exact .inl ⟨k,a,d,hk⟩
   .right;rw[a,d];have:fL (lO (some k)) (jp (some k))=true:=hk;rw[this];refine⟨rfl,?_⟩;show(if fL (dN k.1) k.1 then e.wr else fA e.wr k.2)=e.wr;rw[hk];rfl
 rcases x with⟨k,a,d,r⟩|⟨a,d⟩
 .have q:k.2∈mT f.key:=by rw[a];simp[mT]
  have l:=gu.split (l1:=mT f.key) (l2:= [f.type.2,f.name.2,f.num.2]) t k.2 q;have l1:=l f.type.2 Tf;have l2:=l f.name.2 Tf;have G:=l f.num.2 Tf;have C:(f.form==4&& !fL (lO f.key) (jp f.key))=true:=(by rw[a,d];have:fL (lO (some k)) (jp (some k))=false:=r;rw[this];rfl);rw[dH C];have u:mY f.key=k.2:=by rw[a];rfl
  rw[u];refine⟨?_,by simp only[vD,aQ];exact .inl q⟩;have A:eK f.key e.wr=k.2:=(by rw[a];show(if fL (dN k.1) k.1 then e.wr else fA e.wr k.2)=k.2;rw[r];exact mU i);rw[b,A];have j:eT types f.type (k.2:Int)=k.2:=iB Te Te;have c:eN names (decide (12<=nums.length)) f.name (k.2:Int)=k.2:=iB Te Te;rw[j,c];exact iB Te Te
 .rw[dG (by rw[a];decide)];rw[d]at b;unfold jQ;cases ht1:nj types (dN f.type.1) f.type.1;rotate_left
  .simp only[if_true];refine⟨?_,E⟩;have j:eT types f.type e.wr=f.type.2:=by unfold eT;rw[ht1,dH rfl,mU i]
   have c:eN names (decide (12<=nums.length)) f.name (f.type.2:Int)=f.type.2:=iB Te Te;rw[b,j,c];exact iB Te Te
  simp only[aN,if_false];have j:eT types f.type e.wr=e.wr:=by unfold eT;rw[ht1];rfl
  rw[j]at b;cases hn1:gE names f.name.1;rotate_left;.simp only[if_true];refine⟨?_,s⟩;have c:eN names (decide (12<=nums.length)) f.name e.wr=f.name.2:=si i (by rw[hn1];rfl);rw[b,c];exact iB Te Te
  simp only[aN,if_false];cases hn2:decide (12<=nums.length);rotate_left;.simp only[if_true];refine⟨?_,s⟩;have c:eN names (decide (12<=nums.length)) f.name e.wr=f.name.2:=si i (by rw[hn1,hn2];rfl);rw[b,c];exact iB Te Te
  simp only[aN,if_false];have c:eN names (decide (12<=nums.length)) f.name e.wr=e.wr:=tB (by rw[hn1,hn2];rfl);rw[c]at b;cases hb:lD nums (gV f.num.1);rotate_left;.simp only[if_true];refine⟨?_,D⟩;rw[b];unfold eV;rw[o,hb,dH rfl,mU i]
  simp only[aN,if_false];have B:eV e.nums f.num e.wr=e.wr:=by unfold eV;rw[o,hb];rfl
  rw[B]at b;refine⟨by rw[b];exact i,?_,?_,?_⟩;.show e.names++ [f.name.1]=_;rw[h.ename]
  .show e.nums++ [iR f.num.1]=_;have F:gV f.num.1<=536870911:=(by unfold lD at hb;simp at hb;omega);have y:iR f.num.1=((gV f.num.1:Nat):Int):=(by have:=m.num;unfold oG at this;rw[this];omega);rw[h.enum_,y];simp
  .intro n g;rcases aQ.1 g with g|g;.exact h.few n g
   .simp at g;subst g;unfold lD at hb;simp at hb;omega
end
def gu.ends:∀{l:aB} {lo hi:Nat},gu lo l hi->lo<=hi
 | [],_,_,h=>h
 |_::_,_,_,h=>aL h.1 (gu.ends h.2)
def gu.head:∀{l1 l2:aB} {lo hi:Nat},gu lo (l1++l2) hi->gu lo l1 hi
 | [],_,_,_,h=>gu.ends h
 |_::_,_,_,_,h=>⟨h.1,gu.head h.2⟩
section
variable {types:aA}
def uq:∀{fs:List ek} {e:ES} {names:aA} {nums:aB} {lo hi:Nat},e.wr<0->BL e names nums->(∀f∈fs,uX f)->gu lo (fs.flatMap vD) hi->
  match fX types names nums fs with
  | .error p=>(IH types fs e).wr=p/\p∈fs.flatMap vD
  | .ok (h,i)=>(IH types fs e).wr<0/\BL (IH types fs e) h i
 | [],e,names,nums,lo,hi,hw,hs,_,_=>⟨hw,hs⟩
 |f::fs,e,names,nums,lo,hi,hw,hs,hf,hr=>by
  rw[aW]at hr;have c:=P9 (types:=types) hw hs (hf f Tf) hr.head;unfold fX
  show match(match ld types names nums f with
   | .error p=>Except.error p
   | .ok (n,m)=>fX types n m fs)with
   | .error p=>(IH types fs (fE types f e)).wr=p/\p∈(f::fs).flatMap vD
   | .ok (h,i)=>(IH types fs (fE types f e)).wr<0/\BL (IH types fs (fE types f e)) h i
  cases hc:ld types names nums f with
  |error p=>
   rw[hc]at c;obtain⟨b,d⟩:=c;simp only;refine⟨?_,by rw[aW];exact aQ.2 (.inl d)⟩
   rw[qs (by rw[b];omega) (λa j=>by rw[b];have:=gu.split hr p d a j;omega),b]
  |ok v=>
   obtain⟨n,m⟩:=v;rw[hc]at c;obtain⟨b,d⟩:=c;simp only;have ih:=uq b d (λg k=>hf g (by simp[k])) hr.tail
   cases hd:fX types n m fs with
   |error p=>
    rw[hd]at ih;obtain⟨l,o⟩:=ih
    exact⟨l,by rw[aW];exact aQ.2 (.inr o)⟩
   |ok v=>
    obtain⟨r,q⟩:=v;rw[hd]at ih;exact ih
structure yv (p:ft):Prop where
 one:∀o,p.oneof=some o->dN o.1=1
 fields:∀f∈p.fields,uX f
def N2 {p:ft}{e:ES}{names:aA}{nums:aB}{lo hi:Nat}(g:e.wr<0)(b:BL e names nums)(f:yv p)(k:gu lo (zg p) hi):
  match lE types names nums p with
  | .error q=>(pE types p e).wr=q/\q∈zg p
  | .ok (l,m)=>(pE types p e).wr<0/\BL (pE types p e) l m:=by
 unfold lE pE;have j:gu lo (p.fields.flatMap vD) hi:=gu.tail (l1:=mT p.oneof) k
 cases ho:p.oneof with
 |none=>
  have d:(lO none==1)=false:=rfl;rw[d];simp only[aN,if_false];have ih:=uq (types:=types) g b f.fields j
  cases hd:fX types names nums p.fields with
  |error q=>
   rw[hd]at ih
   exact⟨ih.1,by unfold zg;exact aQ.2 (.inr ih.2)⟩
  |ok v=>
   rw[hd]at ih
   exact ih
 |some o=>
  have d:(lO (some o)==1)=true:=(by show(dN o.1==1)=true;rw[f.one o ho];rfl);rw[d];simp only[if_true];have h:jp (some o)=o.1/\mY (some o)=o.2:=⟨rfl,rfl⟩;rw[h.1,h.2];have i:o.2∈mT p.oneof:=by rw[ho];simp[mT]
  cases hn:gE names o.1
  .simp only[aN,if_false];have c:eN e.names false o e.wr=e.wr:=tB (by rw[b.ename,hn];rfl);have ih:=uq (types:=types) (fs:=p.fields) (e:=⟨eN e.names false o e.wr,e.nums,e.names++ [o.1]⟩) (names:=names++ [o.1]) (nums:=nums) (by rw[c];exact g) ⟨by rw[b.ename],b.enum_,b.few⟩ f.fields j
   cases hd:fX types (names++ [o.1]) nums p.fields with
   |error q=>
    rw[hd]at ih
    exact⟨ih.1,by unfold zg;exact aQ.2 (.inr ih.2)⟩
   |ok v=>
    rw[hd]at ih;exact ih
  .simp only[if_true];have c:eN e.names false o e.wr=o.2:=si g (by rw[b.ename,hn];rfl);refine⟨?_,by unfold zg;exact aQ.2 (.inl i)⟩;rw[qs (e:=⟨eN e.names false o e.wr,e.nums,e.names++ [o.1]⟩) (by show 0<=eN e.names false o e.wr;rw[c];omega) (λa n=>by show eN e.names false o e.wr<=_;rw[c];have:=gu.split (l1:=mT p.oneof) k o.2 i a n;omega)];exact c
def DJ:∀{ps:List ft} {e:ES} {names:aA} {nums:aB} {lo hi:Nat},e.wr<0->BL e names nums->(∀p∈ps,yv p)->gu lo (ps.flatMap zg) hi->
  match gF types names nums ps with
  | .error q=>(Mk types ps e).wr=q/\q∈ps.flatMap zg
  | .ok _=>(Mk types ps e).wr<0
 | [],e,names,nums,lo,hi,hw,hs,_,_=>hw
 |p::ps,e,names,nums,lo,hi,hw,hs,hp,hr=>by
  rw[aW]at hr;have c:=N2 (types:=types) hw hs (hp p Tf) hr.head;unfold gF
  show match(match lE types names nums p with
   | .error q=>Except.error q
   | .ok (n,m)=>gF types n m ps)with
   | .error q=>(Mk types ps (pE types p e)).wr=q/\q∈(p::ps).flatMap zg
   | .ok _=>(Mk types ps (pE types p e)).wr<0
  cases hc:lE types names nums p with
  |error q=>
   rw[hc]at c;obtain⟨b,d⟩:=c;simp only;refine⟨?_,by rw[aW];exact aQ.2 (.inl d)⟩
   rw[qt (by rw[b];omega) (λa f=>by rw[b];have:=gu.split hr q d a f;omega),b]
  |ok v=>
   obtain⟨n,m⟩:=v;rw[hc]at c;obtain⟨b,d⟩:=c;simp only;have ih:=DJ b d (λg h=>hp g (by simp[h])) hr.tail
   cases hd:gF types n m ps with
   |error p=>
    rw[hd]at ih;obtain⟨i,j⟩:=ih
    exact⟨i,by rw[aW];exact aQ.2 (.inr j)⟩
   |ok v=>
    rw[hd]at ih;exact ih
def GV:∀{vs:List (W×W)} {e:Int×aA} {names:aA} {lo hi:Nat},e.1<0->e.2=names->(∀v∈vs,oG v.2.1)->gu lo (vs.flatMap GU) hi->
  match jq names vs with
  | .error q=>(Ml vs e).1=q/\q∈vs.flatMap GU
  | .ok _=>(Ml vs e).1<0
 | [],e,names,lo,hi,hw,hs,_,_=>hw
 |v::vs,e,names,lo,hi,hw,hs,hv,hr=>by
  rw[aW]at hr;unfold jq;have k:(2147483647<iR v.2.1)<->(2147483647<gV v.2.1):=(by have:=hv v Tf;unfold oG at this;rw[this];omega);have i:v.1.2∈GU v:=by simp[GU]
  have j:v.2.2∈GU v:=by simp[GU]
  have l:v.1.2<=v.2.2:=hr.2.1;have b:(vE v e).1=if 2147483647<iR v.2.1 then fA (eN e.2 false v.1 e.1) v.2.2 else eN e.2 false v.1 e.1:=rfl;cases hn:gE names v.1.1
  .simp only[aN,if_false];have f:eN e.2 false v.1 e.1=e.1:=tB (by rw[hs,hn];rfl);rw[f]at b;by_cases hc:2147483647<gV v.2.1
   .have c:decide (2147483647<gV v.2.1)=true:=by simp[hc]
    rw[c];simp only[if_true];rw[dH (k.2 hc),mU hw]at b;refine⟨?_,by rw[aW];exact aQ.2 (.inl j)⟩;show(Ml vs (vE v e)).1=v.2.2;rw[qu (by rw[b];omega) (λa g=>by rw[b];have:=gu.split hr v.2.2 j a g;omega),b]
   .have c:decide (2147483647<gV v.2.1)=false:=by simp[hc]
    rw[c];simp only[aN,if_false];rw[dG (λh=>hc (k.1 h))]at b;have ih:=GV (vs:=vs) (e:=vE v e) (names:=names++ [v.1.1]) (by rw[b];exact hw) (by show e.2++ [v.1.1]=_;rw[hs]) (λu m=>hv u (by simp[m])) hr.tail
    cases c:jq (names++ [v.1.1]) vs with
    |error q=>
     rw[c]at ih
     exact⟨ih.1,by rw[aW];exact aQ.2 (.inr ih.2)⟩
    |ok u=>
     rw[c]at ih;exact ih
  .simp only[if_true];have f:eN e.2 false v.1 e.1=v.1.2:=si hw (by rw[hs,hn];rfl);rw[f]at b
   have d:(vE v e).1=v.1.2:=by
    rw[b];split;.exact nI Te Te
    .rfl
   refine⟨?_,by rw[aW];exact aQ.2 (.inl i)⟩;show(Ml vs (vE v e)).1=v.1.2;rw[qu (by rw[d];omega) (λa g=>by rw[d];have:=gu.split hr v.1.2 i a g;omega),d]
structure DK (b:dS):Prop where
 parts:∀p∈b.parts,yv p
 vals:∀v∈b.values,oG v.2.1
def ur:∀{bs:List dS} {names:aA} {m:Nat} {wr:Int} {lo hi:Nat},wr<0->(∀b∈bs,DK b)->gu lo (bs.flatMap DG) hi->
  match fD types names m bs with
  | .error q=>It types bs names m wr=q
  | .ok _=>It types bs names m wr<0
 | [],names,m,wr,lo,hi,hw,_,_=>hw
 |b::bs,names,m,wr,lo,hi,hw,hb,hr=>by
  rw[aW]at hr;have r:=hb b Tf
  have j:∀(q:Nat) (t:aA) (s:Nat),q∈DG b->bE types b names m wr=q->It types bs t s (bE types b names m wr)=q:=λq t s u w=>by
   rw[w];exact DH Te (λa f=>by have:=gu.split hr q u a f;omega)
  have o:b.name.2∈DG b:=by simp[DG]
  have h:gu b.name.2 (b.parts.flatMap zg++b.values.flatMap GU) hi:=(hr.head).2;unfold fD
  show match(if gE names b.name.1 then Except.error b.name.2 else if b.enum then
    match jq [] b.values with
    | .error p=> .error p
    | .ok _=>fD types (names++ [b.name.1]) m bs
   else if decide (6<m+1)then .error b.name.2
   else
    match gF types [] [] b.parts with
    | .error p=> .error p
    | .ok _=>fD types (names++ [b.name.1]) (m+1) bs)with
   | .error q=>It types bs (names++ [b.name.1]) (m+(if b.enum then 0 else 1)) (bE types b names m wr)=q
   | .ok _=>It types bs (names++ [b.name.1]) (m+(if b.enum then 0 else 1)) (bE types b names m wr)<0
  cases g:gE names b.name.1;rotate_left
  .simp only[if_true];refine j _ _ _ o ?_;unfold bE;split;.have d:eN names false b.name wr=b.name.2:=si hw (by rw[g];rfl);rw[d];exact qu (e:=((b.name.2:Int),[])) Tf (λa f=>by have:=h.le a (aQ.2 (.inr f));simp only;omega)
   .have d:eN names (decide (6<=m)) b.name wr=b.name.2:=si hw (by rw[g];rfl);rw[d];exact qt (e:=⟨(b.name.2:Int),[],[]⟩) Tf (λa f=>by have:=h.le a (aQ.2 (.inl f));simp only;omega)
  simp only[aN,if_false];cases he:b.enum
  .simp only[aN,if_false];cases h6:decide (6<m+1)
   .simp only[aN,if_false];have k:decide (6<=m)=false:=by have:=of_decide_eq_false h6;simp;omega
    have d:eN names (decide (6<=m)) b.name wr=wr:=tB (by rw[g,k];rfl);have i:bE types b names m wr=(Mk types b.parts ⟨wr,[],[]⟩).wr:=(by unfold bE;rw[he,d];rfl);have ih:=DJ (types:=types) (ps:=b.parts) (e:=⟨wr,[],[]⟩) (names:= []) (nums:= []) hw ⟨rfl,rfl,λn g=>by simp at g⟩ r.parts h.head
    cases hd:gF types [] [] b.parts with
    |error q=>
     rw[hd]at ih;simp only;refine j _ _ _ ?_ (by rw[i];exact ih.1);simp only[DG,aR,aQ]
     exact .inr (.inl ih.2)
    |ok v=>
     rw[hd]at ih;simp only;exact ur (by rw[i];exact ih) (λc l=>hb c (by simp[l])) hr.tail
   .simp only[if_true];have k:decide (6<=m)=true:=by have:=dI h6;simp;omega
    refine j _ _ _ o ?_;have d:eN names (decide (6<=m)) b.name wr=b.name.2:=si hw (by rw[g,k];rfl);unfold bE;rw[he,d];exact qt (e:=⟨(b.name.2:Int),[],[]⟩) Tf (λa f=>by have:=h.le a (aQ.2 (.inl f));simp only;omega)
  .simp only[if_true];have d:eN names false b.name wr=wr:=tB (by rw[g];rfl);have i:bE types b names m wr=(Ml b.values (wr,[])).1:=(by unfold bE;rw[he,d];rfl);have ih:=GV (vs:=b.values) (e:=(wr,[])) (names:= []) hw rfl r.vals h.tail
   cases hd:jq [] b.values with
   |error q=>
    rw[hd]at ih;simp only;refine j _ _ _ ?_ (by rw[i];exact ih.1);simp only[DG,aR,aQ]
    exact .inr (.inr ih.2)
   |ok v=>
    rw[hd]at ih;simp only;exact ur (by rw[i];exact ih) (λc l=>hb c (by simp[l])) hr.tail
end
end Go.Proofs.YtfebdimolnobaaaGreatDoor
