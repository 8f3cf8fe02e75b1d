import Derived.Test.YtfebdimolnobaaaGreatDoorItE
import Derived.Test.YtfebdimolnobaaaGreatDoorPlI
import Derived.Defers
import Derived.Recover
set_option maxRecDepth 100000
set_option maxHeartbeats 8000000
set_option linter.all false
namespace Go.Proofs.YtfebdimolnobaaaGreatDoor
open Go.RowKit Go.Proofs.Tryz
section
variable {bs:List d9} {t:au}
theorem FR {ws:List W}{j:Nat}(h:p9 ws= .ok (bs,j)):∀b∈bs,dX b.name.1=1:=by
 refine oJ (Q:=λb=>dX b.name.1=1) (λi b j a=> ?_) _ _ _ _ h;unfold jV at a;split at a;.unfold lX at a;have⟨_,d,_,a⟩:=d8 a;have⟨n,e,c,a⟩:=d8 a;have⟨_,f,_,a⟩:=d8 a;have⟨l,g,_,a⟩:=d8 a;have⟨_,k,_,a⟩:=d8 a;simp at a;obtain⟨rfl,_⟩:=a;exact(iS _ _ _ _ _ c).2.2
 .unfold ij at a;have⟨_,d,_,a⟩:=d8 a;have⟨n,e,c,a⟩:=d8 a;have⟨_,f,_,a⟩:=d8 a;have⟨l,g,_,a⟩:=d8 a;have⟨_,k,_,a⟩:=d8 a;simp at a;obtain⟨rfl,_⟩:=a;exact(iS _ _ _ _ _ c).2.2
structure ki (bs:List d9):Prop where
 ok:DH bs
 nm:∀b∈bs,dX b.name.1=1
 ones:∀b∈bs,b.enum=false->(ix b.parts).Pairwise (λx y=>x.toList≠y.toList)
theorem DW (h:iU t= .ok bs):ki bs:=by
 refine⟨r9 h,?_,λb c d=>Fq h c d⟩;unfold iU at h;split at h;.cases h
 .split at h;.cases h
  .rename_i a;split at h;.cases h
   .cases h;exact FR a
theorem sr {s:au}(h:s.toList=t.toList):dX s=dX t:=by rw[jJ h]
theorem tA (h:ki bs)(a:dX t=3):(er bs).msg t=none:=by
 refine qm λb c e=> ?_
 have:=h.nm b (bA.1 c).1;rw[sr e,a]at this;omega
theorem Hn (a:dX t=3):ol t<=14:=by
 unfold ol;have b:t.toList∈m9:=by have:=nj a;simpa [jK]using this
 generalize t.toList=l at b
 revert l;decide+kernel
theorem uH (h:ki bs){z:List (au×Nat)}(a:z.map (·.1)=el bs)(c:dX t=3\/(dX t=1/\fk (fL bs) t=true)):(er bs).base t=16<->((er bs).msg t).isSome=true:=by
 rw[wE h.ok a c];unfold jC;by_cases h3:dX t=3;.rw[dR h3,tA h h3];have:=Hn h3;simp;omega
 .rw[dQ h3]
  cases hm:fk (el bs) t with
  |true=>
   have⟨_,_,_,_,b,_,e⟩:=qo h.ok a hm
   simp_all
  |false=>
   have⟨d,b⟩:=xI a hm;simp_all
theorem DX (a:dX t=3):iM (ol t)=fk jp t:=by
 have b:t.toList∈m9:=by have:=nj a;simpa [jK]using this
 have e:fk jp t=fk jp ⟨t.toList.toArray⟩:=(by unfold fk;rw[ByteArray.toList_eq,ByteArray.toList_eq]);unfold ol;rw[e];generalize t.toList=l at b
 revert l;decide+kernel
end
def Cg {s t:au}(b:gh t 0≠46):gQ (oL s) t=false:=by
 cases h:gQ (oL s) t with
 |false=>rfl
 |true=>
  have a:=Aq s;rw[jJ (gR.1 h)]at a;unfold i9 at a;simp_all
def uI {p:fK}(i:ut p){f:eW}(c:f∈p.fields):
  (f.form=0\/f.form=1\/f.form=2\/f.form=3\/f.form=4)/\(ic p.oneof f).isMap=decide (f.form=4)/\(ic p.oneof f).isRep=decide (f.form=2)/\gQ (ic p.oneof f).how eS=decide (f.form=0)/\(f.form≠3->qf p f= []):=by
 rcases i.2 with⟨o,a,_,b⟩|⟨a,g,h,b⟩
 .have e:=b f c;have d:(ic p.oneof f).how=oL o.1:=by show rI p.oneof f.form=_;rw[a];rfl
  unfold fw.isMap fw.isRep;rw[d,e,Cg Vz,Cg Vz,Cg Vz];simp
 .rw[h]at c;obtain rfl:=ba.1 c;have d:(ic p.oneof f).how=rI none f.form:=by show rI p.oneof f.form=_;rw[a]
  have j:qf p f= []:=by unfold qf;simp_all
  unfold fw.isMap fw.isRep;rw[d,j];rcases b with e|e|e|e<;>rw[e]
  .exact⟨.inl rfl,Vz,Vz,Vz,λ_=>rfl⟩
  .exact⟨.inr (.inl rfl),Vz,Vz,Vz,λ_=>rfl⟩
  .exact⟨.inr (.inr (.inl rfl)),Vz,Vz,Vz,λ_=>rfl⟩
  .exact⟨.inr (.inr (.inr (.inr rfl))),Vz,Vz,Vz,λ_=>rfl⟩
def yj {b:d9}:∀{ps:List fK},∀p∈ps,p.fields.length<=mN ps
 | [],p,h=>by cases h
 |q::ps,p,h=>by
  rw[mN];rcases aR.1 h with rfl|h;.omega
  .have:=yj (b:=b) p h;omega
def yk {bs:List d9}(h:ki bs){b:d9}(g:b∈bs)(k:b.enum=false){p:fK}(j:p∈b.parts){f:eW}(i:f∈p.fields)(a:f.form=4):dX (jM f.key)=3/\im 3 (jM f.key)=true:=by
 have c:=(h.ok.chk b g k).flds p j f i;have s:=(h.ok.shape b g p j).1 f i;have d:=c.key a;have e:=c.kg a;have⟨x,l⟩:=co.1 (s.key.1 a);rw[d]at e;rw[l]at d e⊢;exact⟨d,e⟩
def Qb {bs:List d9}(h:ki bs){b:d9}(a:b∈bs)(g:b.enum=false){p:fK}(e:p∈b.parts){f:eW}(d:f∈p.fields):dX f.type.1=3\/(dX f.type.1=1/\fk (fL bs) f.type.1=true):=by
 have c:=(h.ok.chk b a g).flds p e f d;have s:=(h.ok.shape b a p e).1 f d;exact s.kind.imp id (λq=>⟨q,c.ty q⟩)
def Lr {bs:List d9}(h:ki bs){z:List (au×Nat)}(i:z.map (·.1)=el bs){b:d9}(a:b∈bs)(g:b.enum=false){p:fK}(c:p∈b.parts){f:eW}(e:f∈p.fields):
  FG (er bs) (mR z) (me b) (ic p.oneof f) (sP p f):=by
 have⟨l,m,n,q,r⟩:=uI (h.ok.shape b a p c) e;have j:=Qb h a g c e;refine⟨rfl,l,m,n,q,(QQ (h.ones b a g) (h.ok.shape b a) c e).sy,r,?_,(wE h.ok i j).sy,uH h i j,λs=> ?_⟩;.show(qf p f).length<=_;unfold qf;rw[bO];have v:=bZ (λo=>decide (jE o≠jE f)) p.fields;have w:=yj (b:=b) p c;have x:=(h.ok.ok b a).parts;omega
 .have⟨d,y⟩:=yk h a g c e s;have k:=wE h.ok i (t:=jM f.key) (.inl d);have u:jC (mR z) (jM f.key)=ol (jM f.key):=by unfold jC;rw[dR d]
  show jC (mR z) (jM f.key)=(er bs).base (jM f.key)/\(er bs).base (jM f.key)<=14/\(er bs).msg (jM f.key)=none/\iM ((er bs).base (jM f.key))=fk jp (jM f.key);rw[k,u];exact⟨rfl,Hn d,tA h d,DX d⟩
def I8 {gs:List GF}(a:(gs.map λg=>g.f.num).Nodup){g:GF}(b:g∈gs){n:Int}(c:g.f.num=n):iL gs n=some g:=by
 induction gs with
 |nil=>cases b
 |cons x l ih=>
  rw[bC,List.nodup_cons]at a;rw[iL];grind
def Ls {gs:List GF}{n:Int}(h:∀g∈gs,g.f.num≠n):iL gs n=none:=by
 induction gs with
 |nil=>rfl
 |cons x l ih=>
  rw[iL,dQ (h x aZ)];simp_all
def yn {n:Int}:∀{fs:List fw} {f:fw},ed fs n=some f->f∈fs/\f.num=n
 | [],f,h=>by cases h
 |x::l,f,h=>by
  rw[ed]at h;split at h;.simp_all
  .have⟨a,b⟩:=yn h;simp_all
def AE {n:Int}:∀{fs:List fw},ed fs n=none->∀f∈fs,f.num≠n
 | [],_,f,a=>by cases a
 |x::l,h,f,a=>by
  rw[ed]at h;split at h;.cases h
  .rename_i e;rcases aR.1 a with rfl|a;.exact e
   .exact AE h f a
def Ho {b:d9}{g:GF}:g∈vx b<->∃p∈b.parts,∃f∈p.fields,g=sP p f:=by
 unfold vx;grind
def uJ {b:d9}{f:fw}:f∈(me b).fs<->∃p∈b.parts,∃g∈p.fields,f=ic p.oneof g:=by
 show f∈(b.parts.flatMap λp=>p.fields.map (ic p.oneof))<->_;grind
def Lt (b:d9):(vx b).map (λg=>g.f.num)=(b.parts.flatMap (λp=>p.fields.map (λf=>jd f.num.1))).map (λn:Nat=>(n:Int)):=by
 unfold vx;rw[List.map_flatMap,List.map_flatMap];congr 1;funext p;rw[bM,bM];rfl
def SK {bs:List d9}(h:ki bs){z:List (au×Nat)}(v:z.map (·.1)=el bs){b:d9}(i:b∈bs)(q:b.enum=false){gs:List GF}(c:Tx b gs):lJ (er bs) (mR z) (me b) gs:=by
 have o:(gs.map λg=>g.f.num).Nodup:=(by rw[(c.1.map _).nodup_iff,Lt];exact List.Pairwise.map _ (λa b r e=>r Vv) (h.ok.chk b i q).nums);refine⟨c.2,?_,λn k=>Ls λg s e=> ?_,λn f j=> ?_⟩;.rw[c.1.length_eq];have t:=sS b.parts;have w:=(h.ok.ok b i).parts;have x:(vx b).length<=mN b.parts:=t;omega
 .obtain⟨p,d,f,j,rfl⟩:=Ho.1 (c.1.mem_iff.1 s);exact AE k (ic p.oneof f) (uJ.2 ⟨p,d,f,j,rfl⟩) e
 .have⟨u,k⟩:=yn j;obtain⟨p,d,m,l,rfl⟩:=uJ.1 u;exact⟨sP p m,I8 o (c.1.mem_iff.2 (Ho.2 ⟨p,d,m,l,rfl⟩)) k,Lr h v i q d l⟩
section
open Go.Maps
open VH
def mG (w:aw)(R:Fx PM)(e:Ending)(w':aw):Prop:=
 match R with
 | .error x=>e=d5 x.1 x.2/\ak w w'
 | .ok m=>∃v Z',e= .returned (.agg #[v,ag m.unk])/\qy 9 w' v m Z'/\(∀b,Z' b->w.heap.size<=b/\b<w'.heap.size)/\ak w w'
def eU.belowW {w w':aw}{Z Z':ax}{rb:Nat}(h:eU w Z rb w' Z'){n:Nat}(c:n<=w.heap.size)(a:∀x,Z x->n<=x)(d:n<=rb):Below n w w':=
 ⟨h.os,h.tape,h.output,h.size,λi b=>h.block i (aI b c) (λq=>by have:=a i q;omega) Vv⟩
def F9 (S:eF)(mp:an)(B:Nat)(b:au)(X:Fj S)(k:b.size<=1800000000000)(w:aw)(d:MT)(mb:Nat)(gs:List GF)(nm:au)(K:tz w B S mp)(W:jk w (λb=>b<B) mp mb nm gs)
  (U:lJ S mp d gs) (r:mj S d):
  Calls prog 47 #[ah mb,ag b] w (mG w (eY S b (b.size+1) d PM.none 0 b.size 1)):=by
 have m:b.extract 0 b.size=b:=Vw;have R:=K.le;have u:ak w (w.Vn #[ai,Vp] 49):=(Below.refl _ _).alloc (aE _) _;have y:=u.alloc Vw (am #[ai,ai] 183);have c:=y.alloc Vx (am #[ag b,aa 0,aa 1] 244);have P:=((dZ.new w #[ai,Vp] 49).alloc (am #[ai,ai] 183)).alloc (am #[ag b,aa 0,aa 1] 244);have O:=(dZ.newAt (w:=w.alloc (am #[ai,Vp] 49)) (n:=w.heap.size+1) Vw #[ai,ai] 183).alloc (am #[ag b,aa 0,aa 1] 244);have Q:=dZ.newAt (w:=(w.alloc (am #[ai,Vp] 49)).alloc (am #[ai,ai] 183)) (n:=w.heap.size+1+1) Vw #[ag b,aa 0,aa 1] 244;have g:=Ks ((w.Vn #[ai,Vp] 49).Vn #[ai,ai] 183) b;simp only[ci]at g;go_in
 go_wp2_with fail;refine g.V ?_;rintro e w' ⟨rfl,rfl⟩;have Z:w.heap.size+3=(((w.alloc (am #[ai,Vp] 49)).alloc (am #[ai,ai] 183)).alloc (am #[ag b,aa 0,aa 1] 244)).heap.size:=Vw;clear g u y;go_wp2_with fail;generalize(((w.alloc (am #[ai,Vp] 49)).alloc (am #[ai,ai] 183)).alloc (am #[ag b,aa 0,aa 1] 244))=w3 at*;have z:Below B w w3:=⟨c.os,c.tape,c.output,c.size,λi Y=>c.block i (aI Y R)⟩
 have C:=zZ S mp B b X k (b.size+1) w3 (λx=>x=w.heap.size+1) d PM.none 0 b.size 1 7 mb gs nm (w.heap.size+1+1) (w.heap.size+1) (K.on z) (W.O (λx q _=>z.block x q)) U r (by rw[m];exact Q) (eQ.fresh O)
  (λx a=>by subst a;omega) Vv Vv (aP _) (aE _) Vv rfl (WM.none _ _ _)
 refine C.V ?_;intro e s M;rcases M.part with⟨x,J,rfl,I,f⟩|⟨o,J,rfl,I,f,l⟩;.unfold d5;go_wp2;exact⟨rfl,rfl,c.J (f.belowW Vv (λx a=>Vv) Vv)⟩
 .have N:ak w s:=c.J (f.belowW Vv (λx a=>Vv) Vv);have D:dZ s w.heap.size #[ai,Vp] 49:=(f.block w.heap.size Vv Vv Vv).J P;have c:=f.size;have V:=f.grow;clear C M f;go_wp2_with fail;refine(yA (S:=S) 8 (some d) s I (w.heap.size+1) o l).V ?_;rintro e t ⟨v,j,rfl,L,G,H⟩;obtain⟨c,e,rfl⟩:=L.form;have E:=D.G H D.lt;have⟨f,g⟩:=E.I
  have A:∀x,j x->w.heap.size<x:=λx a=>by
   rcases(G x a).2 with h|h
   .rcases V x h with h|h;.omega
    .omega
   .omega
  go_wp2
  have T:∀x,j x->x<t.heap.size->((t.setCell (aj w.heap.size 0) (.slice c o.fs.length e)).setCell (aj w.heap.size 1) (ag o.unk)).heap[x]?=t.heap[x]?:=λx a _=>by
   have F:w.heap.size≠x:=by have:=A x a;omega
   rw[dY,dQ F,dY,dQ F]
  rw[J];refine dU (ew results47 _ _ rfl ((E.set 0 _).set 1 _) underlying49 VA) rfl ⟨_,j,rfl,L.O T,λx a=>⟨cA (A x a),by simp only[cE];exact(G x a).1⟩,?_⟩;exact((dW N H).setCell (p:=(aj w.heap.size 0)) (aE _) _).setCell (p:=(aj w.heap.size 1)) (aE _) _
end
section
def _root_.Go.CallsD.V:=@Go.CallsD.mono
open Go.Maps
def fW.O {w w':aw}{P:ax}{v:Value}{bs:List d9}{y:List YM}(a:∀b,P b->b<w.heap.size->w'.heap[b]?=w.heap[b]?)(h:fW w P v bs y):fW w' P v bs y:=
 ⟨h.row.O a,h.names,λm c=>(h.msg m c).O a,h.g⟩
def fW.V {w:aw}{P Q:ax}{v:Value}{bs:List d9}{y:List YM}(a:∀b,P b->b<w.heap.size->Q b)(h:fW w P v bs y):fW w Q v bs y:=
 ⟨h.row.V a,h.names,λm c=>(h.msg m c).V a,h.g⟩
def Eg (w:aw)(sb kp mk:Nat)(bs:List d9)(lo:Nat):Prop:=
 ∃v y,dZ w sb #[v,ah kp] 92/\(lo<=sb/\lo<=kp/\lo<=mk/\sb≠kp/\sb≠mk/\mk≠kp)/\fW w (λb=>lo<=b/\b≠sb/\b≠kp/\b≠mk) v bs y/\LO w kp mk 0 (λ_=>none)
def OT (w:aw)(r:Except (Int×Nat) (List d9))(e:Ending)(w':aw):Prop:=
 (match r with
 | .error (k,p)=>e=d5 k p
 | .ok bs=>∃sb kp mk,e= .returned (ah sb)/\Eg w' sb kp mk bs w.heap.size)/\ak w w'
def Ss (w:aw)(tb:Nat)(t:au)(i:t.size<=2^47)(P:w.cell? (aj tb 0)=some (ag t))(s:GOK w)(g:BOK w):
  Calls prog 34 #[ah tb] w (OT w (iU t)):=by
 generalize hr:iU t=r;have u:Hid (iU t=r):=hr;clear hr;go_in
 go_wp2_with fail;refine(U2 _ t i s).V ?_
 cases h:iU t with
 |error q=>
  obtain⟨k,p⟩:=q;rintro e w2 ⟨L,d⟩;obtain rfl:e=d5 k p:=L;obtain rfl:r= .error (k,p):=u.o.sy.J h;unfold d5;go_wp2
  exact⟨rfl,rfl,d⟩
 |ok bs=>
  rintro e w2 ⟨⟨a,n,c,cs,rfl,z,H⟩,d⟩;have E:=r9 h;obtain rfl:n=bs.length:=fj z.1;obtain rfl:r= .ok bs:=u.o.sy.J h;go_wp2_with fail;refine(Ot w2 a c bs cs _ z H E (s.O (d.block _ s.lt)) (g.O (d.block _ g.lt))).V ?_;rintro e w3 ⟨v,y,rfl,B,I⟩;obtain⟨R,T,S,rfl⟩:=d7 B.row.1;have o:=eT d I;go_wp2_with fail;refine(Jc w3).V ?_;rintro e l ⟨D,mk,rfl,j,M,N,F,A⟩;have m:=eT o A;have V:=o.size;have U:=d.size;have W:=j.1.lt;have O:=j.2.lt;go_wp2;go_ret;refine⟨⟨l.heap.size,D,mk,rfl,_,y,dZ.new l _ _,⟨m.size,Vv,Vv,Vv,Vv,F⟩,?_,(j.1.alloc _),j.2.O (Below.l _ _ _ O)⟩,m.alloc m.size _⟩;have G:=B.V (Q:=λb=>w.heap.size<=b/\b<w3.heap.size) (λx C f=>⟨Vv,f⟩);have J:=G.O (w':=l) (λx _ f=>A.block x f);have K:=J.V (Q:=λb=>w.heap.size<=b/\b≠l.heap.size/\b≠D/\b≠mk) (λx C f=>⟨C.1,Vv,Vv,Vv⟩);exact K.O (λx _ f=>Below.l _ _ _ f)
def Q3 (k p:Int)(w:aw):(Instr.typeAssert (.iface 142 (.agg #[aa k,aa p])) 20 142 true).run prog w= .ok (.tuple #[.agg #[aa k,aa p],.bool true]) w:=VA
def AK (x y v:Value): #[x,y]++(((Array.replicate 18 undef).setIfInBounds 3 v).setIfInBounds 0 v)= #[x,y,v,undef,undef,v,undef,undef,undef,undef,undef,undef,undef,undef,undef,undef,undef,undef,undef,undef]:=VA
def LP (a b:Addr)(w:aw):
  CallsD prog 65 #[.pointer (some a),.pointer (some b)] .returning w λe u' w'=>e= .returned (.tuple #[])/\u'= .returning/\w'=w:=by
 refine callsD_of_wpS func65 rfl λc cs d=> ?_
 apply wpS_seq;apply wpS_region;simp[wpOpsS,go_sem,recoverD,d,ntmps65,Exit.thenS];refine wpS_of_wp ?_;rw[AK];go_wp2;cases c;simp_all [bodyPostS,results,results65]
def Ga (ab bb:Nat)(k p:Int)(older:List PanicEntry)(w:aw)(x y:Value)(f:w.cell? (aj ab 0)=some x)(g:w.cell? (aj bb 0)=some y)(m:w.frozen? (aj ab 0)=false)(n:w.frozen? (aj bb 0)=false)(a:¬ab=bb):
  CallsD prog 65 #[ah ab,ah bb] (.panicking ({v:= .iface 142 (.agg #[aa k,aa p]),recovered:=false}::older)) w λe u' w'=>
   e= .returned (.tuple #[])/\u'= .panicking ({v:= .iface 142 (.agg #[aa k,aa p]),recovered:=true}::older)/\
    w'=(((w.setCell (aj ab 0) (aa k)).setCell (aj bb 0) (aa p)).alloc (am #[aa k,aa p] 142)).drew:=by
 have i:=Q3 k p;have c:=aV _ _ f;have d:=aV _ _ g;simp only at c d;have⟨o,q,r,s⟩:=gW (w:=w) (b:=ab) c;have⟨s1,s2,t,u⟩:=gW (w:=w) (b:=bb) d;have h:¬bb=ab:=λe=>a e.sy
 refine callsD_of_wpS func65 rfl λl cs j=> ?_
 apply wpS_seq;apply wpS_region;simp[wpOpsS,go_sem,recoverD,j,ntmps65,Exit.thenS];refine wpS_of_wp ?_;rw[AK];go_wp2;go_region
 exact⟨rfl,_,rfl,.tuple #[],by simp[results,results65],rfl,rfl,rfl⟩
def Eh (w:aw)(r:Except (Int×Nat) (List d9))(e:Ending)(w':aw):Prop:=
 (match r with
 | .error (k,p)=>e= .returned (.tuple #[.pointer none,aa k,aa p])
 | .ok bs=>∃sb kp mk,e= .returned (.tuple #[ah sb,aa 0,aa 0])/\Eg w' sb kp mk bs w.heap.size)/\ak w w'
def St (w:aw)(tb:Nat)(t:au)(m:t.size<=2^47)(H:w.cell? (aj tb 0)=some (ag t))(K:GOK w)(j:BOK w):
  Vq 33 #[.func (Fn.func 34) #[] #[ah tb]] w (Eh w (iU t)):=by
 have a:= @wA;generalize hr:iU t=r;have E:Hid (iU t=r):=hr;clear hr;have P:=aV _ _ H;have a:=((Vs w).alloc (aE _) (am #[aa 0] 24)).alloc Vw (am #[aa 0] 3);go_enter_defers func33,ntmps33
 have R:((w.Vn #[aa 0] 24).Vn #[aa 0] 3).cell? (aj tb 0)=some (ag t):=(a.cell (p:=(aj tb 0)) P).J H;have S:GOK ((w.Vn #[aa 0] 24).Vn #[aa 0] 3):=K.O (a.block _ K.lt);have N:BOK ((w.Vn #[aa 0] 24).Vn #[aa 0] 3):=j.O (a.block _ j.lt);have z:=(dZ.new w #[aa 0] 24).alloc (am #[aa 0] 3);have A:dZ ((w.Vn #[aa 0] 24).Vn #[aa 0] 3) (w.heap.size+1) #[aa 0] 3:=(by have:=dZ.new (w.Vn #[aa 0] 24) #[aa 0] 3;simpa using this);go_wp2_with fail;refine(Ss _ tb t m R S N).V ?_
 cases h:iU t with
 |error q=>
  obtain⟨k,p⟩:=q;rintro e w2 ⟨b,g⟩;obtain rfl:e=d5 k p:=b;obtain rfl:r= .error (k,p):=E.o.sy.J h;have i:=z.G g z.lt;have d:=A.G g A.lt;have C:=a.J (g.V a.size);have⟨G,I⟩:=i.I;have⟨J,L⟩:=d.I;have j:=d.lt;unfold d5;refine leaves_cons (f:=65) (args:= #[ah w.heap.size,ah (w.heap.size+1)]) Vw (by simp[go_sem]) ?_;refine(Ga w.heap.size (w.heap.size+1) k p [] w2 _ _ (G 0) (J 0) (I 0) (L 0) Vv).V ?_;rintro e b M ⟨rfl,rfl,rfl⟩;have o:=(((i.set 0 (aa k)).other (c:=w.heap.size+1) 0 (aa p) Vv).alloc (am #[aa k,aa p] 142)).cell 0;have s:=(((d.other (c:=w.heap.size) 0 (aa k) Vv).set 0 (aa p)).alloc (am #[aa k,aa p] 142)).cell 0;have D:ak w (((w2.setCell (aj w.heap.size 0) (aa k)).setCell (aj (w.heap.size+1) 0) (aa p)).alloc (am #[aa k,aa p] 142)).drew:=(((C.setCell (p:=(aj w.heap.size 0)) (aE _) (aa k)).setCell (p:=(aj (w.heap.size+1) 0)) (bH _) (aa p)).alloc (by simp[World.setCell];omega) _).drew;simp at o s;simp[Leaves,settle,results,results33,go_sem,o,s]
  exact⟨rfl,D⟩
 |ok bs=>
  rintro e w2 ⟨⟨u,n,mk,rfl,O⟩,g⟩;obtain rfl:r= .ok bs:=E.o.sy.J h;have i:=z.G g z.lt;have d:=A.G g A.lt;have C:=a.J (g.V a.size);have⟨G,I⟩:=i.I;have⟨J,L⟩:=d.I;have j:=d.lt;go_wp2;refine leaves_cons (f:=65) (args:= #[ah w.heap.size,ah (w.heap.size+1)]) Vw (by simp[go_sem]) ?_;refine(LP (aj w.heap.size 0) (aj (w.heap.size+1) 0) _).V ?_;rintro e b M ⟨rfl,rfl,rfl⟩;have o:=((i.set 0 (aa 0)).other (c:=w.heap.size+1) 0 (aa 0) Vv).cell 0;have s:=((d.other (c:=w.heap.size) 0 (aa 0) Vv).set 0 (aa 0)).cell 0;have D:ak w ((w2.setCell (aj w.heap.size 0) (aa 0)).setCell (aj (w.heap.size+1) 0) (aa 0)):=(C.setCell (p:=(aj w.heap.size 0)) (aE _) (aa 0)).setCell (p:=(aj (w.heap.size+1) 0)) (bH _) (aa 0)
  have T:Eg ((w2.setCell (aj w.heap.size 0) (aa 0)).setCell (aj (w.heap.size+1) 0) (aa 0)) u n mk bs w.heap.size:=by
   obtain⟨v,y,Z,⟨a,b,c,d,e,f⟩,g,F⟩:=O;have U:w.heap.size+2<=u:=by simpa using a
   have V:w.heap.size+2<=n:=by simpa using b
   have W:w.heap.size+2<=mk:=by simpa using c
   have B:∀x,w.heap.size+2<=x->((w2.setCell (aj w.heap.size 0) (aa 0)).setCell (aj (w.heap.size+1) 0) (aa 0)).heap[x]?=w2.heap[x]?:=λx l=>by rw[dY,dQ Vv,dY,dQ Vv]
   have X:=g.O (w':=((w2.setCell (aj w.heap.size 0) (aa 0)).setCell (aj (w.heap.size+1) 0) (aa 0))) (λx l _=>B x (by simpa using l.1))
   have Y:=X.V (Q:=λb=>w.heap.size<=b/\b≠u/\b≠n/\b≠mk) (λx l _=>by
    have a:w.heap.size+2<=x:=by simpa using l.1
    exact⟨Vv,l.2⟩)
   exact⟨v,y,(B u U).J Z,⟨Vv,Vv,Vv,d,e,f⟩,Y,(B n V).J F.1,F.2.O (B mk W)⟩
  simp at o s;simp[Leaves,settle,results,results33,go_sem,o,s];exact⟨⟨u,n,mk,rfl,T⟩,D⟩
end
section
open Go.Maps
open VH
def H6 (w:aw)(R:Fx PM)(e:Ending)(w':aw):Prop:=
 match R with
 | .error x=>e= .returned (.tuple #[.agg #[ai,Vp],aa x.1,aa x.2])/\ak w w'
 | .ok m=>∃v Z',e= .returned (.tuple #[.agg #[v,ag m.unk],aa 0,aa 0])/\qy 9 w' v m Z'/\(∀b,Z' b->w.heap.size<=b/\b<w'.heap.size)/\ak w w'
def OU (a b:Addr)(w:aw):
  CallsD prog 82 #[.pointer (some a),.pointer (some b)] .returning w λe u' w'=>e= .returned (.tuple #[])/\u'= .returning/\w'=w:=by
 refine callsD_of_wpS func82 rfl λc cs d=> ?_
 apply wpS_seq;apply wpS_region;simp[wpOpsS,go_sem,recoverD,d,ntmps82,Exit.thenS];refine wpS_of_wp ?_;rw[AK];go_wp2;cases c;simp_all [bodyPostS,results,results82]
def Jd (ab bb:Nat)(k p:Int)(older:List PanicEntry)(w:aw)(x y:Value)(f:w.cell? (aj ab 0)=some x)(g:w.cell? (aj bb 0)=some y)(m:w.frozen? (aj ab 0)=false)(n:w.frozen? (aj bb 0)=false)(a:¬ab=bb):
  CallsD prog 82 #[ah ab,ah bb] (.panicking ({v:= .iface 142 (.agg #[aa k,aa p]),recovered:=false}::older)) w λe u' w'=>
   e= .returned (.tuple #[])/\u'= .panicking ({v:= .iface 142 (.agg #[aa k,aa p]),recovered:=true}::older)/\
    w'=(((w.setCell (aj ab 0) (aa k)).setCell (aj bb 0) (aa p)).alloc (am #[aa k,aa p] 142)).drew:=by
 have i:=Q3 k p;have c:=aV _ _ f;have d:=aV _ _ g;simp only at c d;have⟨o,q,r,s⟩:=gW (w:=w) (b:=ab) c;have⟨s1,s2,t,u⟩:=gW (w:=w) (b:=bb) d;have h:¬bb=ab:=λe=>a e.sy
 refine callsD_of_wpS func82 rfl λl cs j=> ?_
 apply wpS_seq;apply wpS_region;simp[wpOpsS,go_sem,recoverD,j,ntmps82,Exit.thenS];refine wpS_of_wp ?_;rw[AK];go_wp2;go_region
 exact⟨rfl,_,rfl,.tuple #[],by simp[results,results82],rfl,rfl,rfl⟩
def AL {fn:Func}{p q r:Tmp}{ty ty' ty'':TypeId}{b b1 b2:Nat}{cs:aq}{fs:Array Field}{v1 v2:Value}(h:fn.results= #[.cell p ty,.cell q ty',.cell r ty''])(tmps:aq)(W:aw)
  (i:tmps.getD p undef=ah b) (j:tmps.getD q undef=ah b1) (k:tmps.getD r undef=ah b2) (K:dZ W b cs ty)
  (m:prog.underlying ty=some (.struct fs)) (f:(prog.info? ty).map (·.size)=some cs.size) (h1:(loadVar ty' (aj b1 0)).run prog W= .ok v1 W) (e:(loadVar ty'' (aj b2 0)).run prog W= .ok v2 W):
  (results fn tmps).run prog W= .ok (.tuple #[.agg cs,v1,v2]) W:=by
 have g:=run_loadVar_row (P:=prog) W b ty ty cs (0,0) _ K m rfl f;have a:tmps[p]?.getD undef=ah b:=by simpa using i
 have c:tmps[q]?.getD undef=ah b1:=by simpa using j
 have d:tmps[r]?.getD undef=ah b2:=by simpa using k
 simp only[results,h];simp[a,c,d,asAddr,g,h1,e]
end
section
open VH
section
variable {S:eF} {R:MT->PM->Bool} {f:fw} {l:List PV}
def Il (n:Nat):((n==1)||decide (1<n))=decide (0<n):=by
 rw[cH];simp;omega
def JB (hm:f.isMap=false)(hr:f.isRep=false)(hz:¬(gQ f.how eS=true/\fB S f≠16)):fG S R f l=((l.length==1)&&l.all (eE S R f)):=by
 unfold fG nR ku;rw[hm,hr,dQ hz];simp
def JC (hm:f.isMap=false)(hr:f.isRep=false)(hz:gQ f.how eS=true/\fB S f≠16):fG S R f l=((l.length==1)&&l.all λx=> !(decide (x.1=0)&&ox x.2.1)&&eE S R f x):=by
 unfold fG nR ku;rw[hm,hr,dR hz];by_cases h1:l.length=1;.obtain⟨x,rfl⟩:=List.length_eq_one_iff.1 h1;simp[Bool.and_comm]
 .have e:(l.length==1)=false:=by simpa using h1
  simp[e]
def JD (hm:f.isMap=false)(hr:f.isRep=true)(hz:gQ f.how eS=false):fG S R f l=(decide (0<l.length)&&l.all (eE S R f)):=by
 unfold fG nR ku;rw[hm,hr,hz,<-Il];simp
def JE (hm:f.isMap=true):fG S R f l=((decide (0<l.length)&&l.all (eE S R f))&&jI (iM (S.base f.key)) none l):=by
 unfold fG nR ku;rw[hm,<-Il];simp
def O1.as {q q':List PV->Bool}{n g:Nat}{cap:ay}{W:aw}(h:O1 q n g cap W)(a:∀l,q' l=q l):O1 q' n g cap W:=by
 obtain rfl:q'=q:=funext a;exact h
end
def vP (k:Nat):Nat:=if k=0\/k=4\/k=9\/k=15 then 347 else if k=2\/k=7\/k=11 then 348 else if k=6 then 351 else 411
def MB (k:Nat)(x:Int):Int:=if k=0\/k=4\/k=9\/k=15 then mQ x else if k=2\/k=7\/k=11 then x%4294967296 else if k=6 then(if 0<x then 1 else 0)else x
def yW (a b:Int):(a==b)=(b==a):=by rw[cH];simp;exact eq_comm
def Rz (k:Nat)(x:Int):(MB k x==x)=zH k x:=by
 unfold MB zH;split;.exact yW _ _
 .split;.exact yW _ _
  .split;.exact yW _ _
   .simp
def Gp (k:Nat):∀args w,(callFunc (vP k) args).run prog w= .ok (.enter (vP k) args) w:=by
 unfold vP;split;.exact enters_of func347 VA rfl
 .split;.exact enters_of func348 VA rfl
  .split;.exact enters_of func351 VA rfl
   .exact enters_of func411 VA rfl
def JF (k:Nat)(W:aw)(x:Int)(a:0<=x):Calls prog (vP k) #[.int .u64 x] W λe w'=>e= .returned (.int .u64 (MB k x))/\W=w':=by
 unfold vP MB;split;.exact(px W x).V λ_ _ h=>⟨h.1,h.2.sy⟩
 .split;.exact(sY W x).V λ_ _ h=>⟨h.1,h.2.sy⟩
  .split;.exact(wI W x a).V λ_ _ h=>⟨h.1,h.2.sy⟩
   .go_in
    go_wp2;go_ret;exact⟨rfl,rfl⟩
def Kp.back {Q:ax}{w w' W:aw}(h:Kp Q w' W)(b:ak w w'):Kp Q w W:=λi q a=>(h i q (aI a b.size)).J (b.block i a)
def Kp.less {Q Q':ax}{w W:aw}(h:Kp Q w W)(c:∀b,Q' b->Q b):Kp Q' w W:=λi q a=>h i (c i q) a
section
variable (w:aw)
def Tc (k:Nat)(a:k<=16):Calls prog 363 #[aa k] w λe w'=>e= .returned (.func (.func (vP k)) #[] #[])/\w=w':=by
 rcases AS a with rfl|rfl|rfl|rfl|rfl|rfl|rfl|rfl|rfl|rfl|rfl|rfl|rfl|rfl|rfl|rfl|rfl
 all_goals
  go_in
  go_wp2;go_ret;exact⟨rfl,rfl⟩
def wg (k:Nat)(pq iq:aC)(A:k<=16):Calls prog 284 #[.agg #[aa k,.pointer pq],.pointer iq] w (jO w λw' v=>SU w' (λb=>w.heap.size<=b) k iq v):=by
 have B:= @wA;have z:=λW=>Tc W k A
 have⟨d,m,o⟩:=gN w #[aa k,.pointer pq] #[.pointer iq] 216 116;have⟨C,D⟩:=m.I;by_cases h16:k=16
 .subst h16;go_in
  go_wp2;go_ret;refine⟨_,rfl,⟨360,[ah (w.heap.size+1)],⟨rfl,enters_of func360 VA rfl⟩,λS i n W c a h g=> ?_⟩,d⟩;have⟨t,u,y⟩:=g a;exact TU _ iq t (c.bx Vv o) y a u
 .by_cases h13:k=13
  .subst h13;go_in
   go_wp2;go_ret;exact⟨_,rfl,⟨361,[],⟨rfl,enters_of func361 VA rfl⟩,λS i n W c a h g=>TV h a⟩,d⟩
  .by_cases h14:k=14
   .subst h14;go_in
    go_wp2;go_ret;exact⟨_,rfl,⟨362,[],⟨rfl,enters_of func362 VA rfl⟩,λS i n W c a h g=>TW a⟩,d⟩
   .have r:((k:Int)==16)=false:=Vx;have p:((k:Int)==13)=false:=Vx;have q:((k:Int)==14)=false:=Vx;go_in
    go_wp2_with fail;refine(z _).V ?_;rintro e w2 ⟨rfl,rfl⟩;go_wp2;go_ret;have j:=(Below.refl _ _).alloc (aE _) (w:=(w.Vn #[aa k,.pointer pq] 216).Vn #[.pointer iq] 116) (am #[.func (.func (vP k)) #[] #[]] 423);refine⟨_,rfl,⟨364,_,⟨rfl,enters_of func364 VA rfl⟩,λS i n W c a h g=> ?_⟩,dW d j⟩;refine TX _ (vP k) (MB k) (c.bx (b:=w.heap.size+1+1) Vv (dZ.newAt Vw _ _)) (Gp k) (λW x s _=>JF k W x s) (λx=>by rw[a];exact Rz k x) (by rw[a];exact h16) (by rw[a];exact h13) (by rw[a];exact h14)
def MC (f:FuncId)(cap:aq):Calls prog 287 #[.func (.func f) #[] cap] w λe w'=>e= .returned (.func (.func 367) #[] #[ah w.heap.size])/\w.Vn #[.func (.func f) #[] cap] 398=w':=by
 have a:= @wA;go_in
 go_wp2;go_ret;exact⟨rfl,rfl⟩
def MD (f:FuncId)(cap:aq):Calls prog 286 #[.func (.func f) #[] cap] w λe w'=>e= .returned (.func (.func 366) #[] #[ah w.heap.size])/\w.Vn #[.func (.func f) #[] cap] 398=w':=by
 have a:= @wA;go_in
 go_wp2;go_ret;exact⟨rfl,rfl⟩
def JG (f:FuncId)(cap:aq)(sg:Bool):Calls prog 285 #[.func (.func f) #[] cap,.bool sg] w λe w'=>
  ∃eb sb vb,e= .returned (.func (.func 365) #[] #[ah eb,ah sb])/\w.heap.size<=eb/\w.heap.size<=sb/\w.heap.size<=vb/\dZ w' eb #[.func (.func 366) #[] #[ah vb]] 260/\dZ w' sb #[.bool sg] 4/\dZ w' vb #[.func (.func f) #[] cap] 398/\ak w w':=by
 have g:= @wA;have d:=λW=>MD W f cap
 go_in
 go_wp2_with fail;refine(d _).V ?_;rintro e w2 ⟨rfl,rfl⟩;have⟨a,b,c⟩:=gN w #[.bool sg] #[.func (.func f) #[] cap] 4 398;have s1:(w.alloc (am #[.bool sg] 4)).heap.size=w.heap.size+1:=Vw;rw[s1];go_wp2;go_ret;exact⟨w.heap.size+1+1,w.heap.size,w.heap.size+1,rfl,Vv,Vv,Vv,dZ.newAt Vw _ _,b.alloc _,c.alloc _,dW a ((Below.refl _ _).alloc (aE _) _)⟩
end
section
variable (w:aw)
def vh (k:Nat)(pq iq:aC)(m:k<=16):Calls prog 368 #[.agg #[aa k,.pointer pq],.pointer iq] w (jO w λw' v=>SW w' (λb=>w.heap.size<=b) k iq v):=by
 have s:= @wA;have r:=λW=>qp W k (.pointer pq) m
 have⟨c,o,l⟩:=gN w #[aa k,.pointer pq] #[.pointer iq] 216 116;have⟨u,x⟩:=o.I;rcases AS m with rfl|rfl|rfl|rfl|rfl|rfl|rfl|rfl|rfl|rfl|rfl|rfl|rfl|rfl|rfl|rfl|rfl
 all_goals
  go_in
  go_wp2_with (go_at_call 208;refine(r _).V ?_;rintro e w2 ⟨rfl,j⟩)
  go_ret
  first
   |exact⟨_,rfl,⟨417,[],⟨rfl,enters_of func417 VA rfl⟩,λS i n N W f h g a d=>T5 Vv⟩,dW c j⟩
   |exact⟨_,rfl,⟨416,[],⟨rfl,enters_of func416 VA rfl⟩,λS i n N W f h g a d=>T4 Vv⟩,dW c j⟩
   |exact⟨_,rfl,⟨415,[],⟨rfl,enters_of func415 VA rfl⟩,λS i n N W f h g a d=>T3 Vv⟩,dW c j⟩
   |exact⟨_,rfl,⟨414,[],⟨rfl,enters_of func414 VA rfl⟩,λS i n N W f h g a d=>T0 Vv⟩,c⟩
   |exact⟨_,rfl,⟨413,[],⟨rfl,enters_of func413 VA rfl⟩,λS i n N W f h g a d=>TZ Vv⟩,c⟩
   |(
     refine⟨_,rfl,⟨412,[ah (w.heap.size+1)],⟨rfl,enters_of func412 VA rfl⟩,λS i n N W f h g a d=> ?_⟩,c⟩;have⟨t,p,q⟩:=d a
     exact TY _ iq t g (f.bx Vv l) (h _ Vv l.lt) q a p)
def qI (k:Nat)(pq iq:aC)(m:k<=16):Calls prog 293 #[.agg #[aa k,.pointer pq],.pointer iq] w (jO w λw' v=>vN w' (λb=>w.heap.size<=b) k iq v):=by
 have u:= @wA;have s:=λW=>qp W k (.pointer pq) m
 have⟨d,o,l⟩:=gN w #[aa k,.pointer pq] #[.pointer iq] 216 116;have⟨x,y⟩:=o.I;rcases AS m with rfl|rfl|rfl|rfl|rfl|rfl|rfl|rfl|rfl|rfl|rfl|rfl|rfl|rfl|rfl|rfl|rfl
 all_goals
  go_in
  go_wp2_with (go_at_call 208;refine(s _).V ?_;rintro e w2 ⟨rfl,j⟩)
  go_ret
  first
   |exact⟨_,rfl,⟨376,[],⟨rfl,enters_of func376 VA rfl⟩,λS i n N W g h a c f=>Ub a Vv⟩,dW d j⟩
   |exact⟨_,rfl,⟨375,[],⟨rfl,enters_of func375 VA rfl⟩,λS i n N W g h a c f=>Ua a Vv⟩,dW d j⟩
   |exact⟨_,rfl,⟨374,[],⟨rfl,enters_of func374 VA rfl⟩,λS i n N W g h a c f=>T9 a Vv⟩,dW d j⟩
   |exact⟨_,rfl,⟨373,[],⟨rfl,enters_of func373 VA rfl⟩,λS i n N W g h a c f=>T8 a Vv⟩,d⟩
   |exact⟨_,rfl,⟨372,[],⟨rfl,enters_of func372 VA rfl⟩,λS i n N W g h a c f=>T7 a Vv⟩,d⟩
   |(
     refine⟨_,rfl,⟨371,[ah (w.heap.size+1)],⟨rfl,enters_of func371 VA rfl⟩,λS i n N W g h a c f=> ?_⟩,d⟩;have⟨t,p,q,r⟩:=f c
     exact T6 _ iq t a (g.bx Vv l) (h _ Vv l.lt) q r c p)
def od (k:Nat)(pq iq:aC)(y:k<=16):Calls prog 289 #[.agg #[aa k,.pointer pq],.pointer iq] w (jO w λw' v=>vM w' (λb=>w.heap.size<=b) k iq v):=by
 have z:= @wA;have⟨c,p⟩:=ec w #[aa k,.pointer pq] 216;have u:=vh (w.alloc (am #[aa k,.pointer pq] 216)) k pq iq y;have⟨A,B⟩:=p.I;go_in
 go_wp2_with fail;refine u.V ?_;rintro e w2 ⟨C,rfl,⟨m,f,⟨rfl,s⟩,o⟩,g⟩;have s1:=c.size;have s2:=g.size;generalize w.alloc (am #[aa k,.pointer pq] 216)=w1 at*;have⟨a,d⟩:=ec w2 #[.func (.func m) #[] f.toArray] 447;go_wp2;go_ret;refine⟨_,rfl,⟨369,[ah w2.heap.size],⟨rfl,enters_of func369 VA rfl⟩,λS t n N W h j i x r=> ?_⟩,dW c (dW g a)⟩;exact SV w2.heap.size m f i (h.bx Vv d) (j _ Vv d.lt) s (o S t n N W ((h.back a).less λb q=>Vv) (λb q l=>j b Vv (aI l a.size)) i x r)
end
end
end Go.Proofs.YtfebdimolnobaaaGreatDoor
