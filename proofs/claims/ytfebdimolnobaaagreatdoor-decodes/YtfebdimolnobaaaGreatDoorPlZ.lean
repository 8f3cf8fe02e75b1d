import Derived.Test.YtfebdimolnobaaaGreatDoorPlR
import Derived.Test.YtfebdimolnobaaaGreatDoorPlW
import Derived.Test.YtfebdimolnobaaaGreatDoorPlL
import Derived.Test.YtfebdimolnobaaaGreatDoorBkE
import Derived.Test.YtfebdimolnobaaaGreatDoorRefP
import Derived.LaidMore
import Derived.OpenShut
import Derived.SizedLaws
import Derived.Carry
import Derived.Stop.Joined
import Derived.Stop.LaidErr
import Derived.Lib.LaidU8T
import Derived.Deep.DeepHandedRow
import Derived.Deep.DeepWitnessRowRef
set_option maxRecDepth 100000
set_option maxHeartbeats 8000000
set_option linter.all false
namespace Go.Proofs.YtfebdimolnobaaaGreatDoor
open Go.RowKit Go.Proofs.Tryz
section
open Tq
def zh (w:aw)(P:ax)(mp:am)(g:GF)(fb:Nat)(iq:aC)(h:eR w P mp g fb):Calls prog 212 #[ag fb,.pointer iq] w (mO w):=by
 cases hp:it mp g with
 |false=>exact Fm w P mp g fb iq h hp
 |true=>
  have a:=oX w P mp g fb h;rw[hp]at a;go_in
  go_wp2_with fail;refine a.V ?_;rintro e w1 ⟨rfl,c⟩;go_wp2_with fail;refine(vI w1 P mp g fb (h.O λb _ j=>c.block b j)).V ?_;rintro e w2 ⟨f,i,rfl,d⟩;go_wp2;go_ret;exact⟨_,_,rfl,dL c d⟩
def Ma:ui:=⟨yE,vH,zh,vG,yD⟩
end
def Mb:∀(ps:List ft),(ps.flatMap λp=>p.fields.map (iD p.oneof)).length<=lk ps
 | []=>aD _
 |p::ps=>by have:=Mb ps;rw[aW,bf,bm,lk];omega
def Oh {bs:List dS}(h:mJ bs):Bo (eM bs)/\(eM bs).es.length<=4000/\(eM bs).ms.length<=4000/\∀d∈(eM bs).ms,d.fs.length<=4000/\gP d.name eS=false:=by
 refine⟨λx g=> ?_,?_,aL (EX h) Th,λd f=>⟨?_,(Nr h).name d f⟩⟩;.obtain⟨b,e,rfl⟩:=aV.1 g;have c:=h.nm b (cl.1 e).1;have a:=wJ b.name.1;rw[c]at a;simp at a;exact a.2.2.1
 .have c:=bZ (λb:dS=>b.enum) bs;have a:=h.ok.few;show((bs.filter λb=>b.enum).map λb=>b.name.1).length<=4000;rw[bm];omega
 .obtain⟨b,e,rfl⟩:=aV.1 f;have c:=(h.ok.ok b (cl.1 e).1).parts;exact aL (Mb b.parts) Te
section
variable (w:aw) (sb rb:Nat) (k x way which:Int) (nm B:au) (ma:aC) (mn mc:Nat) (unk:au)
def Ql (S:eE)(P:ax)(h:iE w P rb S)(F:S.ms.length<=2001)(hx:which<=9223372036854775807):
  Calls prog 90 #[.agg #[ag sb,ag rb],.agg #[aa k,aa x,aa way,aa which,ae nm,ae B,.slice ma mn mc,ae unk]] w
   λe w'=>(∃s,e= .returned (ae s))/\aj w w':=by
 obtain⟨c,d⟩:=Td ((w.alloc (ak #[ag sb,ag rb] 123)).alloc (ak #[aa k,aa x,aa way,aa which,ae nm,ae B,.slice ma mn mc,ae unk] 125));have j:aj w c:=by rw[<-d];exact((Below.refl _ _).alloc (aD _) _).alloc Tf _
 have A:dP c w.heap.size #[ag sb,ag rb] 123:=by rw[<-d];exact(dP.new w _ _).alloc _
 have n:dP c (w.heap.size+1) #[aa k,aa x,aa way,aa which,ae nm,ae B,.slice ma mn mc,ae unk] 125:=by rw[<-d];exact dP.newAt Tf _ _
 have f:=QE c rb 0 (S.ms.map λm=>m.name) (by rw[bm];exact F) ⟨S,(h.G j).V λ_ _ _=>aM _,rfl⟩;generalize S.ms.map (λm=>m.name)=l at f;have⟨H,I⟩:=A.I;go_in
 go_wp2_with fail;refine f.V ?_;clear f d H I;rintro e w1 ⟨v,rfl,p,t⟩;obtain⟨M,N,rfl⟩:=ig p;have⟨K,L⟩:=(n.G t n.lt).I;have i:=dL j t;by_cases hw:0<which
 .by_cases hn:0<l.length;.have C:(0:Int)<(l.length:Int):=Te;have u:=Int.tmod_nonneg (a:=which) l.length Te;have D:=Int.tmod_lt_of_pos which (b:=l.length) Te;obtain⟨r,E⟩:∃r:Nat,which.tmod l.length=r:=⟨_,(Int.toNat_of_nonneg u).sy⟩;rw[E]at u D;have G:r<l.length:=Te;have⟨y,z⟩:=gx G;obtain⟨g,rfl,_,_,o⟩:=dV p hn;have q:=o w1 rfl r (ae y) (by simp[eh,z]);have J:¬(l.length:Int)=0:=Te;clear o z;go_wp2;go_ret;exact⟨⟨_,rfl⟩,i⟩
  .have C:¬(0:Int)<(l.length:Int):=Te;go_wp2;go_ret;exact⟨⟨_,rfl⟩,i⟩
 .go_wp2;go_ret;exact⟨⟨_,rfl⟩,i⟩
end
def IB (w:aw)(c:Nat->Nat)(l:List Cf)(bb N i:Nat)(t:Cf)(T:pj w c l)(hB:vF w bb N λb=>c b=0)(Y:UOK w)(U:c 2=1)(X:c 3=1)(hi:l[i]?=some t)(k x way which:Int)(nm nm' B:au)(ma:aC)(mn mc:Nat)(unk:au)(u:B.size<=268435456)(a:N+(8*B.size+1)<=68719476736):
  Calls prog 91 #[.agg #[ag t.sb,ag t.rb],ag bb,.agg #[aa k,aa x,aa way,aa which,ae nm',ae B,.slice ma mn mc,ae unk],ae nm] w
   λe w'=>e= .returned (.bool true)/\∃c',Iy w c l bb (N+(8*B.size+1)) w' c':=by
 have⟨⟨d,a⟩,S,H⟩:=T i t hi;have O:=qb a;obtain⟨f,y⟩:=Td ((w.alloc (ak #[ag t.sb,ag t.rb] 123)).alloc (ak #[aa k,aa x,aa way,aa which,ae nm',ae B,.slice ma mn mc,ae unk] 125));have g:aj w f:=by rw[<-y];exact((Below.refl _ _).alloc (aD _) _).alloc Tf _
 have J:dP f w.heap.size #[ag t.sb,ag t.rb] 123:=by rw[<-y];exact(dP.new w _ _).alloc _
 have o:dP f (w.heap.size+1) #[aa k,aa x,aa way,aa which,ae nm',ae B,.slice ma mn mc,ae unk] 125:=by rw[<-y];exact dP.newAt Tf _ _
 have z:=S.O λb _ a=>g.block b a
 have⟨D,E⟩:=J.I;have⟨F,G⟩:=o.I;have HW:=Qf;by_cases hw:way=1\/way=2
 .have d:=Ah Ma f t.sb t.kp t.mp t.bs (λb=>c b=i+2) nm B way z O (Y.O (g.block _ Y.lt1) (g.block _ Y.lt2)) u hw (by rw[U];omega) (by rw[X];omega);have h:=Ob (eM t.bs) nm B;have P:decide (way=1\/way=2)=true:=decide_eq_true hw
  have p:Hid (∀W:aw,iE W (λb=>(c b=1/\b<w.heap.size)\/W.heap.size<=b) t.rb (eM t.bs)->S9 93 #[ag t.rb,ae nm,ae B] W λe w'=>∃v Z,e= .returned (.tuple #[.agg #[v,ae (DR (kO (eM t.bs) nm B)).unk],aa (N9 (kO (eM t.bs) nm B)),aa (Oa (kO (eM t.bs) nm B))])/\gQ 9 w' Z v (DR (kO (eM t.bs) nm B))/\Below W.heap.size W w'):=λW s=>by
   have⟨j,m,n,r⟩:=Oh O;exact(Lu W _ t.rb (eM t.bs) nm B s (λb q=> .inr q) j m n (Nr O).good r u).V λ_ _ q=>q.ans
  have d:=d.V λ_ _ q=>q.ans
  generalize DR (kO (eM t.bs) nm B)=m at d h p;generalize N9 (kO (eM t.bs) nm B)=ee at d p;generalize Oa (kO (eM t.bs) nm B)=pp at d p;have O:t.mp<w.heap.size/\t.kp<w.heap.size:=(by obtain⟨_,_,_,_,_,_,_,h⟩:=S;exact⟨h.mb.lt,h.kb.lt⟩);have h:c t.mp=i+2/\c t.kp=i+2:=(by obtain⟨_,_,_,⟨_,h,j,_⟩,_⟩:=S;exact⟨j,h⟩)
  have r:∀b,w.heap.size<=b\/c b<2->b∉ [t.mp,t.kp]:=λb q e=>by
   simp only[aR,cp,or_false]at e;rcases e with rfl|rfl<;>omega
  have h:=g.size;go_in
  go_wp2_with fail;refine d.V ?_;rintro e w1 ⟨v,Z,rfl,V,X,s,A⟩;obtain⟨j,n,rfl⟩:=V.form;have h:=s.size;have⟨h,u⟩:=eY w1 #[.slice j m.fs.length n,ae m.unk] 49;have v:=(J.kept s (r _ (.inl (aD _)))).alloc (ak #[.slice j m.fs.length n,ae m.unk] 49);have C:=(o.kept s (r _ (.inl (bC _)))).alloc (ak #[.slice j m.fs.length n,ae m.unk] 49)
  have K:∀b,c b<2->b<w.heap.size->(w1.alloc (ak #[.slice j m.fs.length n,ae m.unk] 49)).heap[b]?=w.heap[b]?:=λb q a=>by
   rw[h.block b Te,s.block b Te (r b (.inr q)),g.block b a]
  have r:=((H.V (Q:=λb=>c b=1/\b<w.heap.size) λb q a=>⟨q,a⟩).O λb q a=>K b Te a).V (Q:=λb=>(c b=1/\b<w.heap.size)\/(w1.alloc (ak #[.slice j m.fs.length n,ae m.unk] 49)).heap.size<=b) λb q _=> .inl q
  have Q:=(hB.less (D':=λb=>c b=0/\b<w.heap.size) (λb q a=>⟨q,a⟩) (aD _)).O λb q a=>K b Te a
  have S:=V.O λb _ a=>h.block b a
  have U:=p.o _ r;have⟨H,I⟩:=v.I;have⟨Y,k8⟩:=C.I;have TU:Hid (sd w1 t.sb t.kp t.mp t.bs λx=>(c x=i+2/\x<f.heap.size)\/(f.heap.size<=x/\¬Z x)):=A;clear p K r J o D E F G A V d z y;go_wp2_with fail;generalize w1.alloc (ak #[.slice j m.fs.length n,ae m.unk] 49)=w2 at*;refine(HW _ way).V ?_;rintro e K ⟨rfl,rfl⟩;rw[P];go_wp2_with fail;refine U.V ?_;rintro e w3 ⟨v',j,rfl,M,r⟩;obtain⟨p,y,rfl⟩:=M.form;have j:=r.size;have⟨R,J⟩:=eY w3 #[.slice p m.fs.length y,ae m.unk] 49;have z:=dL r R;have A:=u.G z u.lt;have L:=S.O λb _ a=>z.block b a
  have j:=wj 9 _ _ _ _ _ m L.toIn (M.O λb _ a=>R.block b a) Te;have n:=Q.O λb _ a=>z.block b a
  have⟨D,E⟩:=A.I;have⟨F,G⟩:=J.I;clear H I Y k8 U S M Q r R v C;go_wp2_with fail;generalize w3.alloc (ak #[.slice p m.fs.length y,ae m.unk] 49)=w4 at*;refine j.V ?_;rintro e v ⟨rfl,C⟩;have p:=dL (dL h z) C;have u:=p.size;have u:=A.G C A.lt;have⟨H,I⟩:=u.I;have u:=ON 9 v bb N (λb=>c b=0/\b<w.heap.size) Z _ m (n.O λb _ a=>C.block b a) (L.O λb _ a=>C.block b a) (λb q=>by have:=X b q;exact⟨λe=>Te,Te⟩) Te;clear D E F G A J j L n;go_wp2_with fail;refine u.V ?_;rintro e w6 ⟨rfl,a,j⟩;clear H I;go_wp2;go_ret;exact⟨rfl,Oc T hi g s TU.o X p (a.less (λ_ q _=>q) Te) j⟩
 .have O:¬way=1:=λe=>hw (.inl e)
  have a:¬way=2:=λe=>hw (.inr e)
  have P:decide (way=1\/way=2)=false:=decide_eq_false hw;have d:=Iz f t.sb nm B way O a;have f:∀W:aw,S9 22 #[.agg #[ah,S8],.agg #[ah,S8]] W λe w'=>e= .returned (.bool true)/\Below W.heap.size W w':=λW=>wj 1 W (λ_=>False) (λ_=>False) _ _ PM.none (lR.none 0 W _).toIn (lR.none 0 W _).toIn Th
  clear hw;go_in
  go_wp2_with fail;refine d.V ?_;rintro e w1 ⟨rfl,a⟩;have h:=dL a ((Below.refl _ w1).alloc (aD _) (ak #[ah,S8] 49));have⟨H,I⟩:=(o.G h o.lt).I;have⟨Y,k8⟩:=(dP.new w1 #[ah,S8] 49).I;clear D E F G d;go_wp2_with fail;refine(HW _ way).V ?_;rintro e K ⟨rfl,rfl⟩;rw[P];go_wp2_with fail;refine(f _).V ?_;rintro e w3 ⟨rfl,r⟩;go_wp2;go_ret;exact⟨rfl,c,Iy.oB T hB (dL (dL g h) r) Te⟩
def Qm (w:aw)(c:Nat->Nat)(l:List Cf)(bb N i:Nat)(t:Cf)(k:pj w c l)(C:vF w bb N λb=>c b=0)(r:UOK w)(m:c 2=1)(n:c 3=1)(D:l[i]?=some t)(x way which:Int)(nm B:au)(ma:aC)(mn mc:Nat)(unk:au)(p:B.size<=1048576)(K:N+(8*B.size+1)<=68719476736)(M:which<=9223372036854775807):
  Calls prog 51 #[.agg #[ag t.sb,ag t.rb],ag bb,.agg #[aa 1,aa x,aa way,aa which,ae nm,ae B,.slice ma mn mc,ae unk]] w
   λe w'=>e= .returned (.bool true)/\∃c',Iy w c l bb (N+(8*B.size+1)) w' c':=by
 have⟨⟨O,L⟩,_,I⟩:=k i t D;have F:=qb L;obtain⟨a,h⟩:=Td ((w.alloc (ak #[ag t.sb,ag t.rb] 123)).alloc (ak #[aa 1,aa x,aa way,aa which,ae nm,ae B,.slice ma mn mc,ae unk] 125));have z:aj w a:=by rw[<-h];exact((Below.refl _ _).alloc (aD _) _).alloc Tf _
 have g:dP a w.heap.size #[ag t.sb,ag t.rb] 123:=by rw[<-h];exact(dP.new w _ _).alloc _
 have f:dP a (w.heap.size+1) #[aa 1,aa x,aa way,aa which,ae nm,ae B,.slice ma mn mc,ae unk] 125:=by rw[<-h];exact dP.newAt Tf _ _
 have A:=Ql a t.sb t.rb 1 x way which nm B ma mn mc unk (eM t.bs) _ (I.G z) (EX F) M;have⟨o,u⟩:=g.I;have⟨v,y⟩:=f.I;go_in
 go_wp2_with fail;refine A.V ?_;rintro e w1 ⟨⟨s,rfl⟩,j⟩;have d:=dL z j;have E:=IB w1 c l bb N i t (k.G d) (C.O λb _ J=>d.block b J) (r.O (d.block _ r.lt1) (d.block _ r.lt2)) m n D 1 x way which s nm B ma mn mc unk (aL p Te) K;have G:=g.G j g.lt;have H:=f.G j f.lt;clear o u v y A h g f;have⟨o,u⟩:=G.I;have⟨v,y⟩:=H.I;go_wp2_with fail;refine E.V ?_;rintro e w2 ⟨rfl,c',q⟩;clear o u v y;go_wp2;go_ret;exact⟨rfl,c',(Iy.oB k C d (aD _)).J q⟩
structure OpC where
 kind:Int
 x:Int
 way:Int
 which:Int
 nm:au
 b:au
 ma:aC
 mn:Nat
 mc:Nat
 unk:au
def opCells (o:OpC):ay:= [aa o.kind,aa o.x,aa o.way,aa o.which,ae o.nm,ae o.b,.slice o.ma o.mn o.mc,ae o.unk]
structure OpC.ok (o:OpC):Prop where
 x1: -9223372036854775808<=o.x
 x2:o.x<=9223372036854775807
 wh:o.which<=9223372036854775807
structure ArgS (w:aw)(sa:aC)(ss:aA):Prop where
 cell:∀(i:Nat) s,ss[i]?=some s->∃a,sa=some a/\a.block<w.heap.size/\w.cell? (a.add i)=some (ae s)
structure ArgO (w:aw)(oa:aC)(os:List OpC):Prop where
 cell:∀(i:Nat) o,os[i]?=some o->∃a,oa=some a/\a.block<w.heap.size/\∀(j:Nat) u,(opCells o)[j]?=some u->w.cell? (a.add (i*8+j))=some u
 ok:∀o∈os,o.ok
def Oj (t:Cf):ay:= [ag t.sb,ag t.rb]
def opsW (os:List OpC):Nat:=(os.map λo=>8*o.b.size+1).sum
def Tryz.infoTw:(prog.info? 123).map (λi=>(i.zero,i.size,i.bytes))=some (some (.agg #[.pointer none,.pointer none]),2,16):=Tj
def IC (w:aw)(t:au)(d:t.size<=2^47):S9 14 #[ae t] w λe w'=>(match gI t with
  | .error (k,p)=>e= .returned (.tuple #[.pointer none,aa k,aa p])
  | .ok bs=>∃rb,e= .returned (.tuple #[ag rb,aa 0,aa 0])/\iE w' (λb=>w.heap.size<=b) rb (eM bs))/\aj w w':=by
 refine(c6 w t d).V ?_;rintro e w' ⟨a,c⟩;refine⟨?_,c⟩;rw[Qa]at a
 cases hr:gI t with
 |error x=>rw[hr]at a;exact a
 |ok bs=>
  rw[hr]at a;obtain⟨rb,f,g,_⟩:=a;exact⟨rb,f,by rw[<-N4 hr];exact g⟩
def j7 (a:Addr)(i:Nat):(a.add i).block=a.block:=by unfold Addr.add;split<;>rfl
def Qn (a:Addr)(n j:Nat):a.add (n+(j+1))=(ai ((a.add n).block) ((a.add n).off+(j+1))):=by
 unfold Addr.add;by_cases h:n=0<;>simp[h,Nat.add_assoc]
def Qo {wr w1 w2 w5:aw}{c:Nat->Nat}{l:List Cf}{v:Value}{t:Cf}{gg cap:Nat}{o:Obj}(F:pj wr c l)(k:d5 wr (λb=>c b=0) 123 2 v l.length (l.flatMap Oj))(m:aj wr w1)(E:sd w1 t.sb t.kp t.mp t.bs λb=>wr.heap.size<=b)(g:aj w1 w2)(D:iE w2 (λb=>w1.heap.size<=b) t.rb (eM t.bs))(H:∃x,gI x= .ok t.bs)
  (y:(w2.alloc o).grownBy w5 v.ownBlock) (d:w5.ownsRow 0 123 2 (Ta gg (l.length+1) cap) (l.length+1) (l.flatMap Oj++Oj t)) (r:v.ownBlock=some gg\/gg=w2.heap.size+1):
  ∃c',(∀b,b<wr.heap.size->c' b=c b)/\pj w5 c' (l++ [t])/\d5 w5 (λb=>c' b=0) 123 2 (Ta gg (l.length+1) cap) (l++ [t]).length ((l++ [t]).flatMap Oj)/\nJ wr (λb=>c b=0) w5:=by
 have I:=m.size;have J:=g.size;have n:=(Below.refl _ w2).alloc (aD _) o;have f:∀b,v.ownBlock=some b->c b=0/\b<wr.heap.size:=λb q=>⟨k.2 b q,(k.1.lt b q).2⟩
 have p:∀b,b<w2.heap.size->v.ownBlock≠some b->w5.heap[b]?=w2.heap[b]?:=λb s q=>(y.block b (by have:=n.size;omega) (λe=>q e.sy)).J (n.block b s)
 have j:∀b,b<wr.heap.size->(if b<wr.heap.size then c b else if b<w1.heap.size then l.length+2 else if b<w2.heap.size then 1 else 0)=c b:=λb s=>dH s
 refine⟨λb=>if b<wr.heap.size then c b else if b<w1.heap.size then l.length+2 else if b<w2.heap.size then 1 else 0,j,λi u w=> ?_,⟨by simpa using d,λb q=> ?_⟩,(((nJ.oB m).G g).G n).grown y λx G=> .inl (k.2 x G)⟩
 .by_cases hi:i<l.length
  .rw[bW hi]at w;have⟨A,B,C⟩:=F i u w;have z:∀b,c b≠0->b<wr.heap.size->w5.heap[b]?=wr.heap[b]?:=λb q a=>by rw[p b Te (λe=>q (f b e).1),g.block b Te,m.block b a]
   exact⟨A,((B.less (P':=λb=>c b=i+2/\b<wr.heap.size) λb q a=>⟨q,a⟩).O λb q a=>z b Te a).less λb q _=>(j b q.2).J q.1,
    ((C.V (Q:=λb=>c b=1/\b<wr.heap.size) λb q a=>⟨q,a⟩).O λb q a=>z b Te a).V λb q _=>(j b q.2).J q.1⟩
  .have⟨a,e⟩:=bt.1 w;rw[bf,cE]at a;obtain rfl:i=l.length:=Te;rw[List.getElem_append_right (aD _)]at e;simp at e;subst e;refine⟨H,((E.less (P':=λb=>wr.heap.size<=b/\b<w1.heap.size) λb q a=>⟨q,a⟩).O λb q a=> ?_).less λb q _=> ?_,((D.V (Q:=λb=>w1.heap.size<=b/\b<w2.heap.size) λb q a=>⟨q,a⟩).O λb q a=> ?_).V λb q _=> ?_⟩;.rw[p b Te (λe=>by have:=f b e;omega),g.block b a]
   .show(if b<wr.heap.size then c b else if b<w1.heap.size then l.length+2 else if b<w2.heap.size then 1 else 0)=l.length+2;rw[dG Te,dH q.2]
   .exact p b a (λe=>by have:=f b e;omega)
   .show(if b<wr.heap.size then c b else if b<w1.heap.size then l.length+2 else if b<w2.heap.size then 1 else 0)=1;rw[dG Te,dG Te,dH q.2]
 .cases q;show(if gg<wr.heap.size then c gg else if gg<w1.heap.size then l.length+2 else if gg<w2.heap.size then 1 else 0)=0;rcases r with h|h;.rw[dH (f gg h).2];exact(f gg h).1
  .rw[dG Te,dG Te,dG Te]
def vF.new (w:aw):vF (w.alloc (ak #[aa 0,ah,ah,ah,ah,ah,ah] 39)) w.heap.size 0 λb=>w.heap.size<=b:=
 ⟨0,_,_,_,_,[],[],[],[],⟨dP.new w _ _,aD _,⟨d5.nil _ _ _ _,d5.nil _ _ _ _,λi x y h=>by simp at h⟩,⟨d5.nil _ _ _ _,d5.nil _ _ _ _,λi x y h=>by simp at h⟩,λb h=>by cases h⟩,rfl,rfl,⟨Tf,Tf⟩,aD _,aD _,aD _⟩
def ID {os:List OpC}{i:Nat}{o:OpC}(h:os[i]?=some o):opsW (os.take (i+1))=opsW (os.take i)+(8*o.b.size+1):=by
 unfold opsW;rw[bu,h];simp
def Ok (os:List OpC)(i:Nat):opsW (os.take i)<=opsW os:=by
 conv=>rhs;rw[<-b8 i os]
 unfold opsW;rw[bM,List.sum_append];omega
def Ol (w:aw)(sa oa:aC)(sc oc:Nat)(ss:aA)(os:List OpC)(hs:ArgS w sa ss)(ho:ArgO w oa os)(hsl:ss.length<=1048576)(hol:os.length<=1048576)(hsz:∀s∈ss,s.size<=2^47)(hoz:∀o∈os,o.b.size<=1048576)(hW:opsW os<=68719476736)(U:GOK w)(T:BOK w)(X:UOK w):
  Calls prog 23 #[.slice sa ss.length sc,.slice oa os.length oc,aa 1,aa 1] w λe w'=>e= .returned (.bool true)/\aj w w':=by
 have⟨i1,T5,TI,TJ,TK⟩:=info_parts Tryz.infoTw;go_in
 go_wp2;go_loopw [9,10] (λv i wr=>∃(i':Nat) (c:Nat->Nat) (l:List Cf),i'<=ss.length/\i=aa i'/\l.length<=i'/\d5 wr (λb=>c b=0) 123 2 v l.length (l.flatMap Oj)/\pj wr c l/\(∀b,b<w.heap.size->c b=1)/\aj w wr) (λ_ i _=>ss.length-(intOf i).toNat)
 case atStart=>exact⟨0,λ_=>1,[],aM _,rfl,aD _,d5.nil _ _ _ _,λi t h=>by simp at h,λ_ _=>rfl,Below.refl _ _⟩
 case round=>
  obtain⟨i,c,l,hi,rfl,hll,E,K,A,y⟩:=hrel;obtain⟨va,vc,rfl⟩:=ig E.1;by_cases I:i<ss.length
  .have TY:(i:Int)<(ss.length:Int):=Te;have⟨s,H⟩:=gx I;obtain⟨a,rfl,TL,S⟩:=hs.cell i s H;have TO:=hsz s (aO H);have q1:=(y.cell (p:=a.add i) (by rw[j7];exact TL)).J S;have Q:=c5 wr s TO (U.O (y.block _ U.lt)) (T.O (y.block _ T.lt));clear H S;have R:Hid (∀W,S9 14 #[ae s] W _):=λW=>IC W s TO
   cases N:gI s with
   |error x=>
    obtain⟨k,p⟩:=x;rw[N]at Q R;go_wp2_with fail;refine Q.V ?_;rintro e w1 ⟨rfl,O⟩;have q2:=(O.cell (p:=a.add i) (by rw[j7];have:=y.size;omega)).J q1;go_wp2_with fail;refine(R.o _).V ?_;rintro e w2 ⟨rfl,Z⟩;have M:=dL O Z;go_wp2;go_roundw
    case rel=>exact⟨i+1,c,l,Te,by go_num,Te,E.O (λb _ f=>M.block b f),K.G M,A,dL y M⟩
    case measure=>simp[intOf];omega
   |ok bs=>
    rw[N]at Q R;go_wp2_with fail;refine Q.V ?_;rintro e w1 ⟨⟨sb,kp,mk,rfl,TT⟩,O⟩;have HP:=TT.toP (qb N);have q2:=(O.cell (p:=a.add i) (by rw[j7];have:=y.size;omega)).J q1;go_wp2_with fail;refine(R.o _).V ?_;rintro e w2 ⟨⟨rb,rfl,hA⟩,Z⟩;have Tw:=((E.O (λb _ f=>(dL O Z).block b f)).O (λb _ f=>((Below.refl _ w2).alloc (aD _) (ak #[ag sb,ag rb] 123)).block b f)).1;have TZ:∃x,gI x= .ok bs:=⟨s,N⟩;clear Q N q1 q2 TT R;go_wp2_with (at_builtin;refine wpList_append_lies _ rfl _ _ 121 rfl 0 123 i1 _ 2 16 underlying121 T5 TI TJ TK rfl Th (.slice va l.length vc) l.length (l.flatMap Oj) rfl Tw (ai w2.heap.size 0) 1 1 [ag sb,ag rb] rfl rfl (aY (t:=123) (fr:=(0,0)) (heap_alloc_new w2 _)) Tm Te Tl Te (aM _) (w2.heap.size+1) Tf ?_;intro gg cap w5 Ty Tv TM hlt5)
    go_roundw
    case rel=>
     have⟨z,n1,n2,n3,n4⟩:=Qo (t:=⟨sb,kp,mk,rb,bs⟩) K E O HP Z hA TZ Tv Ty TM;have hz:=y.size;exact⟨i+1,z,_,Te,by go_num,Tg,by simpa using n3,n2,λb q=>(n1 b Te).J (A b q),y.J (n4.to_below y.size (λx q=>Nat.le_of_not_lt λh=>by have:=A x h;omega))⟩
    case measure=>simp[intOf];omega
  .have TY:¬(i:Int)<(ss.length:Int):=Te;have TP:=vF.new wr;have bA:=(Below.refl _ wr).alloc (aD _) (ak #[aa 0,ah,ah,ah,ah,ah,ah] 39)
   have HI:Hid (∃z:Nat->Nat,pj (wr.alloc (ak #[aa 0,ah,ah,ah,ah,ah,ah] 39)) z l/\vF (wr.alloc (ak #[aa 0,ah,ah,ah,ah,ah,ah] 39)) wr.heap.size 0 (λb=>z b=0)/\d5 (wr.alloc (ak #[aa 0,ah,ah,ah,ah,ah,ah] 39)) (λb=>z b=1) 123 2 (.slice va l.length vc) l.length (l.flatMap Oj)/\∀b,b<w.heap.size->z b=1):=by
    have hz:=y.size;refine⟨λb=>if b<wr.heap.size then(if c b=0 then 1 else c b)else 0,(K.named λb f hn=> ?_).G bA,TP.less (λb q _=>dG Te) (aD _),(E.V λb q f=> ?_).O (λb _ f=>bA.block b f),λb q=> ?_⟩;.show(if b<wr.heap.size then(if c b=0 then 1 else c b)else 0)=c b;rw[dH f,dG hn]
    .show(if b<wr.heap.size then(if c b=0 then 1 else c b)else 0)=1;rw[dH f,dH q]
    .show(if b<wr.heap.size then(if c b=0 then 1 else c b)else 0)=1;rw[dH Te,dG (by have:=A b q;omega),A b q]
   have TQ:=dL y bA;obtain⟨J,TU⟩:=Td wr.heap.size;clear TP K E A hs;go_wp2;rw[TU]at HI;generalize wr.alloc (ak #[aa 0,ah,ah,ah,ah,ah,ah] 39)=wA at*;clear TU;go_loopw [18] (λi wr=>∃(i':Nat) (c:Nat->Nat),i'<=os.length/\i=aa i'/\pj wr c l/\vF wr J (opsW (os.take i')) (λb=>c b=0)/\d5 wr (λb=>c b=1) 123 2 (.slice va l.length vc) l.length (l.flatMap Oj)/\(∀b,b<w.heap.size->c b=1)/\aj w wr) (λi _=>os.length-(intOf i).toNat)
   case atStart=>
    have⟨z,h1,h2,h3,h4⟩:=HI.o;exact⟨0,z,aM _,rfl,h1,h2,h3,h4,TQ⟩
   case round=>
    obtain⟨i,c,hi,rfl,K,hB,E,A,y⟩:=hrel;clear HI TQ bA;by_cases hn:0<l.length
    .have T0:(0:Int)<(l.length:Int):=Te;by_cases I:i<os.length
     .have TC:(i:Int)<(os.length:Int):=Te;have⟨o,H⟩:=gx I;obtain⟨a,rfl,TL,S⟩:=ho.cell i o H;have TD:=ho.ok o (aO H);have TE:=hoz o (aO H);have P:=ID H;have TF:=Ok os (i+1);obtain⟨kind,x,n,d,nm,b,B,D,C,m⟩:=o;have TG:=λj u V=>(y.cell (p:=a.add (i*8+j)) (by rw[j7];exact TL)).J (S j u V)
      have q0:wr.cell? (a.add (i*8))=some (aa kind):=TG 0 _ rfl;have L:∀j u,(opCells ⟨kind,x,n,d,nm,b,B,D,C,m⟩)[j+1]?=some u->wr.cell? (ai ((a.add (i*8)).block) ((a.add (i*8)).off+(j+1)))=some u:=λj u V=>by rw[<-Qn];exact TG (j+1) u V
      have q1:wr.cell? (ai ((a.add (i*8)).block) ((a.add (i*8)).off+1))=some (aa x):=L 0 _ rfl;have q2:wr.cell? (ai ((a.add (i*8)).block) ((a.add (i*8)).off+2))=some (aa n):=L 1 _ rfl;have q3:wr.cell? (ai ((a.add (i*8)).block) ((a.add (i*8)).off+3))=some (aa d):=L 2 _ rfl;have q4:wr.cell? (ai ((a.add (i*8)).block) ((a.add (i*8)).off+4))=some (ae nm):=L 3 _ rfl;have q5:wr.cell? (ai ((a.add (i*8)).block) ((a.add (i*8)).off+5))=some (ae b):=L 4 _ rfl;have q6:wr.cell? (ai ((a.add (i*8)).block) ((a.add (i*8)).off+6))=some (.slice B D C):=L 5 _ rfl;have q7:wr.cell? (ai ((a.add (i*8)).block) ((a.add (i*8)).off+7))=some (ae m):=L 6 _ rfl;have⟨G,KO⟩:=eY wr #[aa kind,aa x,aa n,aa d,ae nm,ae b,.slice B D C,ae m] 125;have⟨k1,k2⟩:=KO.I;rw[P]at TF;clear L;clear TG S H;by_cases hk:kind=1
      .subst hk;obtain⟨g,rfl,_,TN,Tt⟩:=dV E.1 hn;have TR:=(K.G G).G (Below.refl _ _).drew;have TS:=(hB.O λb _ f=>G.block b f).O (w':=(wr.alloc (ak #[aa 1,aa x,aa n,aa d,ae nm,ae b,.slice B D C,ae m] 125)).drew) λ_ _ _=>rfl
       have Y:=(dL y G).drew;have T4:=(E.O (λb _ f=>G.block b f)).O (w':=(wr.alloc (ak #[aa 1,aa x,aa n,aa d,ae nm,ae b,.slice B D C,ae m] 125)).drew) λ_ _ _=>rfl
       have HC:Hid (∀(r:Nat) t,l[r]?=some t->(wr.alloc (ak #[aa 1,aa x,aa n,aa d,ae nm,ae b,.slice B D C,ae m] 125)).cell? (ai g (r*2))=some (ag t.sb)/\(wr.alloc (ak #[aa 1,aa x,aa n,aa d,ae nm,ae b,.slice B D C,ae m] 125)).cell? (ai g (r*2+1))=some (ag t.rb)):=λr t P=>by
        have U:=λj V=>fW Oj 2 (λ_=>rfl) l r t P j V
        exact⟨Tt _ (G.block g TN) _ _ ((U 0 Te).J rfl),Tt _ (G.block g TN) _ _ ((U 1 Te).J rfl)⟩
       have HD:Hid (∀(r:Nat) t,l[r]?=some t->S9 51 #[.agg #[ag t.sb,ag t.rb],ag J,.agg #[aa 1,aa x,aa n,aa d,ae nm,ae b,.slice B D C,ae m]] (wr.alloc (ak #[aa 1,aa x,aa n,aa d,ae nm,ae b,.slice B D C,ae m] 125)).drew λe w'=>e= .returned (.bool true)/\∃z,Iy (wr.alloc (ak #[aa 1,aa x,aa n,aa d,ae nm,ae b,.slice B D C,ae m] 125)).drew c l J (opsW (os.take i)+(8*b.size+1)) w' z):=λr t P=>
        Qm _ c l J _ r t TR TS (X.O (Y.block _ X.lt1) (Y.block _ X.lt2)) (A _ X.lt1) (A _ X.lt2) P x n d nm b B D C m TE (aL TF hW) TD.wh
       have HP:Hid (∀W,S9 16 #[aa x,aa l.length] W _):=λW=>Qg W x l.length hn TD.x1 TD.x2 Te
       clear K hB E y Tt TN TR TS;go_upto_region 17 with fail
       generalize wr.alloc (ak #[aa 1,aa x,aa n,aa d,ae nm,ae b,.slice B D C,ae m] 125)=wO at*;go_cut [20]from 91 to 101 (λv wx=>v= .bool true/\∃z,Iy wO.drew c l J (opsW (os.take i)+(8*b.size+1)) wx z)
       case first=>
        go_region_with (first|(go_at_call 16;refine(HP.o _).V ?_;rintro e w2 ⟨⟨r,rfl,N⟩,rfl⟩;have⟨t,I⟩:=gx N;have⟨c1,c2⟩:=HC.o r t I;have HT:Hid (l[r]?=some t):=I;clear I;have hri:(r:Int)<(l.length:Int):=by omega)|(go_at_call 51;refine(HD.o r t HT.o).V ?_;rintro e w3 ⟨rfl,z,F⟩))
        all_goals
         go_wp2;go_meet
         case rel=>exact⟨rfl,z,F⟩
       case rest=>
        obtain⟨rfl,z,F⟩:=hcut;have HS:=Oi wc J _ _ F.bk (aL TF hW);go_wp2_with fail;refine HS.V ?_;rintro e w4 ⟨rfl,b4⟩;go_wp2;go_roundw
        case rel=>
         have hz:=Y.size;refine⟨i+1,z,Te,by go_num,F.tw.G b4,by rw[P];exact F.bk.O λb _ f=>b4.block b f,?_,λb q=>(F.nm b Te).J (A b q),Y.J ((F.ch.to_below hz λx q=>Nat.le_of_not_lt λh=>q (A x h)).J (b4.V (aL hz F.ch.size)))⟩;refine(((T4.V (S':=λb=>c b=1/\b<wO.drew.heap.size) λb q f=>⟨q,f⟩).O λb q f=>F.ch.block b f λe=>e q.1).V λb q _=>(F.nm b q.2).J q.1).O λb _ f=>b4.block b f
        case measure=>simp[intOf];omega
      .have TH:kind<1\/¬kind<1/\1<kind:=Te;rcases TH with TH|⟨hk1,TH⟩
       all_goals
        go_wp2;go_roundw
        case rel=>exact⟨i+1,c,Te,by go_num,K.G G,(hB.O λb _ f=>G.block b f).less (λ_ q _=>q) Te,E.O (λb _ f=>G.block b f),A,dL y G⟩
        case measure=>simp[intOf];omega
     .have TC:¬(i:Int)<(os.length:Int):=Te;go_wp2;go_ret;exact⟨rfl,y⟩
    .have T0:¬(0:Int)<(l.length:Int):=Te;by_cases I:i<os.length;.have TC:(i:Int)<(os.length:Int):=Te;go_wp2;go_ret;exact⟨rfl,y⟩
     .have TC:¬(i:Int)<(os.length:Int):=Te;go_wp2;go_ret;exact⟨rfl,y⟩
def Rr:au:=⟨#[8,1,16,3,8,255,255,255,255,15,48,7]⟩
def OQ:PM:= .mk [(1,[(18446744073709551615,⟨#[]⟩,.mk [] ⟨#[]⟩)]),(2,[(18446744073709551614,⟨#[]⟩,.mk [] ⟨#[]⟩)])] ⟨#[48,7]⟩
def RT:Fx PM->Bool
 | .ok (.mk [(a,[(b,s,.mk [] u)]),(c,[(d,e,.mk [] f)])] v)=>(a==1&&b==18446744073709551615&&c==2&&d==18446744073709551614)&&(s.data.toList== []&&u.data.toList== []&&e.data.toList== []&&f.data.toList== []&&v.data.toList== [48,7])
 |_=>false
def gD {s:au}{l:an}(h:s.data.toList=l):s=⟨l.toArray⟩:=by
 cases s;simp only at h;subst h;rfl
def Qp {R:Fx PM}(h:RT R=true):R= .ok OQ:=by
 unfold RT at h;split at h;.simp only[bK,beq_iff_eq]at h;obtain⟨⟨⟨⟨rfl,rfl⟩,rfl⟩,rfl⟩,⟨⟨⟨a,b⟩,c⟩,d⟩,e⟩:=h;rw[gD a,gD b,gD c,gD d,gD e];rfl
 .cases h
def Om:(match gI OM with| .ok bs=>RT (kO (eM bs) ⟨#[65]⟩ Rr)| .error _=>false)=true:=Tj
def Qq {bs:List dS}(h:gI OM= .ok bs):kO (eM bs) ⟨#[65]⟩ Rr= .ok OQ:=by
 have:=Om;rw[h]at this;exact Qp this
def Qr (w:aw):gQ 9 (((w.S6 #[.int .u64 18446744073709551615,S8,ah,S8] 55).S6 #[.int .u64 18446744073709551614,S8,ah,S8] 55).S6 #[aa 1,Ta w.heap.size 1 1,aa 2,Ta (w.heap.size+1) 1 1] 58) (λ_=>True) (Ta (w.heap.size+1+1) 2 2) OQ:=by
 have d:=((dF (base:=0) (e:=55) (size:=4) w #[.int .u64 18446744073709551615,S8,ah,S8] 1 (aM _) Th rfl).alloc (ak #[.int .u64 18446744073709551614,S8,ah,S8] 55)).alloc (ak #[aa 1,Ta w.heap.size 1 1,aa 2,Ta (w.heap.size+1) 1 1] 58);have b:=(dF (base:=0) (e:=55) (size:=4) (w.S6 #[.int .u64 18446744073709551615,S8,ah,S8] 55) #[.int .u64 18446744073709551614,S8,ah,S8] 1 (aM _) Th rfl).alloc (ak #[aa 1,Ta w.heap.size 1 1,aa 2,Ta (w.heap.size+1) 1 1] 58);have c:=dF (base:=0) (e:=58) (size:=2) ((w.S6 #[.int .u64 18446744073709551615,S8,ah,S8] 55).S6 #[.int .u64 18446744073709551614,S8,ah,S8] 55) #[aa 1,Ta w.heap.size 1 1,aa 2,Ta (w.heap.size+1) 1 1] 2 (aM _) Th rfl;rw[ca]at b;rw[ca,ca]at c;have a:∀W:aw,gQ 8 W (λ_=>True) (ah) (.mk [] ⟨#[]⟩):=λW=>(lR.none 7 W _).toIn
 exact⟨_,⟨c,λ_ _=>trivial⟩,_,_,rfl,⟨_,⟨d,λ_ _=>trivial⟩,_,_,rfl,a _,rfl⟩,_,_,rfl,⟨_,⟨b,λ_ _=>trivial⟩,_,_,rfl,a _,rfl⟩,rfl⟩
def ArgS.G {w w':aw}{sa:aC}{ss:aA}(h:ArgS w sa ss)(c:aj w w'):ArgS w' sa ss:=⟨λi s f=>by
 have⟨a,d,b,e⟩:=h.cell i s f
 exact⟨a,d,aI b c.size,(c.cell (p:=a.add i) (by rw[j7];exact b)).J e⟩⟩
def ArgO.G {w w':aw}{oa:aC}{os:List OpC}(h:ArgO w oa os)(c:aj w w'):ArgO w' oa os:=⟨λi o f=>by
 have⟨a,d,b,e⟩:=h.cell i o f
 exact⟨a,d,aI b c.size,λj u g=>(c.cell (p:=a.add (i*8+j)) (by rw[j7];exact b)).J (e j u g)⟩,h.ok⟩
def t_Decodes (w:aw)(sa oa:aC)(sc oc:Nat)(ss:aA)(os:List OpC)(hs:ArgS w sa ss)(ho:ArgO w oa os)(t:ss.length<=1048576)(p:os.length<=1048576)(u:∀s∈ss,s.size<=2^47)(r:∀o∈os,o.b.size<=1048576)(Y:opsW os<=68719476736)(m:GOK w)(f:BOK w)(d:UOK w):
  Calls prog 4 #[.slice sa ss.length sc,.slice oa os.length oc] w λe w'=>e= .returned (.bool true)/\aj w w':=by
 go_in
 go_wp2_with fail;refine(Oe w m f).V ?_;rintro e w1 ⟨⟨J,I,mk,bs,rfl,G,g⟩,X⟩;have P:=qb G;have C:=Qq G;have Q:=Rc _ _ _ 9 _ C;go_wp2;go_loopw [6] (λi wr=>∃n:Nat,1<=n/\n<=3/\i=aa n/\sd wr J I mk bs (λb=>w.heap.size<=b)/\aj w wr) (λi _=>3-(intOf i).toNat)
 case atStart=>exact⟨1,aD _,Te,rfl,g,X⟩
 case round=>
  obtain⟨n,a,h,rfl,g,c⟩:=hrel;by_cases hlt:n<3
  .have R:(n:Int)<3:=Te;have a:=c.size;have h:=Ah Ma wr J I mk bs (λb=>w.heap.size<=b) ⟨#[65]⟩ Rr n g P (d.O (c.block _ d.lt1) (c.block _ d.lt2)) Th Te (by have:=d.lt1;omega) (by have:=d.lt2;omega);rw[C]at h;unfold Rr at h;go_wp2_with fail;refine h.V ?_;rintro e w2 ⟨v,Z,rfl,F,i,E,A⟩;obtain⟨K,L,rfl⟩:=F.form
   have S:aj w w2:=c.J (E.to_below a λx H=>by
    obtain⟨_,_,_,⟨_,V,W,_⟩,_⟩:=g;simp only[aR,cp,or_false]at H;rcases H with rfl|rfl;.exact W
    .exact V)
   have y:=A.less (P':=λb=>w.heap.size<=b) λb q _=>q.elim (λq=>q.1) (λq=>Te)
   have⟨k,l⟩:=eY w2 #[.slice K OQ.fs.length L,ae OQ.unk] 49;have z:=F.O λb _ a=>k.block b a
   have T:=y.O λb _ a=>k.block b a
   have U:=dL S k;have⟨k,q⟩:=l.I;clear h g y A E i;go_upto_region 8 with fail
   generalize w2.alloc (ak #[.slice K OQ.fs.length L,ae OQ.unk] 49)=w3 at*;have a:=Qr w3;have j:=(((Below.refl _ w3).alloc (aD _) (ak #[.int .u64 18446744073709551615,S8,ah,S8] 55)).alloc Tf (ak #[.int .u64 18446744073709551614,S8,ah,S8] 55)).alloc Tg (ak #[aa 1,Ta w3.heap.size 1 1,aa 2,Ta (w3.heap.size+1) 1 1] 58);have D:=wj 9 _ _ _ _ _ OQ (z.O λb _ a=>j.block b a).toIn a (aL Q Th);have N:=T.O λb _ a=>j.block b a
   have O:=dL U j;go_wp2_with fail;refine D.V ?_;rintro e g ⟨rfl,B⟩;clear k q l D a z;go_wp2;go_roundw
   case rel=>exact⟨n+1,Te,Te,by go_num,N.O λb _ a=>B.block b a,dL O B⟩
   case measure=>simp[intOf];omega
  .have R:¬(n:Int)<3:=Te;have M:=Ol wr sa oa sc oc ss os (hs.G c) (ho.G c) t p u r Y (m.O (c.block _ m.lt)) (f.O (c.block _ f.lt)) (d.O (c.block _ d.lt1) (c.block _ d.lt2));go_wp2_with fail;refine M.V ?_;rintro e w2 ⟨rfl,Y⟩;go_wp2;go_ret;exact⟨rfl,dL c Y⟩
section
open Go.ChangeShapes Go.WideShapes Go.RowKit Go.Deep Go.Proofs.YtfebdimolnobaaaGreatDoor.Rows
def GZ:prog.cellsOf 125=8:=Tj
section
variable {H:Type}
variable {enc:TypeId×Value->H} {w:World} {base:Nat} {sp:Nat->Bool} {held:Bool}
def Rf {fuel:Nat}{cs:List Value}{x:DataW H×List MemPlace}(h:DataW.trod enc prog w base sp held fuel 125 cs=some x):∃o:OpC,cs=opCells o/\o.ok/\o.b.size+1<=uptoBulk x.1:=by
 obtain⟨xs,n,_,rfl,K,L,i⟩:=DataW.trod_struct underlying125 h;rw[GZ]at K
 obtain⟨b,c,e,f,g,c5,c6,c7,rfl⟩:∃b c e f g c5 c6 c7,cs= [b,c,e,f,g,c5,c6,c7]:=by
  match cs,K with
  | [a0,a1,a2,a3,a4,a5,a6,a7],_=>exact⟨a0,a1,a2,a3,a4,a5,a6,a7,rfl⟩
 obtain⟨p,r,s,t,u,j,v,rfl⟩:∃p r s t u j v,xs= [p,r,s,t,u,j,v]:=by
  match xs,L with
  | [a0,a1,a2,a3,a4,a5,a6],_=>exact⟨a0,a1,a2,a3,a4,a5,a6,rfl⟩
 have D:DataW.trod enc prog w base sp held n 3 (([b,c,e,f,g,c5,c6,c7].drop 0).take (prog.cellsOf 3))=some p:=i 0 _ rfl;have f1:DataW.trod enc prog w base sp held n 3 (([b,c,e,f,g,c5,c6,c7].drop 1).take (prog.cellsOf 3))=some r:=i 1 _ rfl;have f2:DataW.trod enc prog w base sp held n 3 (([b,c,e,f,g,c5,c6,c7].drop 2).take (prog.cellsOf 3))=some s:=i 2 _ rfl;have f3:DataW.trod enc prog w base sp held n 3 (([b,c,e,f,g,c5,c6,c7].drop 3).take (prog.cellsOf 3))=some t:=i 3 _ rfl;have E:DataW.trod enc prog w base sp held n 9 (([b,c,e,f,g,c5,c6,c7].drop 4).take (prog.cellsOf 9))=some u:=i 4 _ rfl;have f5:DataW.trod enc prog w base sp held n 9 (([b,c,e,f,g,c5,c6,c7].drop 5).take (prog.cellsOf 9))=some j:=i 5 _ rfl;have F:DataW.trod enc prog w base sp held n 49 (([b,c,e,f,g,c5,c6,c7].drop 6).take (prog.cellsOf 49))=some v:=i 6 _ rfl;rw[II]at D f1 f2 f3;rw[sw]at E f5;rw[IJ]at F;have⟨X,O,_,_⟩:=DataW.trod_int underlying3 D;have⟨Y,P,_,w1⟩:=DataW.trod_int underlying3 f1;have⟨Z,Q,_,_⟩:=DataW.trod_int underlying3 f2;have⟨k3,R,_,w3⟩:=DataW.trod_int underlying3 f3;have⟨s4,S,_,_⟩:=DataW.trod_string underlying9 E;have⟨k,T,y5,_⟩:=DataW.trod_string underlying9 f5;have⟨ys,m,_,_,_,M,J⟩:=DataW.trod_struct underlying49 F
 obtain⟨B,C,rfl⟩:∃B C,ys= [B,C]:=by
  match ys,M with
  | [a0,a1],_=>exact⟨a0,a1,rfl⟩
 have G:DataW.trod enc prog w base sp held m 47 (([c6,c7].drop 0).take (prog.cellsOf 47))=some B:=J 0 _ rfl;have I:DataW.trod enc prog w base sp held m 9 (([c6,c7].drop 1).take (prog.cellsOf 9))=some C:=J 1 _ rfl;rw[IK]at G;rw[sw]at I;have⟨s7,V,_,_⟩:=DataW.trod_string underlying9 I
 have U:∃y A z,c6= .slice y A z:=by
  rcases open_slice underlying47 G with⟨q,_⟩|⟨a,len,N,_,_,_,_,q,_⟩;.exact⟨_,_,_,List.cons.inj q|>.1⟩
  .exact⟨_,_,_,List.cons.inj q|>.1⟩
 obtain⟨y,A,z,rfl⟩:=U;have r0:=List.cons.inj O|>.1
 have r1:=List.cons.inj P|>.1
 have r2:=List.cons.inj Q|>.1
 have r3:=List.cons.inj R|>.1
 have r4:=List.cons.inj S|>.1
 have r5:=List.cons.inj T|>.1
 have r7:=List.cons.inj V|>.1
 subst r0 r1 r2 r3 r4 r5 r7;refine⟨⟨X,Y,Z,k3,s4,k,y,A,z,s7⟩,rfl,⟨(Eb w1).1,(Eb w1).2,(Eb w3).2⟩,?_⟩;have W:j.1= .lit (.string k.data.toList):=by rw[y5]
 have hb:uptoBulk j.1=k.size+1:=(by rw[W,uptoBulk,da];rfl);show k.size+1<=uptoBulkAll _+1;have:=sx (d:=j.1) (l:= [p,r,s,t,u,j,v].map (·.1)) Tf;omega
def DX {O:Nat->OpC}{D:Nat->DataW H}:∀{l:List Nat},(∀i∈l,(O i).b.size+1<=uptoBulk (D i))->opsW (l.map O)<=8*uptoBulkAll (l.map D)
 | [],_=>aM _
 |i::l,h=>by
  have b:=h i (co ..);have c:=DX (l:=l) λj a=>h j (cv _ a)
  have e:opsW ((i::l).map O)=(8*(O i).b.size+1)+opsW (l.map O):=rfl;rw[e,cu,uptoBulkAll];omega
def Oo {a:Option Addr}{n c:Nat}{d:DataW H}{ps:List MemPlace}(h:DataW.Trod enc prog w 0 (λ_=>true) true 46 (.slice a n c) d ps):
  ∃os:List OpC,n=os.length/\ArgO w a os/\os.length<=uptoBulk d/\(∀o∈os,o.b.size<=uptoBulk d)/\opsW os<=8*uptoBulk d:=by
 obtain⟨fuel,G⟩:=h;rcases open_slice underlying46 G with⟨t,z⟩|⟨r,v,s,m,k,D,Pl,t,_,J,_,C,z,B⟩
 .have e:(Value.slice a n c)= .slice none 0 0:=List.cons.inj t|>.1
  cases e;exact⟨[],rfl,⟨λi o h=>by simp at h,λo h=>by simp at h⟩,aM _,λo h=>by simp at h,aM _⟩
 .have e:(Value.slice a n c)= .slice (some r) v s:=List.cons.inj t|>.1
  cases e;have F:d= .slice ((List.range n).map D) ((List.range (m-n)).map λj=>D (n+j)):=dK Prod.fst z;have Q:n<=m:=by rw[C];simp;exact J
  haveI:Inhabited OpC:=⟨⟨0,0,0,0,⟨#[]⟩,⟨#[]⟩,none,0,0,⟨#[]⟩⟩⟩
  have⟨O,g⟩:=choose_lt (n:=n) (p:=λi o=>(∀(j:Nat) u,(opCells o)[j]?=some u->w.cell? (r.add (i*8+j))=some u)/\o.ok/\o.b.size+1<=uptoBulk (D i)) (λi b=>by
   have⟨cs,A,K⟩:=B i Te;rw[GZ]at A;obtain⟨o,rfl,L,M⟩:=Rf K;have⟨_,N,P⟩:=World.cells?_some A;refine⟨o,λj u y=> ?_,L,M⟩;have I:j<8:=(by have:=(bt.1 y).1;rw[N]at this;exact this);rw[<-add_add,P j I]
   exact y)
  have R:uptoBulk d=uptoBulkAll ((List.range n).map D)+uptoBulkAll ((List.range (m-n)).map λj=>D (n+j))+1:=by rw[F,uptoBulk]
  have hlen:=wo ((List.range n).map D);rw[bm,List.length_range]at hlen;refine⟨(List.range n).map O,Tf,⟨λi o f=> ?_,λo f=> ?_⟩,Tg,λo f=> ?_,?_⟩;.rw[aT]at f;obtain⟨S,E,rfl⟩:=bg.1 f;obtain⟨x,rfl⟩:=bt.1 E;rw[List.length_range]at x;rw[List.getElem_range];have q:=(g i x).1;exact⟨r,rfl,by have:=aZ _ _ (q 0 _ rfl);rwa [j7]at this,q⟩
  .obtain⟨i,b,rfl⟩:=aV.1 f;exact(g i (List.mem_range.1 b)).2.1
  .obtain⟨i,b,rfl⟩:=aV.1 f;have q:=(g i (List.mem_range.1 b)).2.2;have:=sx (d:=D i) (l:=(List.range n).map D) (aV.2 ⟨i,b,rfl⟩);omega
  .have:=DX (O:=O) (D:=D) (l:=List.range n) λi b=>(g i (List.mem_range.1 b)).2.2
   omega
def Md {a:Option Addr}{n c:Nat}{d:DataW H}{ps:List MemPlace}(h:DataW.Trod enc prog w 0 (λ_=>true) true 30 (.slice a n c) d ps):
  ∃ss:List ByteArray,n=ss.length/\ArgS w a ss/\ss.length<=uptoBulk d/\∀s∈ss,s.size<=uptoBulk d:=by
 obtain⟨fuel,y⟩:=h;rcases open_strs underlying30 underlying9 sw y with⟨j,r⟩|⟨p,k,g,m,b,j,_,A,_,v,r,t⟩
 .have e:(Value.slice a n c)= .slice none 0 0:=List.cons.inj j|>.1
  cases e;exact⟨[],rfl,⟨λi o h=>by simp at h⟩,aM _,λo h=>by simp at h⟩
 .have e:(Value.slice a n c)= .slice (some p) k g:=List.cons.inj j|>.1
  cases e;have C:uptoBulkAll ((List.range n).map λi=>(DataW.lit (.string (b i).data.toList):DataW H))<=uptoBulk d:=(by rw[show d=_ from dK Prod.fst r,uptoBulk];omega);have B:n<=m:=by rw[v];simp;exact A
  have hlen:=wo ((List.range n).map λi=>(DataW.lit (.string (b i).data.toList):DataW H));rw[bm,List.length_range]at hlen;refine⟨(List.range n).map b,Tf,⟨λi o f=> ?_⟩,Tg,λo f=> ?_⟩;.rw[aT]at f;obtain⟨D,x,rfl⟩:=bg.1 f;obtain⟨u,rfl⟩:=bt.1 x;rw[List.length_range]at u;rw[List.getElem_range];have q:=(t i Te).1;exact⟨p,rfl,by have:=aZ _ _ q;rwa [j7]at this,q⟩
  .obtain⟨i,z,rfl⟩:=aV.1 f;have:=sx (d:=(DataW.lit (.string (b i).data.toList):DataW H)) (l:=(List.range n).map λi=>(DataW.lit (.string (b i).data.toList):DataW H)) (aV.2 ⟨i,z,rfl⟩);have e:uptoBulk (DataW.lit (.string (b i).data.toList):DataW H)=(b i).size+1:=by rw[uptoBulk,da];rfl
   omega
end
end
section
open Go.ChangeShapes Go.WideShapes Go.ChangeAt Go.RowKit
def own:ownKnob prog.godebug=none:=Tj
def Me:prog.globalNamed "strconv.ErrRange" =some 5:=Tj
def Oq:(prog.globals[5]?).map (·.type)=some 354:=Tj
def Mf:prog.globalNamed "twinwire/model.baseWords" =some 0:=Tj
def Ot:(prog.globals[0]?).map (·.type)=some 427:=Tj
def Qs:prog.cellsOf 493=1:=Tj
def Qt:prog.cellsOf 427=15:=Tj
def Rg: "*" ++ "errors.errorString" = "*errors.errorString" :=Th
def RU (u:TypeId)(h:prog.typeName? 3 u=some "*errors.errorString"):u=491:=
 typeName_ptr_named (nm:= "errors.errorString") (by rw[Rg];kernel_rfl) Tj Th u (by rw[Rg];exact h)
def Fo:Rows.laid_unicode_utf8_first=Lib.firstData:=Tj
def DY:(Rows.laid_unicode_utf8_acceptRanges:DataW Unit)=Lib.acceptData:=Tj
def gd {H:Type}{enc:TypeId×Value->H}{P:Program}{w:aw}{base:Nat}{sp:Nat->Bool}{held:Bool}{fuel:Nat}{t:TypeId}{c:Value}{y:DataW H×List MemPlace}
  (d:P.underlying t=some .string) (h:DataW.trod enc P w base sp held fuel t [c]=some y):∃s,c=ae s/\y=(.lit (.string s.data.toList),[]):=by
 have⟨s,a,b,_⟩:=DataW.trod_string d h;exact⟨s,List.cons.inj a|>.1,b⟩
def Mg {W:aw}(h:Lib.VarReads prog W "twinwire/model.baseWords" Rows.laid_twinwire_model_baseWords):BOK W:=by
 obtain⟨g,t,cs,fuel,p,O,R,w,a⟩:=h;obtain rfl:=Option.some.inj (Mf.sy.J O);obtain rfl:=Option.some.inj (Ot.sy.J R)
 have N:cs=(BU.map Value.string).toArray:=by
  obtain⟨l⟩:=cs
  cases fuel with
  |zero=>simp[DataW.trod]at a
  |succ fuel=>
   simp only[DataW.trod,underlying427,Qt,sw]at a;split at a
   .rename_i Q
    obtain⟨m,n,o,q,r,c5,c6,c7,s,c9,QE,j,k,QC,QB,rfl⟩:∃m n o q r c5 c6 c7 s c9 QE j k QC QB,l= [m,n,o,q,r,c5,c6,c7,s,c9,QE,j,k,QC,QB]:=by
     match l,Q with
     | [a0,a1,a2,a3,a4,a5,a6,a7,a8,a9,a10,a11,a12,a13,a14],_=>exact⟨a0,a1,a2,a3,a4,a5,a6,a7,a8,a9,a10,a11,a12,a13,a14,rfl⟩
    have e:List.range 15= [0,1,2,3,4,5,6,7,8,9,10,11,12,13,14]:=rfl;rw[e]at a;simp only[bg,List.mapM_cons,List.mapM_nil,Option.bind_eq_bind,Option.bind_eq_some_iff,Option.pure_def,Option.some.injEq]at a;obtain⟨xs,⟨y0,D,_,⟨y1,E,_,⟨y2,F,_,⟨y3,G,_,⟨y4,H,_,⟨y5,I,_,⟨y6,J,_,⟨y7,K,_,⟨y8,L,_,⟨y9,M,_,⟨y10,x,_,⟨y11,y,_,⟨y12,z,_,⟨y13,A,_,⟨y14,B,_,rfl,rfl⟩,rfl⟩,rfl⟩,rfl⟩,rfl⟩,rfl⟩,rfl⟩,rfl⟩,rfl⟩,rfl⟩,rfl⟩,rfl⟩,rfl⟩,rfl⟩,rfl⟩,u⟩:=a;obtain⟨n0,rfl,rfl⟩:=gd underlying9 D;obtain⟨n1,rfl,rfl⟩:=gd underlying9 E;obtain⟨n2,rfl,rfl⟩:=gd underlying9 F;obtain⟨n3,rfl,rfl⟩:=gd underlying9 G;obtain⟨n4,rfl,rfl⟩:=gd underlying9 H;obtain⟨n5,rfl,rfl⟩:=gd underlying9 I;obtain⟨n6,rfl,rfl⟩:=gd underlying9 J;obtain⟨n7,rfl,rfl⟩:=gd underlying9 K;obtain⟨n8,rfl,rfl⟩:=gd underlying9 L;obtain⟨n9,rfl,rfl⟩:=gd underlying9 M;obtain⟨S,rfl,rfl⟩:=gd underlying9 x;obtain⟨T,rfl,rfl⟩:=gd underlying9 y;obtain⟨U,rfl,rfl⟩:=gd underlying9 z;obtain⟨V,rfl,rfl⟩:=gd underlying9 A;obtain⟨X,rfl,rfl⟩:=gd underlying9 B;simp[Rows.laid_twinwire_model_baseWords]at u;obtain⟨⟨Y,Z,x2,x3,x4,x5,x6,x7,x8,x9,b,c,d,C,f⟩,_⟩:=u;rw[gD Y,gD Z,gD x2,gD x3,gD x4,gD x5,gD x6,gD x7,gD x8,gD x9,gD b,gD c,gD d,gD C,gD f];rfl
   .cases a
 intro i v P;rw[World.var?_cell Mf (N▸w) i];simpa using P
def DZ {W:aw}(h:laidMetH prog Rows.decodesUptoRow.laid W):GOK W/\BOK W/\UOK W:=by
 rw[MakeChecks.laidMetH_plain _ _ _ Tj]at h;have b:∀n d,(n,d)∈Rows.decodesUptoRow.laid->Lib.VarReads prog W n d:=λn d g=>Lib.laidMet.reads h g
 have f:laidMet prog [("strconv.ErrRange",Rows.laid_strconv_ErrRange), ("strconv.ErrSyntax",Rows.laid_strconv_ErrSyntax), ("twinwire/model.baseWords",Rows.laid_twinwire_model_baseWords), ("unicode/utf8.first",Rows.laid_unicode_utf8_first)] W:=h.tail.tail.tail.tail;have⟨a,s,i,_⟩:=laid_sentinel f Me Oq underlying354 RU underlying491 underlying493 rfl rfl underlying9 Qs sw;refine⟨⟨_,by simpa using World.var?_cell Me i 0,.inr ⟨_,_,rfl⟩⟩,Mg (b _ _ (by simp[Rows.decodesUptoRow])),?_⟩;have c:=b "unicode/utf8.first" _ (.tail _ (.tail _ (.tail _ (.tail _ (.tail _ (.tail _ (.tail _ (.head _))))))));have e:=b "unicode/utf8.acceptRanges" _ (.tail _ (.tail _ (.tail _ (.head _))));rw[Fo]at c;rw[DY]at e;exact utf8Tabs_of_readsT (U8Types.of196 Tryz.laysVs) ⟨Tj,Tj,Tj,Tj,Tj,Tj,Tj⟩ c e
end
end Go.Proofs.YtfebdimolnobaaaGreatDoor
