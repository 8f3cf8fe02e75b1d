import Derived.Test.YtfebdimolnobaaaGreatDoorEsA
import Derived.Test.YtfebdimolnobaaaGreatDoorKsA
import Derived.Test.YtfebdimolnobaaaGreatDoorMnE
import Derived.LaidMore
import Derived.OpenShut
import Derived.SizedLaws
import Derived.Carry
import Derived.Stop.Joined
import Derived.Stop.LaidErr
import Derived.Lib.LaidU8T
import Derived.Deep.DeepHandedRow
import Derived.Deep.DeepWitnessRowRef
set_option maxRecDepth 100000
set_option maxHeartbeats 8000000
set_option linter.all false
namespace Go.Proofs.YtfebdimolnobaaaGreatDoor
open Go.RowKit Go.Proofs.Tryz
abbrev tK:au:=⟨#[109,101,115,115,97,103,101,32,65,32,123,32,105,110,116,51,50,32,120,32,61,32,49,59,32,115,116,114,105,110,103,32,121,32,61,32,50,59,32,125]⟩
abbrev nK:au:=⟨#[65]⟩
abbrev iK:au:=⟨#[18,2,104,105,8,5]⟩
abbrev oK:au:=⟨#[8,5,18,2,104,105]⟩
def TC:Nat->PM->Bool
 |0,_=>false
 |k+1,m=>decide (m.fs.length<=4398046511104)&&decide (m.unk.size<=4398046511104)&&m.fs.all λx=>decide (x.2.length<=4398046511104)&&x.2.all λv=>decide (0<=v.1)&&decide (v.1<2^64)&&decide (v.2.1.size<=4398046511104)&&TC k v.2.2
def My:∀{k:Nat} {m:PM},TC k m=true->pi k m
 |0,_,h=>by cases h
 |k+1,m,h=>by
  rw[TC]at h;simp only[aQ,dS,ca]at h;exact⟨h.1.1,h.1.2,λx a=>⟨(h.2 x a).1,λv b=>⟨((h.2 x a).2 v b).1.1.1,((h.2 x a).2 v b).1.1.2,((h.2 x a).2 v b).1.2,My ((h.2 x a).2 v b).2⟩⟩⟩
def Rw (bs:List d9):Bool:=
 (match jj (er bs) nK iK with
 | .ok m=>TC 9 m&&decide (pX 9 m<=1000)&&((ko (er bs) nK m).1.data.toList==oK.data.toList)&&((ko (er bs) nK m).2==0)
 | .error _=>false)
def Rx:(match iU tK with| .ok bs=>Rw bs| .error _=>false)=true:=Vz
def Ry:∃bs m,iU tK= .ok bs/\jj (er bs) nK iK= .ok m/\pi 9 m/\pX 9 m<=1000/\(ko (er bs) nK m).1=oK/\(ko (er bs) nK m).2=0:=by
 have h:=Rx
 cases h1:iU tK with
 |error x=>rw[h1]at h;cases h
 |ok bs=>
  rw[h1]at h;change Rw bs=true at h;unfold Rw at h
  cases h2:jj (er bs) nK iK with
  |error x=>rw[h2]at h;cases h
  |ok m=>
   rw[h2]at h;simp only[aQ,dS,beq_iff_eq]at h;obtain⟨⟨⟨a,b⟩,c⟩,d⟩:=h;exact⟨bs,m,rfl,h2,My a,b,cS (cX.1 c),d⟩

section
open Go.Maps
open VH
def mI.lt {w:aw}{sb kp mk:Nat}{bs:List d9}{P:ax}(h:mI w sb kp mk bs P):P mk/\P kp/\mk<w.heap.size/\kp<w.heap.size:=by
 obtain⟨v,y,g,⟨d,b,c,e,f⟩,i,N,pm,a⟩:=h;exact⟨c,b,a.mb.lt,a.kb.lt⟩
def Po (w:aw)(a:GOK w)(K:BOK w)(g:UOK w):Calls prog 26 #[] w λe w'=>e= .returned (.bool true)/\ak w w':=by
 obtain⟨bs,m,N,O,u,p,F,G⟩:=Ry;have t:=DW N
 have n:∀d,(er bs).msg nK=some d->(eI (er bs) 8 d m).length<=2^47:=λd _=>by
  have:=qH (S:=er bs) 8 9 d m u;omega
 have J:=c5 w tK Vy a K;rw[N]at J;have z:Hid (∀W,ak w W->UOK W):=λW j=>g.O (j.block _ g.lt1) (j.block _ g.lt2)
 have d:Hid (∀(W:aw) (f c mk:Nat) (a:Int),ak w W->mI W f c mk bs (λb=>w.heap.size<=b)->a=1\/a=2->Vq 21 #[ah f,aa a,ag nK,ag iK] W (lR [mk,c] (λZ w'=>mI w' f c mk bs λx=>(w.heap.size<=x/\x<W.heap.size)\/(W.heap.size<=x/\¬Z x)) W (.ok m))):=λW f c mk a j k h=>by
  have:=Bb vj W f c mk bs _ nK iK a k t (z.o W j) Vy h (by have:=g.lt1;omega) (by have:=g.lt2;omega)
  rwa [O]at this
 have s:Hid (∀(W:aw) (f c mk:Nat) (a:Int) (P Z:ax) (i:Value),ak w W->mI W f c mk bs P->a=1\/a=2->(∀b,P b->w.heap.size<=b)->gV 9 W Z i m->(∀b,Z b->¬P b)->Vq 24 #[ah f,aa a,ag nK,.agg #[i,ag m.unk]] W λe w'=>e= .returned (.tuple #[ag oK,aa 0])/\ee [mk,c] W w'/\mI w' f c mk bs λx=>(P x/\x<W.heap.size)\/W.heap.size<=x):=λW f c mk a P Z i j k h o H l=>by
  have:=Pj false vj W f c mk bs P nK a Z 9 i m k t (z.o W j) h (λq=>by have:=o _ q;have:=g.lt1;omega) (λq=>by have:=o _ q;have:=g.lt2;omega) H l u n;rw[F,G]at this;exact this
 have K:Hid (∀(W:aw) (f c mk:Nat) (a:Int) (P Z:ax) (i:Value),ak w W->mI W f c mk bs P->a=1\/a=2->(∀b,P b->w.heap.size<=b)->gV 9 W Z i m->(∀b,Z b->¬P b)->Vq 25 #[ah f,aa a,ag nK,.agg #[i,ag m.unk]] W λe w'=>e= .returned (.tuple #[aa 6,aa 0])/\ee [mk,c] W w'/\mI w' f c mk bs λx=>(P x/\x<W.heap.size)\/W.heap.size<=x):=λW f c mk a P Z i j k h o H l=>by
  have:=Pj true vj W f c mk bs P nK a Z 9 i m k t (z.o W j) h (λq=>by have:=o _ q;have:=g.lt1;omega) (λq=>by have:=o _ q;have:=g.lt2;omega) H l u n;rw[F,G]at this;exact this
 clear n F G O p u;have g:(oK.toList==oK.toList)=true:=Vw;go_in
 go_wp2_with fail;refine J.V ?_;rintro e w1 ⟨⟨f,c,mk,rfl,g⟩,j⟩;have i:=g.toP t;go_wp2;go_loopw [4,5,6,7,8,9,10,11] (λI _ _ _ _ _ _ _ wr=>∃a:Nat,I=aa a/\1<=a/\a<=3/\mI wr f c mk bs (λb=>w.heap.size<=b)/\ak w wr) (λI _ _ _ _ _ _ _ _=>3-(intOf I).toNat)
 case atStart=>exact⟨1,rfl,Vv,Vv,i,j⟩
 case round=>
  obtain⟨a,rfl,g,i,k,B⟩:=hrel;by_cases hlt:a<3
  .have Q:(a:Int)<3:=Vv;have h:(a:Int)=1\/(a:Int)=2:=Vv;have⟨i,g,o,j⟩:=k.lt
   have A:∀x∈ [mk,c],w.heap.size<=x:=λx y=>by
    simp only[aR,bW,or_false]at y;rcases y with rfl|rfl<;>assumption
   have g:=d.o wr f c mk a B k h;go_wp2_with fail;refine g.V ?_;rintro e w2 ⟨v,E,rfl,R,l,rF,g⟩;obtain⟨V,X,rfl⟩:=R.form;have d:ak w w2:=B.J (rF.to_below B.size A);have⟨r,L⟩:=ec w2 #[.slice V m.fs.length X,ag m.unk] 49;have C:=dW d r;have s2:=rF.size;have d:=r.size;have d:=g.O (w':=w2.Vn #[.slice V m.fs.length X,ag m.unk] 49) λb _ n=>r.block b n
   have M:=R.toIn.rn.G r (aE _);have g:=s.o _ f c mk a _ E _ C d h (λb q=>by have:=B.size;rcases q with q|q<;>omega) M (λb q p=>p.elim (λp=>by have:=(l b q).1;omega) λp=>p.2 q);have⟨T,U⟩:=L.I;go_wp2_with fail;refine g.V ?_;rintro e Y ⟨rfl,D,g⟩
   have i:∀b,E b->b∉ [mk,c]:=λb q y=>by
    have:=(l b q).1;simp only[aR,bW,or_false]at y;omega
   have d:=L.kept D Vx;have s:ak w Y:=C.J (D.to_below C.size A);have j:=M.O (w':=Y) λb q n=>D.block b n (i b q)
   have i:=K.o _ f c mk a _ E _ s g h (λb q=>by have:=B.size;rcases q with⟨q|q,_⟩|q<;>omega) j (λb q p=>by
    have c:=l b q;rcases p with⟨p|p,_⟩|p;.omega
    .exact p.2 q
    .omega)
   clear T U;have⟨T,U⟩:=d.I;go_wp2_with fail;refine i.V ?_;rintro e g ⟨rfl,d,f⟩;have c:ak w g:=s.J (d.to_below s.size A);have d:=f.less (P':=λb=>w.heap.size<=b) λb q _=>by have:=B.size;have:=s.size;rcases q with⟨⟨q|q,_⟩|q,_⟩|q<;>omega
   go_wp2;go_roundw
   case rel=>exact⟨a+1,by go_num,Vv,Vv,d,c⟩
   case measure=>simp[intOf];omega
  .obtain rfl:a=3:=Vv;go_wp2;go_ret;exact⟨rfl,B⟩
end
section
open Go.Maps
def MG:Fx PM->PM
 | .error _=>PM.none
 | .ok m=>m
def Gr:Fx PM->Int×Int
 | .error x=>x
 | .ok _=>(0,0)
def lR.one {ks:aB}{K:(ax)->aw->Prop}{w:aw}{R:Fx PM}{e:Ending}{w':aw}(h:lR ks K w R e w'):
  ∃v Z,e= .returned (.tuple #[.agg #[v,ag (MG R).unk],aa (Gr R).1,aa (Gr R).2])/\qy 9 w' v (MG R) Z/\(∀b,Z b->w.heap.size<=b/\b<w'.heap.size)/\ee ks w w'/\K Z w':=by
 cases R with
 |error x=>exact⟨_,λ_=>False,h.1,qy.none 8 w' _,λ_ q=>q.elim,h.2.1,h.2.2⟩
 |ok m=>
  obtain⟨v,Z,a,c,d,f,g⟩:=h;exact⟨v,Z,a,c,d,f,g⟩
structure sI (w:aw)(sb kp mk:Nat)(bs:List d9)(R:ax)(W:aw):Prop where
 bel:ak w W
 low:∀b,b<w.heap.size->R b
 lt:∀b,R b->b<W.heap.size
 sch:∃P,mI W sb kp mk bs P/\∀b,R b->¬P b
structure qJ (R:ax)(W W':aw):Prop where
 size:W.heap.size<=W'.heap.size
 block:∀b,R b->W'.heap[b]?=W.heap[b]?
section
variable {w W W':aw} {sb kp mk:Nat} {bs:List d9} {R R':ax}
def qJ.blk (h:qJ R W W'){b:Nat}{cs:aq}{T:TypeId}(c:dZ W b cs T)(a:R b):dZ W' b cs T:=(h.block b a).J c
def qJ.J {W2:aw}(h:qJ R W W')(a:qJ R W' W2):qJ R W W2:=⟨aM h.size a.size,λb q=>(a.block b q).J (h.block b q)⟩
def qJ.less (h:qJ R W W')(hi:∀b,R' b->R b):qJ R' W W':=⟨h.size,λb q=>h.block b (hi b q)⟩
def sI.less (h:sI w sb kp mk bs R W)(hi:∀b,R' b->R b)(hl:∀b,b<w.heap.size->R' b):sI w sb kp mk bs R' W:=by
 have⟨P,c,a⟩:=h.sch;exact⟨h.bel,hl,λb q=>h.lt b (hi b q),P,c,λb q=>a b (hi b q)⟩
def qJ.mrn (h:qJ R W W'){k:Nat}{Z:ax}{v:Value}{m:PM}(hm:gV k W Z v m)(a:∀b,Z b->R b):gV k W' Z v m:=hm.O λb q _=>h.block b (a b q)
def sI.uok (h:sI w sb kp mk bs R W)(hu:UOK w):UOK W:=hu.O (h.bel.block _ hu.lt1) (h.bel.block _ hu.lt2)
def sI.step (h:sI w sb kp mk bs R W){P P':ax}(hk:ee [mk,kp] W W')(j:mI W sb kp mk bs P)(e:∀b,R b->¬P b)(c:mI W' sb kp mk bs P')(a:∀b,R' b->¬P' b)(hi:∀b,R b->R' b)(hlt:∀b,R' b->b<W'.heap.size):
  sI w sb kp mk bs R' W'/\qJ R W W':=by
 have⟨pm,k,_,_⟩:=j.lt;refine⟨⟨h.bel.J (hk.to_below h.bel.size λx d=> ?_),λb g=>hi b (h.low b g),hlt,P',c,a⟩,hk.size,λb f=>hk.block b (h.lt b f) λd=> ?_⟩
 .refine Nat.le_of_not_lt λi=>e x (h.low x i) ?_
  simp only[aR,bW,or_false]at d;rcases d with rfl|rfl<;>assumption
 grind
def sI.on (h:sI w sb kp mk bs R W)(hb:Below W.heap.size W W'):sI w sb kp mk bs (λx=>R x\/(W.heap.size<=x/\x<W'.heap.size)) W'/\qJ R W W':=by
 have⟨P,c,d⟩:=h.sch;have a:=hb.size;refine⟨⟨dW h.bel hb,λb q=> .inl (h.low b q),λb q=> ?_,_,(c.less (P':=λx=>P x/\x<W.heap.size) λx q a=>⟨q,a⟩).O (w':=W') λb _ a=>hb.block b a,λb q p=> ?_⟩,a,λb q=>hb.block b (h.lt b q)⟩
 .rcases q with q|q;.have:=h.lt b q;omega
  omega
 grind
def sI.dec (h:sI w sb kp mk bs R W)(hsb:ki bs)(hu:UOK w)(nm b:au)(m:b.size<=1800000000000)(way:Int)(n:way=1\/way=2):
  Vq 21 #[ah sb,aa way,ag nm,ag b] W λe W'=>
   ∃v Z,e= .returned (.tuple #[.agg #[v,ag (MG (jj (er bs) nm b)).unk],aa (Gr (jj (er bs) nm b)).1,aa (Gr (jj (er bs) nm b)).2])/\gV 9 W' Z v (MG (jj (er bs) nm b))/\sI w sb kp mk bs (λx=>R x\/Z x) W'/\qJ R W W':=by
 have⟨P,d,a⟩:=h.sch;refine(Bb vj W sb kp mk bs P nm b way d hsb (h.uok hu) m n (a _ (h.low _ hu.lt1)) (a _ (h.low _ hu.lt2))).V ?_;intro e W' q;have⟨v,Z,i,j,o,c,k⟩:=q.one;have r:=c.size
 have⟨f,g⟩:=h.step c d a k (R':=λx=>R x\/Z x) (λx q p=>by
  rcases q with q|q<;>rcases p with⟨p,l⟩|⟨p,l⟩
  .simp_all
  .have:=h.lt x q;omega
  .grind
  simp_all) (λx q=> .inl q) (λx q=>by
  rcases q with q|q;.have:=h.lt x q;omega
  simp_all)
 exact⟨v,Z,i,j.toIn.rn,f,g⟩
def sI.aft (h:sI w sb kp mk bs R W){P:ax}(d:mI W sb kp mk bs P)(c:∀b,R b->¬P b)(hk:ee [mk,kp] W W')(a:mI W' sb kp mk bs λx=>(P x/\x<W.heap.size)\/W.heap.size<=x):sI w sb kp mk bs R W'/\qJ R W W':=
 h.step hk d c a (λx q p=>by
  have:=h.lt x q
  grind) (λ_ q=>q) (λx q=>aI (h.lt x q) hk.size)
def sI.enc (h:sI w sb kp mk bs R W)(hsb:ki bs)(hu:UOK w)(nm:au)(way:Int)(r:way=1\/way=2){k:Nat}{Z:ax}{mv:Value}{m:PM}(n:gV k W Z mv m)(p:∀b,Z b->R b)(f:pi k m)(c:pX k m<=2^47):
  Vq 24 #[ah sb,aa way,ag nm,.agg #[mv,ag m.unk]] W λe W'=>e= .returned (.tuple #[ag (ko (er bs) nm m).1,aa (ko (er bs) nm m).2])/\sI w sb kp mk bs R W'/\qJ R W W':=by
 have⟨P,g,a⟩:=h.sch;refine(Pj false vj W sb kp mk bs P nm way Z k mv m g hsb (h.uok hu) r (a _ (h.low _ hu.lt1)) (a _ (h.low _ hu.lt2)) n (λb q=>a b (p b q)) f λd _=>aM (qH 8 k d m f) c).V ?_;rintro e W' ⟨i,j,l⟩;exact⟨i,h.aft g a j l⟩
def sI.siz (h:sI w sb kp mk bs R W)(hsb:ki bs)(hu:UOK w)(nm:au)(way:Int)(r:way=1\/way=2){k:Nat}{Z:ax}{mv:Value}{m:PM}(n:gV k W Z mv m)(p:∀b,Z b->R b)(f:pi k m)(c:pX k m<=2^47):
  Vq 25 #[ah sb,aa way,ag nm,.agg #[mv,ag m.unk]] W λe W'=>e= .returned (.tuple #[aa (ko (er bs) nm m).1.size,aa (ko (er bs) nm m).2])/\sI w sb kp mk bs R W'/\qJ R W W':=by
 have⟨P,g,a⟩:=h.sch;refine(Pj true vj W sb kp mk bs P nm way Z k mv m g hsb (h.uok hu) r (a _ (h.low _ hu.lt1)) (a _ (h.low _ hu.lt2)) n (λb q=>a b (p b q)) f λd _=>aM (qH 8 k d m f) c).V ?_;rintro e W' ⟨i,j,l⟩;exact⟨i,h.aft g a j l⟩
def sI.new {w1:aw}(hb:ak w W)(d:w.heap.size<=w1.heap.size)(a:w1.heap.size<=W.heap.size)(c:Eg W sb kp mk bs w1.heap.size)(hsb:ki bs):sI w sb kp mk bs (λb=>b<w1.heap.size) W:=
 ⟨hb,λb q=>Vv,λb q=>Vv,_,c.toP hsb,λb q p=>Vv⟩
end
end
def kH.get {α β:Type}{R:β->α->Prop}:∀{xs:List β} {l:List α},kH R xs l->∀{i:Nat} {x:β},xs[i]?=some x->∃y,l[i]?=some y/\R x y
 | [],[],_,i,x,h=>by simp at h
 |a::xs,b::l,h,0,x,hx=>⟨b,rfl,by cases hx;exact h.1⟩
 |a::xs,b::l,h,i+1,x,hx=>by simpa using kH.get h.2 (i:=i) (by simpa using hx)
 | [],b::l,h,_,_,_=>h.elim
 |a::xs,[],h,_,_,_=>h.elim
def kH.back {α β:Type}{R:β->α->Prop}:∀{xs:List β} {l:List α},kH R xs l->∀{y:α},y∈l->∃x∈xs,R x y
 | [],[],_,y,h=>by cases h
 |a::xs,b::l,h,y,c=>by
  rcases aR.1 c with rfl|c;.exact⟨a,aZ,h.1⟩
  .have⟨x,e,d⟩:=kH.back h.2 c
   exact⟨x,aY _ e,d⟩
 | [],b::l,h,_,_=>h.elim
 |a::xs,[],h,_,_=>h.elim
def kH.fore {α β:Type}{R:β->α->Prop}{xs:List β}{l:List α}(h:kH R xs l){x:β}(d:x∈xs):∃y∈l,R x y:=by
 have⟨i,c⟩:=bX.1 d;have⟨y,a,b⟩:=h.get c;exact⟨y,aL a,b⟩
section
variable {fs:List F3} {ps:List fK}
def De {k:Nat}{x:F3}:(k,x)∈zI fs fs.length<->fs[k]?=some x:=by
 unfold zI;rw[aS];constructor;.rintro⟨j,a,e⟩;rw[List.mem_range]at a;cases e;rw[aO a];rfl
 .intro h;exact⟨k,List.mem_range.2 (bn.1 h).1,by rw[h];rfl⟩
def Si (k:Nat)(x:F3)(f:fw):Prop:=∃o r,f=ic o r/\((x.2.1≠3/\o=none/\wy k x (vQ x.2.1) r)\/(x.2.1=3/\(∃q,o=some (bl [111],q))/\wy k x 3 r))
def P4 (h:kH (Dd fs) (iH fs) ps){k:Nat}{x:F3}(g:fs[k]?=some x):∃f∈ps.flatMap (λp=>p.fields.map (ic p.oneof)),Si k x f:=by
 by_cases h3:x.2.1=3;.have a:(k,x)∈ones fs:=bA.2 ⟨De.2 g,by simp[sG,h3]⟩;have b:none∈iH fs:=aW.2 (.inr (by rw[dQ (λe=>by rw[e]at a;cases a)];simp));obtain⟨p,c,o,rs,rfl,d⟩:=h.fore b;have⟨r,i,j⟩:=d.fore a;exact⟨_,List.mem_flatMap.2 ⟨_,c,aS.2 ⟨r,i,rfl⟩⟩,_,_,rfl,.inr ⟨h3,⟨o,rfl⟩,j⟩⟩
 .have b:some (k,x)∈iH fs:=aW.2 (.inl (aS.2 ⟨_,bA.2 ⟨De.2 g,by simp[sG,h3]⟩,rfl⟩));obtain⟨p,c,r,rfl,d⟩:=h.fore b;exact⟨_,List.mem_flatMap.2 ⟨_,c,aS.2 ⟨r,ba.2 rfl,rfl⟩⟩,_,_,rfl,.inl ⟨h3,rfl,d⟩⟩
def IL (h:kH (Dd fs) (iH fs) ps){f:fw}(e:f∈ps.flatMap (λp=>p.fields.map (ic p.oneof))):∃k x,fs[k]?=some x/\Si k x f:=by
 have⟨p,m,e⟩:=List.mem_flatMap.1 e;obtain⟨r,j,rfl⟩:=aS.1 e;have⟨n,a,i⟩:=h.back m;rcases aW.1 a with a|a;.obtain⟨⟨k,x⟩,g,rfl⟩:=aS.1 a;have⟨b,d⟩:=bA.1 g;obtain⟨q,rfl,c⟩:=i;obtain rfl:=ba.1 j;exact⟨k,x,De.1 b,_,_,rfl,.inl ⟨by simpa [sG]using d,rfl,c⟩⟩
 .split at a;.cases a
  .obtain rfl:=ba.1 a;obtain⟨o,rs,rfl,l⟩:=i;have⟨⟨k,x⟩,g,c⟩:=l.back j;have⟨b,d⟩:=bA.1 g;exact⟨k,x,De.1 b,_,_,rfl,.inr ⟨by simpa [sG]using d,⟨o,rfl⟩,c⟩⟩
end
def Sj:∀k:Fin 7,jd (bl (gu (k.val+1)))=k.val+1:=Vz
def NC:∀h:Fin 5,h.val≠3->gQ (rI none (vQ h.val)) xD=decide (h.val=4)/\gQ (rI none (vQ h.val)) Dx=decide (h.val=1)/\gQ (rI none (vQ h.val)) eS=decide (h.val=0)/\i9 (rI none (vQ h.val))=false:=Vz
def P5:gQ (oL (bl [111])) xD=false/\gQ (oL (bl [111])) Dx=false/\gQ (oL (bl [111])) eS=false/\i9 (oL (bl [111]))=true:=Vz
def E9 {S:eF}(a:S.es= [bl [69]]):∀{t:Nat},t<19->S.base (bl (gI t))=if 15<t then 16 else t:=by
 intro t b;have h:∀t:Fin 19,(match Di m9 (bl (gI t.val)).toList 0 with|some k=>k|none=>if fk [bl [69]] (bl (gI t.val))then 15 else 16)=if 15<t.val then 16 else t.val:=Vz;unfold eF.base;rw[a];exact h ⟨t,b⟩
def ND {S:eF}{M:Nat->MT}{k n:Nat}{x:F3}{f:fw}(u:S.es= [bl [69]])(hm:∀j,j<n->S.msg (bl (77::gu j))=some (M j))(B:n<=3)(v:x.1<16+n/\x.2.1<5/\x.2.2∈ig/\(x.2.1≠4->x.2.2=0))(m:k<7)(h:Si k x f):
  RY S M x f/\f.num=((k+1:Nat):Int)/\i9 f.how=decide (x.2.1=3):=by
 obtain⟨o,r,rfl,p⟩:=h;have l:wy k x r.form r:=by rcases p with⟨_,_,h⟩|⟨_,_,h⟩<;>exact⟨rfl,by rw[h.form];exact h.key,h.type,h.name,h.num⟩
 have s:(ic o r).ty=bl (gI x.1):=l.type;have z:(ic o r).num=((k+1:Nat):Int):=by show((jd r.num.1:Nat):Int)=_;rw[l.num,Sj ⟨k,m⟩]
 have i:gQ (ic o r).how xD=decide (x.2.1=4)/\gQ (ic o r).how Dx=decide (x.2.1=1)/\gQ (ic o r).how eS=decide (x.2.1=0)/\i9 (ic o r).how=decide (x.2.1=3):=by
  rcases p with⟨g,rfl,h⟩|⟨g,⟨q,rfl⟩,h⟩
  .have:=NC ⟨x.2.1,v.2.1⟩ g;have e:(ic none r).how=rI none (vQ x.2.1):=by show rI none r.form=_;rw[h.form]
   rw[e];exact⟨this.1,this.2.1,this.2.2.1,by rw[decide_eq_false g];exact this.2.2.2⟩
  .obtain⟨a,b,c,d⟩:=P5;rw[g];exact⟨a,b,c,d⟩
 refine⟨⟨by rw[s];exact E9 u Vv,λt=> ?_,i.1,i.2.1,i.2.2.1,λA=> ?_⟩,z,i.2.2.2⟩;.rw[s];unfold gI;rw[dR t];exact hm _ Vv
 .have w:r.form=4:=by
   rcases p with⟨_,_,h⟩|⟨g,_⟩;.rw[h.form,A];rfl
   .omega
  have:=l.key;rw[dR w]at this;show S.base (jM r.key)=_
  cases m:r.key with
  |none=>rw[m]at this;cases this
  |some y=>
   rw[m]at this;have e:y.1=bl (gI x.2.2):=by simpa using this
   have t:x.2.2<14:=by have:=v.2.2.1;simp[ig]at this;omega
   show S.base y.1=_;rw[e,E9 u Vv,dQ Vv]
def Bp {nm:au}:∀{l:List MT} {j:Nat} {m:MT},l[j]?=some m->gQ m.name nm=true->(∀k a,k<j->l[k]?=some a->gQ a.name nm=false)->lw l nm=some m
 | [],j,m,h,_,_=>by simp at h
 |a::l,0,m,h,hn,_=>by
  cases h
  rw[lw,dR hn]
 |a::l,j+1,m,h,hn,hk=>by
  rw[lw,dQ (by rw[hk 0 a Vv rfl];decide)];exact Bp (by simpa using h) hn λk b d c=>hk (k+1) b Vv (by simpa using c)
def QC:∀j k:Fin 3,gQ (bl (77::gu j.val)) (bl (77::gu k.val))=decide (j=k):=Vz
def vR {n:Int}:∀{l:List fw},(∀f∈l,f.num≠n)->ed l n=none
 | [],_=>rfl
 |f::l,h=>by rw[ed,dQ (h f aZ)];exact vR λg a=>h g (aY _ a)
def Sk {bs:List d9}{L:List (List F3)}(H:ki bs)(m:Bf L)(h:kH wz (NW L L.length) bs):∃M,EW (er bs) L M/\(er bs).msg (bl (77::gu 0))=some (M 0)/\M 0∈(er bs).ms:=by
 have⟨_,Y⟩:=Sb H
 obtain⟨e,ms,rfl,a,N⟩:∃e ms,bs=e::ms/\wz none e/\kH wz ((List.range L.length).map λi=>some (i,(L[i]?).getD [])) ms:=by
  cases bs with
  |nil=>exact h.elim
  |cons e ms=>exact⟨e,ms,rfl,h.1,h.2⟩
 have l:∀{i:Nat} {fs:List F3},L[i]?=some fs->∃b,ms[i]?=some b/\wz (some (i,fs)) b:=fun{i fs} g=>by
  have c:i<L.length:=(bn.1 g).1;exact N.get (by rw[aT,List.getElem?_range c];simp[g])
 have K:∀b∈ms,b.enum=false:=λb l=>by
  have⟨x,v,c⟩:=N.back l;obtain⟨i,_,rfl⟩:=aS.1 v;obtain⟨p,ps,rfl,_⟩:=c;rfl
 have B:e.enum=true/\e.name.1=bl [69]:=(by obtain⟨p,q,r,rfl⟩:=a;exact⟨rfl,rfl⟩);have O:(er (e::ms)).ms=ms.map me:=(by show(List.filter (λb=> !b.enum) (e::ms)).map me=_;rw[cm,dQ (by rw[B.1];decide),dd.2 λb l=>by rw[K b l];rfl]);have D:(er (e::ms)).es= [bl [69]]:=(by show((e::ms).filter λb=>b.enum).map (λb=>b.name.1)=_;rw[cm,dR B.1,List.filter_eq_nil_iff.2 λb l=>by rw[K b l];decide];simp[B.2])
 have u:∀{i:Nat} {fs:List F3},L[i]?=some fs->∃ps,((ms.map me)[i]?)=some ⟨bl (77::gu i),ps.flatMap λp=>p.fields.map (ic p.oneof)⟩/\kH (Dd fs) (iH fs) ps:=fun{i fs} g=>by
  obtain⟨b,U,p,ps,rfl,c⟩:=l g;exact⟨ps,by rw[aT,U];rfl,c⟩
 have w:∀j,j<L.length->(er (e::ms)).msg (bl (77::gu j))=some (((ms.map me)[j]?).getD ⟨eS,[]⟩):=λj F=>by
  have⟨fs,s⟩:=gx F;have⟨ps,c,_⟩:=u s;have a:=m.few.2;unfold eF.msg;rw[O,c];refine Bp c (by have:=QC ⟨j,Vv⟩ ⟨j,Vv⟩;simpa using this) λk a b P=> ?_
  have⟨W,S⟩:=gx (show k<L.length by omega);have⟨a,T,_⟩:=u S;rw[T]at P;cases P;have:=QC ⟨k,Vv⟩ ⟨j,Vv⟩;simp only[Fin.mk.injEq]at this;rw[decide_eq_false Vv]at this;exact this
 have J:∀{i:Nat} {d:MT},(ms.map me)[i]?=some d->d∈(er (e::ms)).ms:=λZ=>by rw[O];exact aL Z
 refine⟨λi=>((ms.map me)[i]?).getD ⟨eS,[]⟩,⟨λi fs k x g v=> ?_,λi g=> ?_⟩,w 0 (by have:=m.few.1;omega),?_⟩
 .have⟨ps,c,A⟩:=u g;have⟨_,X,z⟩:=m.fs fs (aL g);have b:k<fs.length:=(bn.1 v).1;simp only[c,Option.getD_some];have⟨f,E,V⟩:=P4 A v;have⟨b,d,R⟩:=ND D w m.few.2 (z x (aL v)) Vv V;refine⟨f,?_,b,λn a=> ?_⟩;.rw[<-d];exact rA (Y _ (J c)) E
  .have⟨o,b,d,e,G,_⟩:=ue.1 a;have⟨j,y,t,C⟩:=IL A b;have F:j<fs.length:=(bn.1 t).1;have⟨_,I,Q⟩:=ND D w m.few.2 (z y (aL t)) Vv C;rw[R,dS]at G;refine⟨G,j,y,by rw[<-d,I],t,?_⟩;rw[e,R,G]at Q;simpa using Q.sy
 .have⟨fs,s⟩:=gx g;have⟨ps,c,A⟩:=u s;simp only[c,Option.getD_some];refine vR λf E=> ?_
  have⟨j,y,t,C⟩:=IL A E;have⟨_,X,z⟩:=m.fs fs (aL s);have F:j<fs.length:=(bn.1 t).1;have⟨_,I,_⟩:=ND D w m.few.2 (z y (aL t)) Vv C;rw[I];omega
 .have⟨fs,s⟩:=gx (show 0<L.length by have:=m.few.1;omega);have⟨ps,c,_⟩:=u s;simp only[c,Option.getD_some];exact J c
def Af {bs:List d9}{L:List (List F3)}{more:ar}{nm:au}(d:nm=bl (77::gu 0))(b:ki bs)(a:Bf L)(h:kH wz (NW L L.length) bs):
  (gM more L 7 0 0).2<4398046511104/\pi 9 (gM more L 7 0 0).1/\pX 9 (gM more L 7 0 0).1<=1783347818829/\(ko (er bs) nm (gM more L 7 0 0).1).2=0/\(ko (er bs) nm (gM more L 7 0 0).1).1.size<=1783347818829/\jj (er bs) nm (ko (er bs) nm (gM more L 7 0 0).1).1= .ok (gM more L 7 0 0).1:=by
 have⟨M,j,f,g⟩:=Sk b a h;have⟨i,_⟩:=Sb b;have m:(gM more L 7 0 0).2<=0+104012863242:=CZ (raw:=more) a 7 0 0;have p:wK (9+1) (gM more L 7 0 0).1+4+8*0<=8*(gM more L 7 0 0).2:=IB (raw:=more) a 7 0 0;have l:=Db (raw:=more) a 7 0 0;have e:=uh (raw:=more) j a 7 0 0 (by have:=a.few.1;omega);have o:pX 9 (gM more L 7 0 0).1<=1783347818829:=ID (raw:=more) a 7 0 0;generalize gM more L 7 0 0=X at*;have c:=Nd 9 X.1 l Vv;have n:=qH (S:=er bs) 8 9 (M 0) X.1 c;subst d;have k:ko (er bs) (bl (77::gu 0)) X.1=(bl (eI (er bs) 8 (M 0) X.1),0):=(by unfold ko;rw[f];simp only;rw[dR e,dR e];rfl);rw[k];refine⟨Vv,c,Vv,rfl,?_,?_⟩;.show(bl (eI (er bs) 8 (M 0) X.1)).size<=_;rw[fT];omega
 .rw[ML,f];exact CT i 8 1 (M 0) X.1 9 rfl (.inl g) e c Vv
section
open Go.Maps
open VH
def Sw:au:=⟨#[77,48]⟩
def Sl (w:aw)(rv ov:Value)(raw more:ar)(g:GOK w)(r:BOK w)(K:UOK w)(h:∀x∈raw,JH x)(f:raw.length<=9223372036854775807)(n:iz w (λb=>b<w.heap.size) rv raw.length (raw.map λx=>aa x))
  (i:∀x∈more,JH x) (c:more.length<=9223372036854775807) (a:iz w (λb=>b<w.heap.size) ov more.length (more.map λx=>aa x)):
  Calls prog 7 #[rv,ov] w λe w'=>e= .returned (.bool true)/\ak w w':=by
 have c:=Po w g r K;have t:=MV raw;obtain⟨u,y,rfl⟩:=a.form;go_in
 go_wp2_with fail;refine c.V ?_;rintro e w1 ⟨rfl,d⟩;have s:=Ps w1 rv raw h f ((n.O λb _ l=>d.block b l).V λb _ l=>l);generalize sE raw=L at*;clear c n;go_wp2_with fail;refine s.V ?_;rintro e w2 ⟨v,Y,vs,rfl,n,D,c,f⟩;have c:=dW d f;have⟨P,z⟩:=ec w2 #[v] 68;have U:=n.O (w':=w2.alloc (am #[v] 68)) λb _ l=>P.block b l
 have F:=D.O (w':=w2.alloc (am #[v] 68)) λb _ l=>P.block b l
 have h:=RH (w2.alloc (am #[v] 68)) v Y vs L t U F;obtain⟨j,m,rfl⟩:=n.form;have⟨d,f⟩:=z.I;clear s;go_wp2_with fail;generalize w2.alloc (am #[.slice j L.length m] 68)=w3 at*;refine h.V ?_;rintro e q ⟨⟨rfl,p⟩,o⟩;have k:=dW P o;have G:=dW c k;have⟨bs,c,E⟩:=GO t p;have A:=DW c;have s:=c5 q (qL L) Vv (g.O (G.block _ g.lt)) (r.O (G.block _ r.lt));rw[c]at s;clear h d f c;go_wp2_with fail;refine s.V ?_;rintro e c ⟨⟨O,M,mk,rfl,hS⟩,g⟩;have V:=dW G g;clear s;have P:=sI.new V G.size g.size hS A;have⟨C,B,Wf,k,Wh,T⟩:=Af (more:=more) (nm:=Sw) rfl A t E;have h:=V.size;have H:ak w3 c:=dW o g;have⟨o,G⟩:=ec c #[.slice u more.length y,aa 0] 73;have s:=z.G H z.lt;have g:=H.size
 have r:Cx (c.alloc (am #[.slice u more.length y,aa 0] 73)) (c.heap.size+1) c.heap.size more 0 (.slice j L.length m) vs L:=
  ⟨⟨i,Vv,⟨_,G,((a.O λb _ l=>V.block b l).O λb q l=>o.block b l).V λb q _=>⟨Vv,Vv⟩⟩,λh=>h.2 rfl⟩,
   (((U.V (Y:=λb=>b<w3.heap.size) λb _ l=>l).O λb _ l=>H.block b l).O λb _ l=>o.block b l).V λb q _=>⟨Vv,Vv⟩,
   ⟨F.1,λp fs v g i=>(((((F.2 p fs v g i).V (Y:=λb=>b<w3.heap.size) λb _ l=>l).O λb _ l=>H.block b l).O λb _ l=>o.block b l).V λb q _=>⟨Vv,Vv⟩)⟩,Vv,Vw⟩
 have Q:=ry (c.heap.size+1) c.heap.size more (.slice j L.length m) vs L t 7 Vv _ 0 0 r (by have:=t.few.1;omega) C;have j:Hid _:=T;have v:=B.ln;generalize gM more L 7 0 0=X at*;obtain⟨m,g⟩:=X;simp only at B Wf k Wh T j v Q;have⟨d,f⟩:=(s.G o (by have:=z.lt;omega)).I;clear C T E D F n U t a;go_wp2_with fail;refine Q.V ?_;rintro e g ⟨N,rfl,J,U,n⟩;simp only at J;obtain⟨D,E,rfl⟩:=J.form;have T:(c.alloc (am #[.slice u more.length y,aa 0] 73)).heap.size=c.heap.size+1:=Vw;have Bx:ak c g:=o.J (n.to_below Vv λx a=>by simp at a;omega);have⟨t,H⟩:=P.on Bx;have a:=n.size;have⟨a,S⟩:=ec g #[.slice D m.fs.length E,ag m.unk] 49;have⟨u,L⟩:=t.on a;have F:gV 9 _ (λb=>c.heap.size<=b/\b<g.heap.size) (.slice D m.fs.length E) m:=(J.V (Y:=λb=>c.heap.size<=b/\b<g.heap.size) λb q l=>⟨Vv,l⟩).G a (aE _);have a:=λR W (h:sI w O M mk bs R W) (way:Int) hw Z N (y:gV 9 W Z N m) hZ=>h.enc A K Sw way hw y hZ B Vv
 have i:=λR W (h:sI w O M mk bs R W) (way:Int) hw Z N (y:gV 9 W Z N m) hZ=>h.siz A K Sw way hw y hZ B Vv
 have I:=λR W (h:sI w O M mk bs R W) (way:Int) hw=>h.dec A K Sw (ko (er bs) Sw m).1 Vv way hw
 rw[j.o]at I;rw[k]at a i;simp only[MG,Gr]at I;generalize(ko (er bs) Sw m).1=C at*;have l:Hid _:=a;have p:Hid _:=i;have h:Hid _:=I;clear a i I j k Wh Wf B d f Q r P t H L J U n Bx o G s z hS T;go_wp2_with fail;generalize g.alloc (am #[.slice D m.fs.length E,ag m.unk] 49)=w9 at*;go_loopw [12] (λa wr=>∃(k:Nat) (R:ax),1<=k/\k<=3/\a=aa k/\sI w O M mk bs R wr/\R g.heap.size/\(∀b,c.heap.size<=b/\b<g.heap.size->R b)/\dZ wr g.heap.size #[.slice D m.fs.length E,ag m.unk] 49/\gV 9 wr (λb=>c.heap.size<=b/\b<g.heap.size) (.slice D m.fs.length E) m) (λa _=>3-(intOf a).toNat)
 case atStart=>exact⟨1,_,aE _,Vv,rfl,u,.inr ⟨aE _,S.lt⟩,λb q=> .inl (.inr q),S,F⟩
 case round=>
  clear u S F;obtain⟨k,R,a,c,rfl,o,u,j,g,y⟩:=hrel;by_cases hk:k<3
  .have a:(k:Int)<3:=Vv;have a:(k:Int)=1\/(k:Int)=2:=Vv;have s:(3:Int)-k=1\/(3:Int)-k=2:=Vv;have i:=l.o _ _ o k a _ _ y j;have⟨d,f⟩:=g.I;go_wp2_with fail;refine i.V ?_;rintro e c ⟨rfl,r,n⟩;have c:=n.blk g u;have g:=n.mrn y j;have i:=p.o _ _ r k a _ _ g j;clear d f;have⟨d,f⟩:=c.I;go_wp2_with fail;refine i.V ?_;rintro e r ⟨rfl,n,a⟩;have r:=a.blk c u;have t:=a.mrn g j;have i:=h.o _ _ n (3-(k:Int)) s;clear d f;go_wp2_with fail;refine i.V ?_;rintro e c ⟨y,s,rfl,n,g,a⟩;obtain⟨A,B,rfl⟩:=n.form;have y:=a.blk r u;have z:=a.mrn t j;have⟨r,s⟩:=ec c #[.slice A m.fs.length B,ag m.unk] 49;have⟨m,a⟩:=g.on r;have c:=a.blk y (.inl u);have g:=a.mrn z λb q=> .inl (j b q)
   have r:=a.mrn n λb q=> .inr q
   have i:=MF 9 _ _ _ _ _ _ r g v;have⟨d,f⟩:=c.I;have⟨a,n⟩:=s.I;clear l p h;go_wp2_with fail;refine i.V ?_;rintro e l ⟨rfl,h⟩;clear d f a n i;have⟨d,a⟩:=m.on h;have f:=a.blk c (.inl (.inl u));have c:=a.mrn g λb q=> .inl (.inl (j b q))
   go_wp2;go_roundw
   case rel=>exact⟨k+1,_,Vv,Vv,by go_num,d,.inl (.inl (.inl u)),λb q=> .inl (.inl (.inl (j b q))),f,c⟩
   case measure=>simp[intOf];omega
  .obtain rfl:k=3:=Vv;have a:=o.bel;go_wp2;go_ret;exact⟨rfl,a⟩
end
section
open Go.ChangeShapes Go.WideShapes Go.ChangeAt Go.RowKit
def own:ownKnob prog.godebug=none:=VA
def NJ:prog.globalNamed "strconv.ErrRange" =some 5:=VA
def P6:(prog.globals[5]?).map (·.type)=some 354:=VA
def NK:prog.globalNamed "twinwire/model.baseWords" =some 0:=VA
def P7:(prog.globals[0]?).map (·.type)=some 427:=VA
def Sn:prog.cellsOf 493=1:=VA
def So:prog.cellsOf 427=15:=VA
def Tr: "*" ++ "errors.errorString" = "*errors.errorString" :=Vy
def Ur (u:TypeId)(h:prog.typeName? 3 u=some "*errors.errorString"):u=491:=
 typeName_ptr_named (nm:= "errors.errorString") (by rw[Tr];kernel_rfl) VA Vy u (by rw[Tr];exact h)
def GP:Rows.laid_unicode_utf8_first=Lib.firstData:=VA
def Fb:(Rows.laid_unicode_utf8_acceptRanges:DataW Unit)=Lib.acceptData:=VA
def gm {H:Type}{enc:TypeId×Value->H}{P:Program}{w:aw}{base:Nat}{sp:Nat->Bool}{held:Bool}{fuel:Nat}{t:TypeId}{c:Value}{y:DataW H×List MemPlace}
  (d:P.underlying t=some .string) (h:DataW.trod enc P w base sp held fuel t [c]=some y):∃s,c=ag s/\y=(.lit (.string s.data.toList),[]):=by
 have⟨s,a,b,_⟩:=DataW.trod_string d h;exact⟨s,List.cons.inj a|>.1,b⟩
def NL {W:aw}(h:Lib.VarReads prog W "twinwire/model.baseWords" Rows.laid_twinwire_model_baseWords):BOK W:=by
 obtain⟨g,t,cs,fuel,p,S,V,A,a⟩:=h;obtain rfl:=Option.some.inj (NK.sy.J S);obtain rfl:=Option.some.inj (P7.sy.J V)
 have R:cs=(Fh.map Value.string).toArray:=by
  obtain⟨l⟩:=cs
  cases fuel with
  |zero=>simp[DataW.trod]at a
  |succ fuel=>
   simp only[DataW.trod,underlying427,So,IM]at a;split at a
   .rename_i U
    obtain⟨n,o,q,r,s,c5,u,w,x,y,b,k,m,St,Ss,rfl⟩:∃n o q r s c5 u w x y b k m St Ss,l= [n,o,q,r,s,c5,u,w,x,y,b,k,m,St,Ss]:=by
     match l,U with
     | [a0,a1,a2,a3,a4,a5,a6,a7,a8,a9,a10,a11,a12,a13,a14],_=>exact⟨a0,a1,a2,a3,a4,a5,a6,a7,a8,a9,a10,a11,a12,a13,a14,rfl⟩
    have e:List.range 15= [0,1,2,3,4,5,6,7,8,9,10,11,12,13,14]:=rfl;rw[e]at a;simp only[bi,List.mapM_cons,List.mapM_nil,Option.bind_eq_bind,Option.bind_eq_some_iff,Option.pure_def,Option.some.injEq]at a;obtain⟨xs,⟨y0,H,_,⟨y1,I,_,⟨y2,J,_,⟨y3,K,_,⟨y4,L,_,⟨y5,M,_,⟨y6,N,_,⟨y7,O,_,⟨y8,P,_,⟨y9,Q,_,⟨y10,B,_,⟨y11,C,_,⟨y12,D,_,⟨y13,E,_,⟨y14,F,_,rfl,rfl⟩,rfl⟩,rfl⟩,rfl⟩,rfl⟩,rfl⟩,rfl⟩,rfl⟩,rfl⟩,rfl⟩,rfl⟩,rfl⟩,rfl⟩,rfl⟩,rfl⟩,z⟩:=a;obtain⟨n0,rfl,rfl⟩:=gm underlying9 H;obtain⟨n1,rfl,rfl⟩:=gm underlying9 I;obtain⟨n2,rfl,rfl⟩:=gm underlying9 J;obtain⟨n3,rfl,rfl⟩:=gm underlying9 K;obtain⟨n4,rfl,rfl⟩:=gm underlying9 L;obtain⟨n5,rfl,rfl⟩:=gm underlying9 M;obtain⟨n6,rfl,rfl⟩:=gm underlying9 N;obtain⟨n7,rfl,rfl⟩:=gm underlying9 O;obtain⟨n8,rfl,rfl⟩:=gm underlying9 P;obtain⟨n9,rfl,rfl⟩:=gm underlying9 Q;obtain⟨X,rfl,rfl⟩:=gm underlying9 B;obtain⟨Y,rfl,rfl⟩:=gm underlying9 C;obtain⟨Z,rfl,rfl⟩:=gm underlying9 D;obtain⟨n13,rfl,rfl⟩:=gm underlying9 E;obtain⟨n14,rfl,rfl⟩:=gm underlying9 F;simp[Rows.laid_twinwire_model_baseWords]at z;obtain⟨⟨x0,x1,x2,x3,x4,x5,x6,x7,x8,x9,c,d,f,G,j⟩,_⟩:=z;rw[jB x0,jB x1,jB x2,jB x3,jB x4,jB x5,jB x6,jB x7,jB x8,jB x9,jB c,jB d,jB f,jB G,jB j];rfl
   .cases a
 intro i v T;rw[World.var?_cell NK (R▸A) i];simpa using T
def Fc {W:aw}(h:laidMetH prog Rows.backRow.laid W):GOK W/\BOK W/\UOK W:=by
 rw[MakeChecks.laidMetH_plain _ _ _ VA]at h;have b:∀n d,(n,d)∈Rows.backRow.laid->Lib.VarReads prog W n d:=λn d g=>Lib.laidMet.reads h g
 have f:laidMet prog [("strconv.ErrRange",Rows.laid_strconv_ErrRange), ("strconv.ErrSyntax",Rows.laid_strconv_ErrSyntax), ("twinwire/model.baseWords",Rows.laid_twinwire_model_baseWords), ("unicode/utf8.first",Rows.laid_unicode_utf8_first)] W:=h.tail.tail.tail.tail;have⟨a,s,i,_⟩:=laid_sentinel f NJ P6 underlying354 Ur underlying491 underlying493 rfl rfl underlying9 Sn IM;refine⟨⟨_,by simpa using World.var?_cell NJ i 0,.inr ⟨_,_,rfl⟩⟩,NL (b _ _ (by simp[Rows.backRow])),?_⟩;have c:=b "unicode/utf8.first" _ (.tail _ (.tail _ (.tail _ (.tail _ (.tail _ (.tail _ (.tail _ (.head _))))))));have e:=b "unicode/utf8.acceptRanges" _ (.tail _ (.tail _ (.tail _ (.head _))));rw[GP]at c;rw[Fb]at e;exact utf8Tabs_of_readsT (U8Types.of196 Tryz.laysVs) ⟨VA,VA,VA,VA,VA,VA,VA⟩ c e
end
end Go.Proofs.YtfebdimolnobaaaGreatDoor
