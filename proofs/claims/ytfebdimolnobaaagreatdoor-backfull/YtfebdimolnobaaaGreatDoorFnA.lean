import Derived.Test.YtfebdimolnobaaaGreatDoorEnD
set_option maxRecDepth 100000
set_option maxHeartbeats 8000000
set_option linter.all false
namespace Go.Proofs.YtfebdimolnobaaaGreatDoor
open Go.RowKit Go.Proofs.Tryz
def sy:ay->List PV->ay
 |mv::ms,v::vs=> .int .u64 v.1::ag v.2.1::mv::ag v.2.2.unk::sy ms vs
 |_,_=> []
def sA:ay->List PF->ay
 |vv::r,f::fs=>aa f.1::vv::sA r fs
 |_,_=> []
def vH:∀{a:ay} {l:List PV} {b:ay} {r:List PV},a.length=l.length->sy (a++b) (l++r)=sy a l++sy b r
 | [],[],_,_,_=>VB
 | [],_::_,_,_,h=>by grind
 |_::_,[],_,_,h=>by grind
 |mv::a,v::l,b,r,h=>by simp[sy,vH (a:=a) (l:=l) (b:=b) (r:=r) (by grind)]
def vI:∀{a:ay} {l:List PF} {b:ay} {r:List PF},a.length=l.length->sA (a++b) (l++r)=sA a l++sA b r
 | [],[],_,_,_=>VB
 | [],_::_,_,_,h=>by grind
 |_::_,[],_,_,h=>by grind
 |mv::a,v::l,b,r,h=>by simp[sA,vI (a:=a) (l:=l) (b:=b) (r:=r) (by grind)]
abbrev FY:=Value->PM->(ax)->Prop
def kA (P:FY)(w:aw)(A:ax)(vv:Value)(l:List PV):Prop:=
 ∃ms Y,eP w A 55 4 vv l.length (sy ms l)/\(∀b,vv.ownBlock=some b->¬Y b)/\(∀b,Y b->A b)/\j0 (λa v C=>P a v.2.2 C) Y ms l
def qy:Nat->aw->FY
 |0,_,_,_,_=>False
 |k+1,w,v,m,Z=>∃VK Y,eP w Z 58 2 v m.fs.length (sA VK m.fs)/\(∀b,v.ownBlock=some b->¬Y b)/\(∀b,Y b->Z b)/\j0 (λa f A=>kA (qy k w) w A a f.2) Y VK m.fs
def kA.O {P Q:FY}{w w':aw}{A:ax}{vv:Value}{l:List PV}(h:kA P w A vv l)(j:∀b,A b->b<w.heap.size->w'.heap[b]?=w.heap[b]?)
  (a:∀mv m C,(∀b,C b->A b)->P mv m C->Q mv m C):kA Q w' A vv l:=by
 obtain⟨k,Y,d,e,c,f⟩:=h;exact⟨k,Y,d.O j,e,c,f.imp λmv v C _ _ g h=>a mv _ C (λb i=>c b (g b i)) h⟩
def qy.O:∀{k:Nat} {w w':aw} {v:Value} {m:PM} {Z:ax},qy k w v m Z->(∀b,Z b->b<w.heap.size->w'.heap[b]?=w.heap[b]?)->qy k w' v m Z
 |0,_,_,_,_,_,h,_=>h
 |_+1,_,_,_,_,_,⟨VK,Y,h1,h2,h3,h4⟩,hk=>⟨VK,Y,h1.O hk,h2,h3,h4.imp λ_ _ _ _ _ d h=>
   h.O (λb a c=>hk b (h3 b (d b a)) c) (λ_ _ _ e f=>f.O λb a c=>hk b (h3 b (d b (e b a))) c)⟩
def qy.none (k:Nat)(w:aw)(Z:ax):qy (k+1) w (.slice .none 0 0) PM.none Z:=⟨[],λ_=>False,eP.nil _ _ _ _,(by grind),(by grind),trivial⟩
def qy.form {k:Nat}{w:aw}{v:Value}{m:PM}{Z:ax}(h:qy k w v m Z):∃a c,v= .slice a m.fs.length c:=by
 cases k with
 |zero=>exact h.elim
 |succ k=>
  obtain⟨d,Y,b,_⟩:=h;obtain⟨a,n,c,rfl⟩:=d7 b.1;rw[fj b.1];grind
def kA.form {P:FY}{w:aw}{A:ax}{vv:Value}{l:List PV}(h:kA P w A vv l):∃a c,vv= .slice a l.length c:=by
 obtain⟨d,Y,b,_⟩:=h;obtain⟨a,n,c,rfl⟩:=d7 b.1;rw[fj b.1];grind
def OJ {k:Nat}{w:aw}{A:ax}{vv:Value}{lv:List LV}(h:eP w A 55 4 vv lv.length (lv.flatMap mU)):kA (qy (k+1) w) w A vv (lv.map re):=by
 have e:∀lv:List LV,lv.flatMap mU=sy (lv.map λ_=>ai) (lv.map re):=λlv=>by
  induction lv with
  |nil=>rfl
  |cons x lv ih=>rw[bt,ih];rfl
 refine⟨lv.map λ_=>ai,λ_=>False,?_,λb _ h=>h,λb h=>h.elim,?_⟩;.grind
 .have:∀lv:List LV,j0 (λa (v:PV) C=>qy (k+1) w a v.2.2 C) (λ_=>False) (lv.map λ_=>ai) (lv.map re):=λlv=>by
   induction lv with
   |nil=>trivial
   |cons x lv ih=>exact⟨λ_=>False,λ_=>False,qy.none k w _,ih,λb h=>h,λb h=>h,λb h=>h.elim⟩
  grind
def SL (k:Nat)(w:aw)(Z:ax)(m:PM)(e:Ending)(w':aw):Prop:=
 ∃v Z',e= .returned (.agg #[v,ag m.unk])/\qy (k+1) w' v m Z'/\(∀b,Z' b->b<w'.heap.size/\(Z b\/w.heap.size<=b))/\ak w w'
def sB (k:Nat)(w:aw)(A:ax)(l:List PV)(e:Ending)(w':aw):Prop:=
 ∃v Z',e= .returned v/\kA (qy (k+1) w') w' Z' v l/\(∀b,Z' b->b<w'.heap.size/\(A b\/w.heap.size<=b))/\ak w w'
def vY (S:eF)(k:Nat)(T:Option MT)(w0:aw)(B:ax)(wr:aw)(u:Value)(done:List PV)(ps:aB)(rest:List PV):Prop:=
 ∃ms Y,∃B1 B2:ax,j0 (λp v C=>v=mV v.2.2/\eQ S k T w0 C p v.2.2) B2 ps rest/\(∀b,B1 b->B b)/\(∀b,B2 b->B b)/\(∀b,B1 b->¬B2 b)/\
  wr.ownsRow w0.heap.size 55 4 u done.length (sy ms done)/\(∀b,u.ownBlock=some b->¬Y b)/\j0 (λa v C=>qy (k+1) wr a v.2.2 C) Y ms done/\(∀b,Y b->b<wr.heap.size/\(B1 b\/w0.heap.size<=b))
def vY.start {S:eF}{k:Nat}{T:Option MT}{w0:aw}{B:ax}{wr:aw}{ps:aB}{l:List PV}(h:j0 (λp v C=>v=mV v.2.2/\eQ S k T w0 C p v.2.2) B ps l):vY S k T w0 B wr (ai) [] ps l:=
 ⟨[],λ_=>False,λ_=>False,B,h,λ_ q=>q.elim,λ_ q=>q,λ_ q=>q.elim,br _ _ _ _,(λ_ q=>by cases q),trivial,λ_ q=>q.elim⟩
def vY.done {S:eF}{k:Nat}{T:Option MT}{w0:aw}{B:ax}{wr:aw}{u:Value}{l:List PV}(h:vY S k T w0 B wr u l [] []):
  ∃Z',kA (qy (k+1) wr) wr Z' u l/\∀b,Z' b->b<wr.heap.size/\(B b\/w0.heap.size<=b):=by
 obtain⟨f,Y,g,i,_,j,_,_,c,e,d,m⟩:=h;refine⟨λb=>Y b\/u.ownBlock=some b,⟨f,Y,⟨ownsRow_base_a c (aP _),λb a=> .inr a⟩,e,λb a=> .inl a,d⟩,?_⟩;rintro b (a|a);.grind
 .exact⟨(c.lt b a).2,.inr (c.lt b a).1⟩
def vY.step {S:eF}{k:Nat}{T:Option MT}{w0:aw}{B:ax}{wr w1 w2:aw}{u u' mv:Value}{done rest:List PV}{ps:aB}{v:PV}{A B2 B2' B1 Y Z':ax}{ms:ay}
  (E:∀b,B b->b<w0.heap.size) (L:w0.heap.size<=wr.heap.size)
  (F:j0 (λp v C=>v=mV v.2.2/\eQ S k T w0 C p v.2.2) B2' ps rest) (M:∀b,A b->B2 b) (f:∀b,B2' b->B2 b) (y:∀b,A b->¬B2' b)
  (K:∀b,B1 b->B b) (i:∀b,B2 b->B b) (x:∀b,B1 b->¬B2 b) (t:wr.ownsRow w0.heap.size 55 4 u done.length (sy ms done)) (H:∀b,u.ownBlock=some b->¬Y b)
  (n:j0 (λmv v C=>qy (k+1) wr mv v.2.2 C) Y ms done) (r:∀b,Y b->b<wr.heap.size/\(B1 b\/w0.heap.size<=b))
  (c:ak wr w1) (hm:qy (k+1) w1 mv v.2.2 Z') (N:∀b,Z' b->b<w1.heap.size/\(A b\/wr.heap.size<=b))
  (s:w1.grownBy w2 u.ownBlock) (j:w2.ownsRow w0.heap.size 55 4 u' (done.length+1) (sy ms done++sy [mv] [v])) (m:u'.ownBlock=u.ownBlock\/∃g,u'.ownBlock=some g/\w1.heap.size<=g):
  vY S k T w0 B w2 u' (done++ [v]) ps rest:=by
 have hlen:ms.length=done.length:=n.len
 have o:∀b,Y b->¬Z' b:=λb a I=>by
  grind
 have w:∀b,u.ownBlock=some b->¬(Y b\/Z' b):=λb a h=>by
  rcases h with h|h;.grind
  .have q:=t.lt b a;grind
 have l:∀b,(Y b\/Z' b)->b<w1.heap.size->w2.heap[b]?=w1.heap[b]?:=λb a d=>s.block b d (λe=>w b e.sy a)
 refine⟨ms++ [mv],λb=>Y b\/Z' b,λb=>B1 b\/A b,B2',F,?_,λb a=>i b (f b a),?_,?_,?_,?_,?_⟩;.grind
 .grind
 .rw[vH hlen];grind
 .intro b a h;rcases m with e|⟨g,e,D⟩;.grind
  .rw[e]at a;cases a;rcases h with h|h;.have:=(r _ h).1;have:=c.size;omega
   grind
 .refine j0.append (A:=Y) (B:=Z') ?_ ?_ (λb h=> .inl h) (λb h=> .inr h) o
  .refine n.imp λmv v C _ _ z h=>h.O λb a d=> ?_
   exact(l b (.inl (z b a)) (aI d c.size)).J (c.block b d)
  .exact⟨Z',λ_=>False,hm.O λb a d=>l b (.inr a) d,trivial,λb h=>h,λb h=>h.elim,λb _ h=>h⟩
 .have G:=s.size;rintro b (a|a);.have q:=r b a;have:=c.size;grind
  grind
section
open VH
def Qo (k:Nat):ap:=gu k++ [32,61,32]++gu (k+1)++ [59,32]
def JL (k:Nat)(f:F3):ap:=gI f.1++ [32,102]++Qo k
def Qp (k:Nat)(f:F3):ap:=
 if f.2.1=0 then JL k f
 else if f.2.1=1 then [114,101,112,101,97,116,101,100,32]++JL k f
 else if f.2.1=2 then [111,112,116,105,111,110,97,108,32]++JL k f
 else if f.2.1=3 then []
 else [109,97,112,60]++gI f.2.2++ [44]++gI f.1++ [62,32,102]++Qo k
def MU (k:Nat)(f:F3):ap:=if f.2.1=3 then JL k f else []
def wj (fs:List F3):Nat->ap
 |0=> []
 |k+1=>wj fs k++Qp k ((fs[k]?).getD (0,0,0))
def pY (fs:List F3):Nat->ap
 |0=> []
 |k+1=>pY fs k++MU k ((fs[k]?).getD (0,0,0))
def RG (i:Nat)(fs:List F3):ap:=
 [109,101,115,115,97,103,101,32,77]++gu i++ [32,123]++wj fs fs.length++(if pY fs fs.length= []then []else [111,110,101,111,102,32,111,32,123,32]++pY fs fs.length++ [125])++ [125,10]
def wo (L:List (List F3)):Nat->ap
 |0=> [101,110,117,109,32,69,32,123,32,65,32,61,32,48,59,32,125,10]
 |i+1=>wo L i++RG i ((L[i]?).getD [])
def qL (L:List (List F3)):au:=bl (wo L L.length)
structure Bf (L:List (List F3)):Prop where
 few:1<=L.length/\L.length<=3
 fs:∀fs∈L,1<=fs.length/\fs.length<=7/\∀f∈fs,f.1<16+L.length/\f.2.1<5/\f.2.2∈ig/\(f.2.1≠4->f.2.2=0)
def Pw (z:Nat):(ig[z]?).getD 0∈ig:=by
 cases h:ig[z]? with
 |none=>decide
 |some x=>exact aL h
def Ip (raw:ar)(n a:Nat)(d:0<n):∀j,∀f∈(qK raw n a j).1,f.1<16+n/\f.2.1<5/\f.2.2∈ig/\(f.2.1≠4->f.2.2=0)
 |0,f,h=>by cases h
 |j+1,f,h=>by
  rw[qK]at h;rcases aW.1 h with h|h;.exact Ip raw n a d j f h
  .obtain rfl:=ba.1 h;have b:∀a,iY raw a (16+n)<16+n:=λa=>ia _ Vv
   have c:∀a,iY raw a 5<5:=λa=>ia _ Vv
   unfold Ae;split;.exact⟨b _,(by decide:4<5),Pw _,λh=>absurd rfl h⟩
   .exact⟨b _,c _,(by decide:0∈ig),λ_=>rfl⟩
def Iq (raw:ar)(n:Nat)(a:0<n):∀i,∀fs∈(oB raw n i).1,1<=fs.length/\fs.length<=7/\∀f∈fs,f.1<16+n/\f.2.1<5/\f.2.2∈ig/\(f.2.1≠4->f.2.2=0)
 |0,fs,h=>by cases h
 |i+1,fs,h=>by
  rw[oB]at h;rcases aW.1 h with h|h;.exact Iq raw n a i fs h
  .obtain rfl:=ba.1 h;have b:iY raw (oB raw n i).2 7<7:=ia _ Vy;rw[(tS raw n _ _).1];exact⟨Vv,Vv,Ip raw n _ a _⟩
def MV (raw:ar):Bf (sE raw):=by
 have h:iY raw 0 3<3:=ia _ Vy;have a:=(tT raw (1+iY raw 0 3) (1+iY raw 0 3)).1;unfold sE;refine⟨by rw[a];omega,?_⟩;rw[a];exact Iq raw _ Vv _
def dig_len (n:Nat):(gu n).length=1:=rfl
def ru {t:Nat}(h:t<19):(gI t).length<=8:=by
 have:∀t:Fin 19,(gI t.val).length<=8:=Vy;exact this ⟨t,h⟩
def MW {k:Nat}(h:k∈ig):k<16:=by
 have:∀k∈ig,k<16:=Vy;exact this k h
def RH (w:aw)(v:Value)(Y:ax)(vs:ay)(L:List (List F3))(hD:Bf L)(n:iz w Y v L.length vs)(K:NT w Y vs L):
  Calls prog 29 #[.agg #[v]] w λe w'=>(e= .returned (ag (qL L))/\(qL L).size<=2000)/\ak w w':=by
 obtain⟨a,c,rfl⟩:=n.form;have⟨B1,K1⟩:=ec w #[.slice a L.length c] 68;obtain⟨T,HT⟩:∃T,Hid (qL L=T):=⟨_,rfl⟩;rw[HT.o];go_in
 go_wp2_with fail;generalize w.alloc (am #[.slice a L.length c] 68)=w1 at*;go_loopw [3,4] (λov iv wr=>∃(i:Nat) (o:au),i<=L.length/\iv=aa i/\ov=ag o/\Hid (o=bl (wo L i))/\o.size<=18+600*i/\ak w wr/\dZ wr w.heap.size #[.slice a L.length c] 68) (λ_ iv _=>L.length-(intOf iv).toNat)
 case atStart=>exact⟨0,_,aP _,rfl,rfl,rfl,Vy,B1,K1⟩
 obtain⟨i,o,hin,rfl,rfl,HO,hos,m,l⟩:=hrel;have⟨Q,R⟩:=l.I;have⟨f1,f2⟩:=hD.few;by_cases hli:i<L.length
 .have V7:(i:Int)<(L.length:Int):=Vv;have U:=tR wr i Vv;have VV:(bl (gu i)).size=1:=by rw[fT];rfl
  obtain⟨J,VX⟩:∃J,Hid (bl (gu i)=J):=⟨_,rfl⟩;rw[VX.o]at U VV;go_wp2_with fail;refine U.V ?_;rintro e w2 ⟨rfl,b2⟩;have V8:=l.G b2 l.lt;have V9:=dW m b2;have VW:Hid (o++⟨#[109,101,115,115,97,103,101,32,77]⟩++J++⟨#[32,123]⟩=bl (wo L i++([109,101,115,115,97,103,101,32,77]++gu i++ [32,123]))):=jA (by rw[HO.o,<-VX.o,iJ];simp[iJ]);have hz1:(o++⟨#[109,101,115,115,97,103,101,32,77]⟩++J++⟨#[32,123]⟩).size<=30+600*i:=(by rw[bJ,bJ,bJ,VV];show o.size+9+1+2<=_;omega);obtain⟨fs,VS⟩:∃fs,L[i]?=some fs:=⟨_,aO hli⟩;obtain⟨vf,VT⟩:∃vf,vs[i]?=some vf:=⟨_,aO (by rw[K.1];exact hli)⟩;have Z:=K.2 i fs vf VS VT;have⟨n1,n2,Wk⟩:=hD.fs fs (aL VS);obtain⟨fa,fc,rfl⟩:=Z.form;obtain⟨ad,rfl,_,la,VY⟩:=n.at Vv;obtain⟨t,rfl,_,lf,VZ⟩:=Z.at Vv;have HR:Hid (∀W,ak w W->W.cell? (ad.add i)=some (.slice (some t) fs.length fc)):=λW z=>VY W (z.block _ la) i _ VT
  have HE:Hid (∀W,ak w W->∀k f,fs[k]?=some f->W.cell? (t.add (k*3))=some (aa f.1)/\W.cell? (aj ((t.add (k*3)).block) ((t.add (k*3)).off+1))=some (aa f.2.1)/\W.cell? (aj ((t.add (k*3)).block) ((t.add (k*3)).off+2))=some (aa f.2.2)):=λW z k f A=>by
   have hq:=λj (hj:j<3) u (hu:(JJ f)[j]?=some u)=>VZ W (z.block _ lf) (k*3+j) u ((gd JJ 3 (λ_=>rfl) fs k f A j hj).J hu)
   exact⟨hq 0 Vv _ rfl,lK (hq 1 Vv _ rfl),lK (hq 2 Vv _ rfl)⟩
  clear Q R m l U VY VZ Z VT;go_wp2_with fail;generalize o++⟨#[109,101,115,115,97,103,101,32,77]⟩++J++⟨#[32,123]⟩=o1 at*;go_loopw [3,5,6] (λov sv kv wx=>∃(k:Nat) (d s2:au),k<=fs.length/\kv=aa k/\ov=ag d/\sv=ag s2/\Hid (d=o1++bl (wj fs k))/\Hid (s2=bl (pY fs k))/\d.size<=30+600*i+40*k/\s2.size<=40*k/\ak w wx/\dZ wx w.heap.size #[.slice (some ad) L.length c] 68) (λ_ _ kv _=>fs.length-(intOf kv).toNat)
  case atStart=>exact⟨0,_,_,aP _,rfl,rfl,rfl,jA (by simp[wj,iJ]),rfl,Vv,Vy,V9,V8⟩
  obtain⟨k,d,s2,hkn,rfl,rfl,rfl,N,G,z2,zs,m,l⟩:=hrel;have⟨Q,R⟩:=l.I;have c0:=HR.o _ m;by_cases hlk:k<fs.length
  .have Wb:(k:Int)<(fs.length:Int):=Vv;obtain⟨f,A⟩:∃f,fs[k]?=some f:=⟨_,aO hlk⟩;have⟨c1,c2,c3⟩:=HE.o _ m k f A;have⟨t1,t2,t3,t4⟩:=Wk f (aL A);have ep:wj fs (k+1)=wj fs k++Qp k f:=by rw[wj,A];rfl
   have eo:pY fs (k+1)=pY fs k++MU k f:=by rw[pY,A];rfl
   obtain⟨g,b,ky⟩:=f;simp only at c1 c2 c3 t1 t2 t3 t4;have t3:=MW t3;have⟨S,X⟩:=ec wr #[aa g,aa b,aa ky] 137;have hw:=λW=>MN W g Vv
   have hd:=λW=>tR W k Vv
   have he:=λW=>tR W (k+1) Vv
   have Wd:=λW=>MN W ky Vv
   have zw:(bl (gI g)).size<=8:=by rw[fT];exact ru Vv
   have zk:(bl (gI ky)).size<=8:=by rw[fT];exact ru Vv
   have zd:(bl (gu k)).size=1:=by rw[fT];rfl
   have ze:(bl (gu (k+1))).size=1:=by rw[fT];rfl
   rw[show((k+1:Nat):Int)=(k:Int)+1 by omega]at he;have B:Hid (bl (JL k (g,b,ky))=bl (gI g)++⟨#[32,102]⟩++bl (gu k)++⟨#[32,61,32]⟩++bl (gu (k+1))++⟨#[59,32]⟩):=jA (by simp[iJ,JL,Qo]);have HM:Hid (b=4->bl (Qp k (g,b,ky))=⟨#[109,97,112,60]⟩++bl (gI ky)++⟨#[44]⟩++bl (gI g)++⟨#[62,32,102]⟩++bl (gu k)++⟨#[32,61,32]⟩++bl (gu (k+1))++⟨#[59,32]⟩):=λh=>jA (by subst h;simp[iJ,Qp,Qo])
   generalize bl (gI g)=sw at*;generalize bl (gI ky)=sk at*;generalize bl (gu k)=sd at*;generalize bl (gu (k+1))=se at*;go_wp2_with fail;have V:=l.G S l.lt;generalize wr.alloc (am #[aa g,aa b,aa ky] 137)=w3 at*;refine(hw _).V ?_;rintro e w4 ⟨rfl,b4⟩;go_wp2_with fail;refine(hd _).V ?_;rintro e w5 ⟨rfl,b5⟩;go_wp2_with fail;refine(he _).V ?_;rintro e w6 ⟨rfl,H⟩;have M:=dW b4 (dW b5 H);have F:=dW m (dW S M);have p:=V.G M V.lt;have D:=X.G M X.lt;have⟨Q,R⟩:=D.I;clear b4 b5 H M m l S V X c1 c2 c3;have q:Hid (∀x,bl (Qp k (g,b,ky))=x->d++x=o1++bl (wj fs (k+1))):=λx hx=>by rw[ep,pH,hx,N.o,ByteArray.append_assoc]
   have r:Hid (∀x,bl (MU k (g,b,ky))=x->s2++x=bl (pY fs (k+1))):=λx hx=>by rw[eo,pH,hx,G.o]
   have s:Hid (∀o:au,o++bl []=o):=λo=>jA (by simp[iJ])
   have We:b=0\/b=1\/b=2\/b=3\/b=4:=Vv;have zE:(sw++⟨#[32,102]⟩++sd++⟨#[32,61,32]⟩++se++⟨#[59,32]⟩).size<=17:=(by simp only[bJ,zd,ze];show sw.size+2+1+3+1+2<=_;omega);clear ep eo N G;go_upto_region 12 with fail
   generalize sw++⟨#[32,102]⟩++sd++⟨#[32,61,32]⟩++se++⟨#[59,32]⟩=E at*;rcases We with rfl|rfl|rfl|rfl|rfl
   .go_wp2;go_roundw
    case rel=>exact⟨k+1,_,_,Vv,by go_num,rfl,rfl,q.o _ B.o,(s.o _).sy.J (r.o _ rfl),by rw[bJ];omega,Vv,F,p⟩
    case measure=>simp[intOf];omega
   .go_wp2;go_roundw
    case rel=>exact⟨k+1,_,_,Vv,by go_num,rfl,rfl,(ByteArray.append_assoc).J (q.o _ ((pH _ _).J (dV _ B.o))),(s.o _).sy.J (r.o _ rfl),by rw[bJ,bJ];show d.size+9+_<=_;omega,Vv,F,p⟩
    case measure=>simp[intOf];omega
   .go_wp2;go_roundw
    case rel=>exact⟨k+1,_,_,Vv,by go_num,rfl,rfl,(ByteArray.append_assoc).J (q.o _ ((pH _ _).J (dV _ B.o))),(s.o _).sy.J (r.o _ rfl),by rw[bJ,bJ];show d.size+9+_<=_;omega,Vv,F,p⟩
    case measure=>simp[intOf];omega
   .go_wp2;go_roundw
    case rel=>exact⟨k+1,_,_,Vv,by go_num,rfl,rfl,(s.o _).sy.J (q.o _ rfl),r.o _ B.o,Vv,by rw[bJ];omega,F,p⟩
    case measure=>simp[intOf];omega
   .have Wf:Hid (d++⟨#[109,97,112,60]⟩++sk++⟨#[44]⟩++sw++⟨#[62,32,102]⟩++sd++⟨#[32,61,32]⟩++se++⟨#[59,32]⟩=o1++bl (wj fs (k+1))):=(by have:=q.o _ (HM.o rfl);simp only[ByteArray.append_assoc]at*;exact this);have zM:Hid ((d++⟨#[109,97,112,60]⟩++sk++⟨#[44]⟩++sw++⟨#[62,32,102]⟩++sd++⟨#[32,61,32]⟩++se++⟨#[59,32]⟩:au).size<=30+600*i+40*(k+1)):=(by show _<=_;simp only[bJ,zd,ze];show d.size+4+sk.size+1+sw.size+3+1+3+1+2<=_;omega);have Wh:Hid (s2=bl (pY fs (k+1))):=(s.o _).sy.J (r.o _ rfl);go_upto_region 13 with fail
    have C:Hid (∀W,ak w6 W->W.cell? (aj wr.heap.size 0)=some (aa g)/\W.cell? (aj wr.heap.size 2)=some (aa ky)):=λW z=>⟨(D.G z D.lt).cell 0,(D.G z D.lt).cell 2⟩
    clear Q R HM q r B s;have qk:IntKind.i64.wrap ((k:Int)+1)=(k:Int)+1:=by rw[IntKind.wrap_i64];omega
    have q1:¬9223372036854775807<d.size+4:=Vv;have q2:¬9223372036854775807<d.size+4+sk.size:=Vv;have q3:¬9223372036854775807<d.size+4+sk.size+1:=Vv;have q4:¬9223372036854775807<d.size+4+sk.size+1+sw.size:=Vv;have q5:¬9223372036854775807<d.size+4+sk.size+1+sw.size+3:=Vv;have q6:¬9223372036854775807<d.size+4+sk.size+1+sw.size+3+1:=Vv;have q7:¬9223372036854775807<d.size+4+sk.size+1+sw.size+3+1+3:=Vv;have q8:¬9223372036854775807<d.size+4+sk.size+1+sw.size+3+1+3+1:=Vv;have q9:¬9223372036854775807<d.size+4+sk.size+1+sw.size+3+1+3+1+2:=Vv
    go_region_held3 (λW=>W.cell? (aj wr.heap.size 0)=some (aa g)/\W.cell? (aj wr.heap.size 2)=some (aa ky))
     (first|exact C.o _ (dW y (dW I (dW O VU)))|exact C.o _ (dW y (dW I O))|exact C.o _ (dW y I)|exact C.o _ y|exact C.o _ (Below.refl _ _).drew)
     (first|(go_at_call 61;refine(he w9).V ?_;rintro e w10 ⟨rfl,VU⟩)|(go_at_call 61;refine(hd w8).V ?_;rintro e w9 ⟨rfl,O⟩)|(go_at_call 62;refine(hw w7).V ?_;rintro e w8 ⟨rfl,I⟩)|(go_at_call 62;refine(Wd _).V ?_;rintro e w7 ⟨rfl,V0⟩;have y:=dW ((Vs w6).drew) V0))
    have H:=dW y (dW I (dW O VU));clear q1 q2 q3 q4 q5 q6 q7 q8 q9 y I O VU V0;go_wp2;go_roundw
    case rel=>exact⟨k+1,_,_,Vv,by go_num,rfl,rfl,Wf.o,Wh.o,zM.o,Vv,dW F H,p.G H p.lt⟩
    case measure=>simp[intOf];omega
  .obtain rfl:k=fs.length:=Vv;have Wb:¬(fs.length:Int)<(fs.length:Int):=Vv;have P:wo L (i+1)=wo L i++RG i fs:=by rw[wo,VS];rfl
   by_cases hne:pY fs fs.length= []
   .have es:(!s2.toList.isEmpty)=false:=by rw[ByteArray.toList_eq,G.o,hne];rfl
    have VR:Hid (d++⟨#[125,10]⟩=bl (wo L (i+1))):=jA (by rw[P,N.o,VW.o,RG,dR hne];simp[iJ]);clear P;go_wp2;go_roundw
    case rel=>exact⟨i+1,_,Vv,by go_num,rfl,VR.o,by rw[bJ];show d.size+2<=_;omega,m,l⟩
    case measure=>simp[intOf];omega
   .have es:(!s2.toList.isEmpty)=true:=by rw[ByteArray.toList_eq,G.o,iJ];simpa using hne
    have VR:Hid (d++⟨#[111,110,101,111,102,32,111,32,123,32]⟩++s2++⟨#[125]⟩++⟨#[125,10]⟩=bl (wo L (i+1))):=jA (by rw[P,N.o,VW.o,G.o,RG,dQ hne];simp[iJ]);clear P;go_wp2;go_roundw
    case rel=>exact⟨i+1,_,Vv,by go_num,rfl,VR.o,by simp only[bJ];show d.size+10+s2.size+1+2<=_;omega,m,l⟩
    case measure=>simp[intOf];omega
 .obtain rfl:i=L.length:=Vv;have V7:¬(L.length:Int)<(L.length:Int):=Vv;go_wp2;go_ret;have hT:T=o:=by rw[HO.o,<-HT.o];rfl
  exact⟨⟨by rw[hT];rfl,by rw[hT];omega⟩,m⟩
end
def tV {b:au}{x y:ap}{c:UInt8}{i:Nat}(h:b.data.toList=x++c::y)(a:i=x.length):gh b i=(c.toNat:Int):=by
 subst a;rw[mt,h,cj (aE _)];simp
def EM {b:au}{a e:Nat}:∀(f:Nat) (v:Int) (i:Nat) (n:Int) (x y:ap),i+f=9->0<=v->v<2^(64-7*i)->b.data.toList=x++(uT f v++y)->x.length=a+i->a+i+(uT f v).length<=e->
  mK b a e (f+1) i n= .ok (n+v*2^(7*i),a+i+(uT f v).length)
 |0,v,i,n,x,y,hi,h0,h1,hb,hx,he=>by
  obtain rfl:i=9:=Vv;have k:v<2:=h1;have d:gh b (a+9)=v:=(by rw[tV (c:=Dl v) (y:=y) hb hx.sy,yC h0 Vv]);rw[mK,d,dR (by simp[uT]at he;omega),dQ Vv,dR Vv,show v%128=v by omega]
  rfl
 |f+1,v,i,n,x,y,hi,h0,h1,hb,hx,he=>by
  rw[uT]at*;by_cases hv:v<128;.rw[dR hv]at*;have d:gh b (a+i)=v:=(by rw[tV (c:=Dl v) (y:=y) hb hx.sy,yC h0 Vv]);rw[mK,d,dR (by grind),dQ Vv,dR hv,show v%128=v by omega];rfl
  .rw[dQ hv]at*;have d:gh b (a+i)=v%128+128:=(by rw[tV (c:=Dl (v%128+128)) (y:=uT f (v/128)++y) (by simp_all) hx.sy,yC Vv Vv]);have j:(2:Int)^(64-7*i)=2^(64-7*(i+1))*128:=(by rw[show 64-7*i=64-7*(i+1)+7 by omega,Int.pow_add];rfl);rw[j]at h1;have ih:=EM (b:=b) (a:=a) (e:=e) f (v/128) (i+1) (n+(v%128+128)%128*2^(7*i)) (x++ [Dl (v%128+128)]) y Vv Vv (Int.ediv_lt_of_lt_mul Vy h1) (by simp_all) (by grind) (by grind);rw[mK,d,dR (by grind),dQ Vv,dQ Vv,ih,At];have g:(v%128+128)%128=v%128:=Vv;have h:v*2^(7*i)=v%128*2^(7*i)+v/128*(128*2^(7*i)):=(by grind);rw[g,h,bw];simp only[Except.ok.injEq,Prod.mk.injEq];constructor<;>omega
def xl {b:au}{e:Nat}{v:Int}{x y:ap}(c:b.data.toList=x++(vi v++y))(h0:0<=v)(h1:v<2^64)(d:x.length+(vi v).length<=e):iV b x.length e= .ok (v,x.length+(vi v).length):=by
 have:=EM (b:=b) (a:=x.length) (e:=e) 9 v 0 0 x y rfl h0 h1 c rfl d;rw[iV,this];simp[vi]
def EN {b:au}:∀(n:Nat) (v:Int) (x:ap) (i:Nat),0<=v->v<256^n->b.data.toList=x++ph n v->i=x.length->IW b n i=v
 |0,v,x,i,h0,h1,_,_=>by
  have:v<1:=h1;rw[IW]
  omega
 |n+1,v,x,i,h0,h1,hb,hi=>by
  subst hi;have a:x.length<b.size:=(by have:b.data.toList.length=b.size:=Vw;rw[hb]at this;simp[ph]at this;omega);rw[ph]at hb;rw[IW,dR a,tV hb rfl,yC Vv Vv,EN n (v/256) (x++ [Dl (v%256)]) (x.length+1) Vv (Int.ediv_lt_of_lt_mul Vy Vv) (by simpa using hb) Vw];omega
def xp {n:Nat}{v:Int}(h0:0<=v)(h1:v<256^n):xE (bl (ph n v))=v:=by
 unfold xE;rw[fT,iI];exact EN n v [] 0 h0 h1 rfl rfl
def qM {b:au}{x y z:ap}(a:b.data.toList=x++(y++z)):b.extract x.length (x.length+y.length)=bl y:=by
 refine jA ?_;rw[o9,a,iJ,<-bj,dm Vw,ch Vw];simp
section
variable {n:Int} (h0:1<=n) (h1:n<=536870911)
include h0 h1
def tW {b:au}{e:Nat}{k:Int}{y:ap}(d:0<=k)(f:k<8)(c:b.data.toList=fH n k++y)(a:(fH n k).length<=e):iV b 0 e= .ok (n*8+k,(fH n k).length):=by
 have:=xl (b:=b) (e:=e) (v:=n*8+k) (x:= []) (y:=y) c Vv Vv (by unfold fH at a;simpa using a);simpa [fH]using this
def RM {v:Int}(a:0<=v)(b:v<2^64):fO (bl (fH n 0++vi v)) 0 (bl (fH n 0++vi v)).size= .ok ⟨n,0,0,(fH n 0).length,(bl (fH n 0++vi v)).size,v⟩:=by
 unfold fO;rw[tW h0 h1 (y:=vi v) Vy Vy rfl (by rw[fT,aN];omega)];simp only;rw[dQ Vv,dR Vv,xl (x:=fH n 0) (y:= []) (by rw[bV];rfl) a b (by rw[fT,aN];omega)];simp only;rw[fT,aN,show(n*8+0)/8=n by omega]
def Te {v:Int}(a:0<=v)(c:v<2^64):fO (bl (fH n 1++ph 8 v)) 0 (bl (fH n 1++ph 8 v)).size= .ok ⟨n,1,0,(fH n 1).length,(bl (fH n 1++ph 8 v)).size,v⟩:=by
 have d:=qM (b:=bl (fH n 1++ph 8 v)) (x:=fH n 1) (y:=ph 8 v) (z:= []) VB;rw[iI]at d;unfold fO;rw[tW h0 h1 (y:=ph 8 v) Vy Vy rfl (by rw[fT,aN];omega)];simp only;rw[dQ Vv,dQ Vv,dR Vv,dR (by rw[fT,aN,iI];omega),d,xp a c,fT,aN,iI,show(n*8+1)/8=n by omega]
def Tf {v:Int}(a:0<=v)(c:v<4294967296):fO (bl (fH n 5++ph 4 v)) 0 (bl (fH n 5++ph 4 v)).size= .ok ⟨n,5,0,(fH n 5).length,(bl (fH n 5++ph 4 v)).size,v⟩:=by
 have d:=qM (b:=bl (fH n 5++ph 4 v)) (x:=fH n 5) (y:=ph 4 v) (z:= []) VB;rw[iI]at d;unfold fO;rw[tW h0 h1 (y:=ph 4 v) Vy Vy rfl (by rw[fT,aN];omega)];simp only;rw[dQ Vv,dQ Vv,dQ Vv,dR Vv,dR (by rw[fT,aN,iI];omega),d,xp a c,fT,aN,iI,show(n*8+5)/8=n by omega]
def MZ {y:ap}(a:y.length<2^64):fO (bl (fH n 2++fI y)) 0 (bl (fH n 2++fI y)).size= .ok ⟨n,2,0,(fH n 2).length+(vi y.length).length,(bl (fH n 2++fI y)).size,0⟩:=by
 unfold fO;rw[tW h0 h1 (y:=fI y) Vy Vy rfl (by rw[fT,aN];omega)];simp only;rw[dQ Vv,dQ Vv,dQ Vv,dQ Vv,dR Vv,xl (x:=fH n 2) (v:=y.length) (y:=y) rfl Vv Vv (by rw[fT,aN,fI,aN];omega)];simp only;rw[fT,aN,fI,aN,dR Vv,show(n*8+2)/8=n by omega]
 (simp;omega)
end
def CO (a:List PF)(n:Int)(l:List PV):List PF:=if l.isEmpty then a else a++ [(n,l)]
section
variable {n:Int}
def Bg:∀{a:List PF},(∀x∈a,x.1≠n)->gT a n= []
 | [],_=>rfl
 |x::a,h=>by rw[gT,dQ (h x aZ),Bg λy b=>h y (aY _ b)]
def EO {l:List PV}:∀{a:List PF},(∀x∈a,x.1<n)->gT (a++ [(n,l)]) n=l
 | [],_=>by simp[gT]
 |x::a,h=>by
  have:=h x aZ;rw[bo,gT,dQ Vv,EO λy b=>h y (aY _ b)]
def EP {l:List PV}:∀{a:List PF},(∀x∈a,x.1<n)->ik n l false a=a++ [(n,l)]
 | [],_=>rfl
 |x::a,h=>by
  have:=h x aZ;rw[ik,decide_eq_false Vv,dQ Vw,dQ Vv];simp only[de];rw[EP λy b=>h y (aY _ b)];rfl
def Bh {l l':List PV}:∀{a:List PF},(∀x∈a,x.1<n)->ik n l false (a++ [(n,l')])=a++ [(n,l)]
 | [],_=>by simp[ik]
 |x::a,h=>by
  have:=h x aZ;rw[bo,ik,decide_eq_false Vv,dQ Vw,dQ Vv];simp only[de];rw[Bh λy b=>h y (aY _ b)];rfl
def EQ:∀{a:List PF},(∀x∈a,x.1≠n)->ik n [] true a=a
 | [],_=>rfl
 |x::a,h=>by
  rw[ik,dQ Vw,dQ (h x aZ)];simp only[dt];rw[EQ λy b=>h y (aY _ b)];rfl
variable {a:List PF} (h:∀x∈a,x.1<n)
include h
def CP (l:List PV)(u:au):(PM.mk (CO a n l) u).get n=l:=by
 show gT (CO a n l) n=l;unfold CO
 cases l with
 |nil=>exact Bg λx b=>by grind
 |cons v l=>exact EO h
def CQ (l l':List PV)(u:au)(c:l'≠ []):(PM.mk (CO a n l) u).put n l'= .mk (CO a n l') u:=by
 have b:l'.isEmpty=false:=by(simp;omega)
 show PM.mk (ik n l' l'.isEmpty (CO a n l)) u=_;rw[b];unfold CO;rw[b]
 cases l with
 |nil=>rw[dR VB,EP h];rfl
 |cons v l=>rw[dQ Vw,Bh h];rfl
omit h in
end
def Py {m:PM}{n:Int}(h:∀x∈m.fs,x.1≠n):m.put n []=m:=by
 obtain⟨fs,u⟩:=m;show PM.mk (ik n [] true fs) u=_;rw[EQ (a:=fs) h]
def zj {f:fw}{m:PM}:∀{l:List fw},(∀o∈l,(gQ o.how f.how&&i9 o.how&&decide (o.num≠f.num))=true->∀x∈m.fs,x.1≠o.num)->iW f l m=m
 | [],_=>rfl
 |o::l,h=>by
  rw[iW];split;.rw[Py (h o aZ ‹_›)];exact zj λp b=>h p (aY _ b)
  .exact zj λp b=>h p (aY _ b)
def zl {t:au}{v:PV}:∀{l:List PV},(∀x∈l,kS t (fS v) (fS x)=false/\iD (fS v) (fS x)=false)->gC t v false l=l++ [v]
 | [],_=>rfl
 |x::l,h=>by
  have⟨b,c⟩:=h x aZ;rw[gC,b,c];simp only[Bool.or_self,cW,dK];rw[zl λy d=>h y (aY _ d)];rfl
def vq {s:au}(h:ox s=true):s=eS:=by
 refine jA ?_;unfold ox at h;rw[List.isEmpty_iff,ByteArray.toList_eq]at h;rw[h];rfl
def tX {m:PM}(h:zG m=true):m=PM.none:=by
 obtain⟨fs,u⟩:=m;unfold zG at h;simp only[aQ,List.isEmpty_iff]at h;obtain⟨b,c⟩:=h;have b:fs= []:=b;have c:ox u=true:=c;rw[b,vq c];rfl
def It (v:Int):ph 4 v=ph 4 (v%4294967296):=by
 simp only[ph,List.cons.injEq,and_true];refine⟨?_,?_,?_,?_⟩<;>(grind)
def Tg {v:Int}(b:0<=v)(h1:v<2^64):Dj (Cq v)=v:=by
 unfold Dj Cq;split<;>split<;>omega
def M2 {v:Int}(b:0<=v)(h1:v<2^64):0<=Cq v/\Cq v<2^64:=by
 unfold Cq;split<;>omega
def Pz {v:Int}(b:0<=v)(h1:v<2^64)(h:v=mQ v):Dj (Cq v%4294967296)=v:=by
 unfold mQ at h;unfold Dj Cq;split at h<;>split<;>split<;>omega
def ER (k:Nat)(v:Int):ap:=
 if k=7\/k=9\/k=11 then ph 4 v else if k=8\/k=10\/k=12 then ph 8 v else if k=4\/k=5 then vi (Cq v)else vi v
def zp {k:Nat}{v:Int}(i:fo k=true)(b:0<=v)(c:v<2^64)(d:zH k v=true):
  (eM k=0/\∃u,ER k v=vi u/\0<=u/\u<2^64/\lE k u=v)\/(eM k=5/\ER k v=ph 4 v/\lE k (v%4294967296)=v)\/(eM k=1/\ER k v=ph 8 v/\lE k v=v):=by
 have g:k=0\/k=1\/k=2\/k=3\/k=4\/k=5\/k=6\/k=7\/k=8\/k=9\/k=10\/k=11\/k=12\/k=15:=(by unfold fo at i;grind);have⟨e,f⟩:=M2 b c;have q:∀{x:Int},(v==x)=true->x=v:=λh=>(beq_iff_eq.1 h).sy
 rcases g with rfl|rfl|rfl|rfl|rfl|rfl|rfl|rfl|rfl|rfl|rfl|rfl|rfl|rfl;.exact .inl ⟨rfl,v,rfl,b,c,q d⟩
 .exact .inl ⟨rfl,v,rfl,b,c,rfl⟩
 .exact .inl ⟨rfl,v,rfl,b,c,q d⟩
 .exact .inl ⟨rfl,v,rfl,b,c,rfl⟩
 .exact .inl ⟨rfl,_,rfl,e,f,Pz b c (q d).sy⟩
 .exact .inl ⟨rfl,_,rfl,e,f,Tg b c⟩
 .exact .inl ⟨rfl,v,rfl,b,c,q d⟩
 .exact .inr (.inl ⟨rfl,rfl,q d⟩)
 .exact .inr (.inr ⟨rfl,rfl,rfl⟩)
 .refine .inr (.inl ⟨rfl,rfl,?_⟩);have h:=q d;show mQ (v%4294967296)=v;unfold mQ at*;split at h<;>split<;>omega
 .exact .inr (.inr ⟨rfl,rfl,rfl⟩)
 .exact .inr (.inl ⟨rfl,rfl,q d⟩)
 .exact .inr (.inr ⟨rfl,rfl,rfl⟩)
 .exact .inl ⟨rfl,v,rfl,b,c,q d⟩
def PA {k:Nat}{n v:Int}(i:fo k=true)(g:1<=n)(h1:n<=536870911)(e:0<=v)(f:v<2^64)(j:zH k v=true):
  ∃r,fO (bl (fH n (eM k)++ER k v)) 0 (bl (fH n (eM k)++ER k v)).size= .ok r/\r.num=n/\r.kind=eM k/\r.e=(bl (fH n (eM k)++ER k v)).size/\lE k r.n=v:=by
 rcases zp i e f j with⟨b,u,c,u0,u1,d⟩|⟨b,c,d⟩|⟨b,c,d⟩;.rw[b,c];exact⟨_,RM g h1 u0 u1,rfl,rfl,rfl,d⟩
 .rw[b,c,It];exact⟨_,Tf g h1 Vv Vv,rfl,rfl,rfl,d⟩
 .rw[b,c];exact⟨_,Te g h1 e f,rfl,rfl,rfl,d⟩
theorem lC (S:eF)(f:fw):fX S f=eM (fB S f):=by
 unfold fX fB eF.wire;cases f.isMap<;>rfl
section
variable {S:eF} {d:MT} {f:fw} {m:PM} {deep:Nat} {n:Int} (h0:1<=n) (h1:n<=536870911) (hf:ed d.fs n=some f)
include h0 h1 hf
theorem RN {v:Int}(hM:f.isMap=false)(hs:fC S f=none)(hk:fo (fB S f)=true)(a:0<=v)(b:v<2^64)(c:zH (fB S f) v=true):
  rd S (bl (fH n (eM (fB S f))++ER (fB S f) v)) d m deep= .ok (ie S d f m (v,eS,PM.none)):=by
 have⟨r,j,k,g,l,o⟩:=PA hk h0 h1 a b c;refine CI j l ?_;have i:fB S f=S.base f.ty:=by unfold fB;simp_all
 have h:r.kind≠2:=(by rw[g];rcases zp hk a b c with⟨e,_⟩|⟨e,_⟩|⟨e,_⟩<;>rw[e]<;>decide);unfold kF;rw[k,hf];simp only;rw[if_pos (by rw[g,lC])];unfold qr ot;rw[hs];simp only;unfold oj;rw[if_neg h,<-i,o];rfl
theorem M4 {s:au}(hs:fC S f=none)(hw:fX S f=2)(g:gQ f.ty lF=true->Tw s=true)(h:s.size<2^64):
  rd S (bl (fH n 2++fI s.data.toList)) d m deep= .ok (ie S d f m (0,s,PM.none)):=by
 have e:s.data.toList.length=s.size:=by simp
 have a:=MZ h0 h1 (y:=s.data.toList) (by omega);refine CI a rfl ?_;have c:(bl (fH n 2++fI s.data.toList)).extract ((fH n 2).length+(vi s.data.toList.length).length) (bl (fH n 2++fI s.data.toList)).size=s:=(by have:=qM (b:=bl (fH n 2++fI s.data.toList)) (x:=fH n 2++vi s.data.toList.length) (y:=s.data.toList) (z:= []) (by rw[iJ,fI];simp);rw[aN,CJ]at this;rw[fT,aN,fI,aN,<-dg];exact this);unfold kF;simp only;rw[hf];simp only;rw[if_pos hw.sy];unfold qr ot;rw[hs];simp only;unfold oj;simp only
 rw[if_pos trivial,c,if_neg (by
  (simp;omega))]
 rfl
theorem RO {sub:MT}{y:ap}{sm:PM}(j:fC S f=some sub)(hw:fX S f=2)(b:pU S sub (deep+1)=false)(k:rd S (bl y) sub (fh f m).2.2 (deep+1)= .ok sm)(p:y.length<2^64):
  rd S (bl (fH n 2++fI y)) d m deep= .ok (ie S d f m ((fh f m).1,(fh f m).2.1,sm)):=by
 have i:=MZ h0 h1 (y:=y) p;refine CI i rfl ?_
 have c:=Td (s:=bl (fH n 2++vi y.length)) k (F:=(bl (fH n 2++fI y)).size) (by
  rw[fT,fT,aN,fI,aN];have:=(nY 9 (n*8+2)).2;have e:(fH n 2).length=(uT 9 (n*8+2)).length:=rfl
  omega)
 have a:(bl (fH n 2++fI y)).size=(fH n 2).length+(vi y.length).length+y.length:=by rw[fT,aN,fI,aN];omega
 have h:bl (fH n 2++vi y.length)++bl y=bl (fH n 2++fI y):=by rw[<-pH,bj];rfl
 have g:(bl (fH n 2++vi y.length)).size=(fH n 2).length+(vi y.length).length:=by rw[fT,aN]
 rw[h,g,a,fT]at c;unfold kF;simp only;rw[hf];simp only;rw[if_pos hw.sy];unfold qr ot zO;rw[j];simp only;rw[if_neg (by(simp;omega)),a];rw[c];rfl
omit h0 h1 hf in
theorem Bk {k:Nat}{b:au}(p:fo k=true):∀(l acc:List PV) (x:ap) (F:Nat),b.data.toList=x++l.flatMap (fun v=>ER k v.1)->(∀v∈l,v.2=(eS,PM.none)/\0<=v.1/\v.1<2^64/\zH k v.1=true)->b.size-x.length<=F->fY b k b.size F acc x.length= .ok (acc++l)
 | [],acc,x,F,hb,_,_=>by
  have c:b.data.toList.length=b.size:=by simp
  rw[hb]at c;simp at c
  cases F with
  |zero=>simp[fY]
  |succ F=>rw[fY,if_neg (by omega)];simp
 |v::l,acc,x,F,hb,hv,hF=>by
  have c:b.data.toList.length=b.size:=by simp
  rw[bt]at hb;rw[hb,aN,aN]at c;have⟨h,o,r,t⟩:=hv v aZ;have h:v=(v.1,eS,PM.none):=cY rfl h;have ih:=fun(y:ap) (F:Nat) (hy:y=ER k v.1) (q:b.size-(x++y).length<=F)=>Bk p l (acc++ [v]) (x++y) F (by rw[hb,hy,bj]) (fun u s=>hv u (aY _ s)) q
  rw[List.append_cons];rcases zp p o r t with⟨i,u,a,u0,u1,j⟩|⟨i,a,j⟩|⟨i,a,j⟩
  .rw[a]at hb c;have w:=(nY 9 u).2;have e:(vi u).length=(uT 9 u).length:=rfl
   cases F with
   |zero=>omega
   |succ F=>
    rw[fY,if_pos (by omega),if_pos i,xl hb u0 u1 (by omega)];grind
  .rw[a]at hb c;have e:=iI 4 v.1;have g:=qM hb;rw[e]at g
   cases F with
   |zero=>omega
   |succ F=>
    rw[fY,if_pos (by omega),if_neg (by omega)];simp only;rw[if_pos i,if_pos (by omega),g,It,xp (by omega) (by omega),j,<-h];have:=ih _ F a.sy (by(simp;omega))
    rwa [aN,e]at this
  .rw[a]at hb c;have e:=iI 8 v.1;have g:=qM hb;rw[e]at g
   cases F with
   |zero=>omega
   |succ F=>
    rw[fY,if_pos (by omega),if_neg (by omega)];simp only;rw[if_neg (show¬eM k=5 by omega),if_pos (by omega),g,xp o r,j,<-h];have:=ih _ F a.sy (by(simp;omega))
    rwa [aN,e]at this
theorem PB {l:List PV}(hM:f.isMap=false)(hR:f.isRep=true)(hk:fo (fB S f)=true)(hn:f.num=n)(e:∀v∈l,v.2=(eS,PM.none)/\0<=v.1/\v.1<2^64/\zH (fB S f) v.1=true)(g:(l.flatMap fun v=>ER (fB S f) v.1).length<2^64):
  rd S (bl (fH n 2++fI (l.flatMap fun v=>ER (fB S f) v.1))) d m deep= .ok (m.put n (m.get n++l)):=by
 have c:=MZ h0 h1 g;refine CI c rfl ?_;have a:fB S f=S.base f.ty:=by unfold fB;simp_all
 have i:eM (fB S f)≠2:=by
  unfold fo at hk;simp only[cO,decide_eq_true_eq]at hk;have:fB S f=0\/fB S f=1\/fB S f=2\/fB S f=3\/fB S f=4\/fB S f=5\/fB S f=6\/fB S f=7\/fB S f=8\/fB S f=9\/fB S f=10\/fB S f=11\/fB S f=12\/fB S f=15:=by omega
  rcases this with h|h|h|h|h|h|h|h|h|h|h|h|h|h<;>rw[h]<;>decide
 unfold kF;simp only;rw[hf];simp only;rw[if_neg (by rw[lC];omega),if_pos ⟨trivial,hR⟩];unfold mL;rw[<-a,hn];have:=Bk (b:=bl (fH n 2++fI (l.flatMap fun v=>ER (fB S f) v.1))) hk l (m.get n) (fH n 2++vi (l.flatMap fun v=>ER (fB S f) v.1).length) _ (by rw[iJ,fI,bj]) e (aE _);rw[aN]at this;rw[this]
end
section
variable (S:eF) {f:fw} {R:MT->PM->Bool} {B:MT->PM->ap} {v:PV}
def PC (S:eF)(f:fw):Prop:=fB S f=16<->(fC S f).isSome=true
theorem JM (t:au):S.base t<=16:=by
 unfold eF.base;split
 .rename_i k c;have⟨i,h1,b⟩:=FD _ _ _ _ c;have:=(bn.1 b).1;have e:m9.length=15:=by decide
  omega
 grind
theorem tY (f:fw):fB S f<=16:=by
 unfold fB;split;.omega
 .exact JM S _
theorem Iu (h:f.isRep=true):f.isMap=false:=by
 unfold fw.isRep at h;unfold fw.isMap;rw[gR]at h;unfold gQ;rw[h];decide+kernel
theorem zq {S:eF}(h:f.isMap=true):fB S f=16:=by
 unfold fB;simp_all
section
variable {S:eF} {d:MT} {f:fw} {deep:Nat} {n:Int} {a:List PF} {u:au}
theorem PD {g:PV->ap}(l:List PV)(step:∀done v rest,l=done++v::rest->rd S (bl (g v)) d (.mk (CO a n done) u) deep= .ok (.mk (CO a n (done++ [v])) u)):
  rd S (bl (l.flatMap g)) d (.mk a u) deep= .ok (.mk (CO a n l) u):=by
 have:∀rest done,l=done++rest->rd S (bl (rest.flatMap g)) d (.mk (CO a n done) u) deep= .ok (.mk (CO a n l) u):=fun rest=>by
  induction rest with
  |nil=>
   intro done h;rw[bV]at h;subst h
   rfl
  |cons v rest ih=>
   intro done h;rw[bt,pH];exact Gu (step done v rest h) (ih (done++ [v]) (by(simp;omega)))
 exact this l [] rfl
variable (h0:1<=n) (h1:n<=536870911) (hf:ed d.fs n=some f) (hS:PC S f)
include h0 h1 hf hS
theorem RP {m:PM}(hp:iN S f=false)(w:fh f m=PV.none)(b:eE S R f v=true)
  (p:0<=v.1) (r:v.1<2^64) (h:v.2.1.size<2^64)
  (ih:∀t,fC S f=some t->R t v.2.2=true->rd S (bl (B t v.2.2)) t PM.none (deep+1)= .ok v.2.2/\pU S t (deep+1)=false/\(B t v.2.2).length<2^64):
  rd S (bl (fH n (oZ S f)++gp S B f v)) d m deep= .ok (ie S d f m v):=by
 have o:oZ S f=eM (fB S f):=by unfold oZ;simp_all
 rw[o];unfold eE at b;unfold gp;by_cases VJ:fB S f=16
 .rw[if_pos VJ]at*;have⟨t,l⟩:=co.1 (hS.1 VJ);rw[l]at b⊢;simp only[aQ,decide_eq_true_eq]at b;obtain⟨⟨c,g⟩,j⟩:=b;have⟨z,A,C⟩:=ih t l j;have i:fX S f=2:=by rw[lC,VJ];rfl
  have:=RO (m:=m) h0 h1 hf l i A (by rw[w];exact z) C;rw[w]at this;rw[VJ];have e:v=(PV.none.1,PV.none.2.1,v.2.2):=cY c (cY (vq g) rfl);exact this.J (by rw[<-e])
 .have k:fC S f=none:=by
   cases hs:fC S f with
   |none=>rfl
   |some t=>exact absurd (hS.2 (by simp_all)) VJ
  have x:f.isMap=false:=by
   cases hm:f.isMap with
   |false=>rfl
   |true=>exact absurd (zq hm) VJ
  have D:fB S f=S.base f.ty:=by unfold fB;simp_all
  rw[if_neg VJ]at*;by_cases h13:fB S f=13
  .rw[if_pos h13]at b;rw[if_pos (.inl h13)];simp only[aQ,decide_eq_true_eq]at b;obtain⟨⟨c,g⟩,j⟩:=b;have i:fX S f=2:=by rw[lC,h13];rfl
   have:=M4 (m:=m) (deep:=deep) h0 h1 hf k i (s:=v.2.1) (fun _=>by rw[uA];exact j) h;rw[h13];have e:v=(0,v.2.1,PM.none):=cY c (cY rfl (tX g));exact this.J (by rw[<-e])
  .rw[if_neg h13]at b;by_cases h14:fB S f=14
   .rw[if_pos h14]at b;rw[if_pos (.inr h14)];simp only[aQ,decide_eq_true_eq]at b;obtain⟨c,g⟩:=b;have i:fX S f=2:=by rw[lC,h14];rfl
    have:=M4 (m:=m) (deep:=deep) h0 h1 hf k i (s:=v.2.1) (fun q=>by
     have:=mm (S:=S).2 q
     omega) h
    rw[h14];have e:v=(0,v.2.1,PM.none):=cY c (cY rfl (tX g));exact this.J (by rw[<-e])
   .rw[if_neg h14]at b;rw[if_neg (by omega)];simp only[aQ]at b;obtain⟨⟨c,g⟩,j⟩:=b
    have y:fo (fB S f)=true:=by
     have:=tY S f;unfold fo
     (simp;omega)
    have:=RN (m:=m) (deep:=deep) h0 h1 hf x k y p r j;have e:v=(v.1,eS,PM.none):=cY rfl (cY (vq c) (tX g));exact this.J (by rw[<-e])
omit h0 h1 hf hS in
theorem M5 (hk:fo (fB S f)=true):gp S B f v=ER (fB S f) v.1:=by
 unfold fo at hk;simp only[cO,decide_eq_true_eq]at hk;unfold gp ER;rw[if_neg (by omega),if_neg (by omega)]
omit h0 h1 hf hS in
theorem rz (hk:fo (fB S f)=true)(b:eE S R f v=true):v.2=(eS,PM.none)/\zH (fB S f) v.1=true:=by
 unfold fo at hk;simp only[cO,decide_eq_true_eq]at hk;unfold eE at b;rw[if_neg (by omega),if_neg (by omega),if_neg (by omega)]at b;simp only[aQ]at b;exact⟨cY (vq b.1.1) (tX b.1.2),b.2⟩
theorem M6 {l:List PV}(hnx:kx (lx d f) n a=true)(C:fG S R f l=true)
  (q:∀v∈l,0<=v.1/\v.1<2^64/\v.2.1.size<2^64) (H:(l.flatMap fun v=>gp S B f v).length<2^64)
  (ih:∀v∈l,∀t,fC S f=some t->R t v.2.2=true->rd S (bl (B t v.2.2)) t PM.none (deep+1)= .ok v.2.2/\pU S t (deep+1)=false/\(B t v.2.2).length<2^64)
  (W:f.isMap=true->(∀v∈l,gD v.2.2=v.2.2)/\l.Pairwise fun x y=>kS f.key (fS y) (fS x)=false/\iD (fS y) (fS x)=false):
  rd S (bl (kN S B f l)) d (.mk a u) deep= .ok (.mk (a++ [(n,l)]) u):=by
 have k:f.num=n:=(fD hf).1;unfold kx at hnx;simp only[ca,aQ,decide_eq_true_eq,cT,decide_eq_false_iff_not]at hnx;have c:∀x∈a,x.1<n:=fun x j=>(hnx x j).1
 unfold fG at C;simp only[aQ,ca]at C;obtain⟨⟨g,D⟩,s⟩:=C;have E:l≠ []:=(by rintro rfl;unfold nR at g;simp at g);have N:CO a n l=a++ [(n,l)]:=(by unfold CO;rw[if_neg (by simpa using E)]);rw[<-N];unfold kN;by_cases z:iN S f=true
 .rw[if_pos z];have A:=z;unfold iN at A;simp only[aQ]at A;obtain⟨p,w⟩:=A;have i:=Iu p;have M:oZ S f=2:=by unfold oZ;simp_all
  have F:nH S B f l=l.flatMap fun v=>ER (fB S f) v.1:=(by unfold nH;congr 1;funext v;exact M5 w)
  have U:(l.flatMap fun v=>gp S B f v)=l.flatMap fun v=>ER (fB S f) v.1:=F
  rw[U]at H;rw[M,k,F,PB h0 h1 hf i p w k (fun v b=>⟨(rz w (D v b)).1,(q v b).1,(q v b).2.1,(rz w (D v b)).2⟩) H];have T:a=CO a n []:=rfl;rw[T,CP c,CQ c _ _ _ (by simpa using E)];rfl
 .have z:iN S f=false:=by simp_all
  rw[if_neg (by omega)];refine PD l fun done v rest V=> ?_
  have b:v∈l:=by simp_all
  have J:(f.isRep||f.isMap)=true\/done= []:=by
   cases hrm:(f.isRep||f.isMap)with
   |true=>simp
   |false=>
    right;unfold nR at g;rw[hrm,V]at g;simp at g
    cases done with
    |nil=>rfl
    |cons x r=>grind
  have L:fh f (.mk (CO a n done) u)=PV.none:=by
   unfold fh;rcases J with h|h;.rw[if_pos h]
   .subst h;rw[k,CP c];split<;>rfl
  rw[k,RP h0 h1 hf hS (R:=R) (m:= .mk (CO a n done) u) z L (D v b) (q v b).1 (q v b).2.1 (q v b).2.2 (ih v b)];congr 1;unfold ie;rw[k];by_cases i:f.isMap=true
  .have⟨K,X⟩:=W i;rw[if_pos i,CP c,K v b];unfold jX
   rw[show(v.1,v.2.1,v.2.2)=v from rfl,zl (fun x j=>by
    grind),CQ c _ _ _ (by simp)]
  .rw[if_neg i];by_cases p:f.isRep=true;.rw[if_pos p,CP c,CQ c _ _ _ (by simp)]
   .rw[if_neg p];have O:done= []:=(by simp_all);subst O;have P:l= [v]:=(by unfold nR at g;simp_all)
    have Q:(gQ f.how eS&&(fC S f).isNone&&decide (v.1=0)&&gQ v.2.1 eS)=false:=by
     cases hq:(gQ f.how eS&&(fC S f).isNone&&decide (v.1=0)&&gQ v.2.1 eS)with
     |false=>rfl
     |true=>
      exfalso;simp only[aQ,decide_eq_true_eq]at hq;obtain⟨⟨⟨Y,b⟩,e⟩,G⟩:=hq
      have I:fB S f≠16:=fun e=>by
       have:=hS.1 e;simp_all
      unfold ku at s;rw[if_neg i,if_pos ⟨Y,I⟩,P]at s;simp only[cT,Bool.and_eq_false_iff,decide_eq_false_iff_not]at s;rcases s with h|h;.omega
      .rw[gR]at G;unfold ox at h;rw[G]at h
       revert h;decide+kernel
    rw[Q,if_neg (by decide),zj (fun o b Z x j=>by
     have j:x∈a:=j;have:=(hnx x j).2;intro e;refine this ?_;unfold lx
     grind),CQ c _ _ _ (by simp)]
    rfl
end
end
section
variable {s:au} {a k deep:Nat} {kind:Int} {S:eF} {d:MT}
theorem Iv {z:Nat}{num:Int}{r:pO}(b:kind=0\/kind=1\/kind=2\/kind=5)(h:fN s a num kind z= .ok r):r.num=num/\(r.kind:Int)=kind/\r.a=a:=by
 rcases b with rfl|rfl|rfl|rfl;.have h:=(Fz s a num z).sy.J h;grind
 .have h:=(FA s a num z).sy.J h;grind
 .have h:=(uD s a num z).sy.J h;grind
 .have h:=(FB s a num z).sy.J h;grind
theorem ES {x:(Int×Int)×Nat}(h:jY s a= .ok x):x.1.2=0\/x.1.2=1\/x.1.2=2\/x.1.2=5:=by
 unfold jY at h;grind
theorem CR (s:au):s.extract 0 s.size=s:=jA Vw
theorem M7 (s:au){e:Nat}(c:a<=e):s.extract a e++s.extract e s.size=s.extract a s.size:=by
 refine jA ?_;have b:s.data.toList.length=s.size:=Vw;rw[o8,o9,o9,o9,ch (Nat.le_of_eq b),List.drop_take];have:s.data.toList.drop a=(s.data.toList.drop a).take (e-a)++(s.data.toList.drop a).drop (e-a):=(bY _ _).sy;rw[List.drop_drop,show a+(e-a)=e by omega]at this;grind
theorem PE {num:Int}(c:(k:Int)=kind)(h:o0 S d num kind=false):∀f,ed d.fs num=some f->k≠fX S f/\¬(k=2/\f.isRep=true):=λf j=>by
 unfold o0 at h;rw[j]at h;simp only[dv,Bool.and_eq_false_iff,beq_eq_false_iff_ne]at h;obtain⟨b,m⟩:=h;rw[lC];refine⟨λe=>b (by rw[<-c,e]),λ⟨g,i⟩=> ?_⟩;have a:iN S f=false:=(by simp_all);unfold iN at a;rw[i,df]at a;unfold fo at a;simp only[dv,decide_eq_false_iff_not]at a;have l:=tY S f;have:fB S f=13\/fB S f=14\/fB S f=16:=Vv;refine b ?_;rw[<-c,g];rcases this with h|h|h<;>rw[h]<;>rfl
theorem Iw:∀(G F a:Nat) (m:PM),nS (o0 S d) s G a=true->a<=s.size->s.size-a<F->eY S s F d m a s.size deep= .ok (m.O (s.extract a s.size))
 |0,_,_,_,h,_,_=>by cases h
 |_+1,0,_,_,_,_,h=>absurd h Vv
 |G+1,F+1,a,m,h,ha,hF=>by
  rw[nS]at h;by_cases hl:a<s.size
  .rw[dR hl]at h;unfold OW at h;split at h;.cases h
   .rename_i x g;simp only[aQ,cT]at h;obtain⟨i,b⟩:=h;unfold L7 at b;split at b;.cases b
    .rename_i y c;rw[qY s a x.1.1]at c;split at c;.cases c
     .rename_i r f;cases c;have e:fO s a s.size= .ok r:=(by rw[<-wL (aE _),CR,qX,g];exact f);have⟨k,l,n⟩:=Iv (ES g) f;have⟨o,p,q,t,j,_⟩:=jf e;rw[pB hl e (by rw[k];exact PE l i),Iw G F r.e _ b j Vv];obtain⟨fs,u⟩:=m;show Except.ok (PM.mk fs (u++s.extract r.a r.e++s.extract r.e s.size))=Except.ok (PM.mk fs (u++s.extract a s.size));rw[n,ByteArray.append_assoc,M7 s Vv]
  .rw[iR hl];obtain⟨fs,u⟩:=m;show _=Except.ok (PM.mk fs (u++s.extract a s.size))
   have:s.extract a s.size=eS:=jA (by
    rw[o9,List.drop_eq_nil_of_le Vx]
    rfl)
   rw[this];have:u++eS=u:=jA (by rw[o8];exact bV _);rw[this]
theorem RQ {m:PM}(h:pW (o0 S d) s=true):rd S s d m deep= .ok (m.O s):=by
 have:=Iw (deep:=deep) (s.size+1) (s.size+1) 0 m h (aP _) Vv
 rwa [CR]at this
def mW (f:fw):fw:=⟨oh,f.key,eS,lM,1⟩
def pJ (f:fw):fw:=⟨qe,f.ty,eS,lM,2⟩
theorem lW:(lM.toList==xD.toList)=false/\(lM.toList==Dx.toList)=false/\(lM.toList==eS.toList)=false:=Vz
theorem Bl {f:fw}{e:PM}(h:d6 S (k+1) (eR f) e=true)(c:(e.fs.length==2)=true)(i:ox e.unk=true):
  ∃x y,e= .mk [(1,[x]),(2,[y])] eS/\eE S (d6 S k) (mW f) x=true/\eE S (d6 S k) (pJ f) y=true:=by
 obtain⟨fs,u⟩:=e;have i:u=eS:=vq i;subst i;have c:(fs.length==2)=true:=c;have c:fs.length=2:=by simp_all
 obtain⟨p,q,rfl⟩:∃p q,fs= [p,q]:=by
  match fs,c with
  | [p,q],_=>simp
 obtain⟨m,w⟩:=p;obtain⟨o,z⟩:=q;rw[d6]at h;simp only[aQ]at h;have h:=h.1;have j:gX S (d6 S k) (eR f) [] [(m,w),(o,z)]=true:=h;rw[gX,gX,gX]at j;simp only[dB,aQ,aX]at j;obtain⟨s,d⟩:=j
 have t:∀n g,ed (eR f).fs n=some g->(n=1/\g=mW f)\/(n=2/\g=pJ f):=λn g a=>by
  simp only[eR,ed]at a;split at a;.cases a;exact .inl ⟨Vv,rfl⟩
  .split at a;.cases a;exact .inr ⟨Vv,rfl⟩
   .cases a
 have A:∀g l,g=mW f\/g=pJ f->fG S (d6 S k) g l=true->∃x,l= [x]/\eE S (d6 S k) g x=true:=λg l a b=>by
  have r:g.isRep=false/\g.isMap=false:=(by rcases a with rfl|rfl<;>exact⟨lW.2.1,lW.1⟩);unfold fG nR at b;rw[r.1,r.2]at b;simp only[de,cV,aQ,beq_iff_eq,ca]at b;obtain⟨⟨B,E⟩,_⟩:=b
  match l,B with
  | [x],_=>simp_all
 cases hf1:ed (eR f).fs m with
 |none=>simp_all
 |some C=>
  rw[hf1]at s
  cases hf2:ed (eR f).fs o with
  |none=>simp_all
  |some D=>
   rw[hf2]at d;simp only[aQ]at s d;have v:m<o:=(by have:=d.1;unfold kx at this;simp_all);grind
theorem ET (x y:PV):gD (.mk [(1,[x]),(2,[y])] eS)= .mk [(1,[x]),(2,[y])] eS:=by
 rfl
end
def pA (c:UInt8):Bool:=xr c.toNat
def pD (c:UInt8):Bool:=mA c.toNat
def mz:Nat->ap->List (ap)
 |0,_=> []
 |_,[]=> []
 |n+1,c::r=>
  if Do c.toNat then mz n r
  else if vS c.toNat then(c::r.takeWhile pA)::mz n (r.dropWhile pA)
  else if mA c.toNat&&(c.toNat:Int) !=48 then(c::r.takeWhile pD)::mz n (r.dropWhile pD)
  else [c]::mz n r
def Bn (p:Int->Bool)(t:au):∀n k,t.size-k<=n->k<=t.size->jc p t n k=k+((t.data.toList.drop k).takeWhile λc=>p c.toNat).length
 |0,k,h,hk=>by
  have:t.data.toList.length=t.size:=Vw;rw[jc,cu Vv]
  rfl
 |n+1,k,h,hk=>by
  have b:t.data.toList.length=t.size:=Vw;by_cases hs:k<t.size
  .have a:gh t k=((t.data.toList[k]'Vv).toNat:Int):=(by rw[mt,aO Vv];rfl);rw[jc,be Vv,List.takeWhile_cons,a]
   cases hp:p ((t.data.toList[k]'Vv).toNat:Int)with
   |true=>
    rw[dR (by grind),Bn p t n (k+1) Vv hs]
    (simp;omega)
   |false=>simp
  .rw[ka (.inl hs),cu Vv];rfl
def GK (t:au):∀n m a,t.size-a<=n->t.size-a<=m->a<=t.size->(ld t n a).map (λx=>x.1.data.toList)=mz m (t.data.toList.drop a)
 |0,m,a,h,_,ha=>by
  have r:t.data.toList.length=t.size:=Vw;rw[cu Vv]
  cases m<;>rfl
 |n+1,m,a,h,hm,ha=>by
  have r:t.data.toList.length=t.size:=Vw;by_cases hs:a<t.size
  .obtain⟨m,rfl⟩:∃k,m=k+1:=⟨m-1,Vv⟩;have q:gh t a=((t.data.toList[a]'Vv).toNat:Int):=(by rw[mt,aO Vv];rfl);have g:=be (l:=t.data.toList) (i:=a) Vv
   have u:∀j,(t.extract a j).data.toList=((t.data.toList.drop a).take (j-a)):=λj=>by
    rw[o9,List.drop_take]
   have s:=pj t a hs;rw[ld,dR hs,g,mz,q];generalize hc:(t.data.toList[a]'Vv)=c at*;split;.exact GK t n m (a+1) Vv Vv hs
   .rw[bC,GK t n m (ir t a) Vv Vv s.2];simp only;rw[u]
    have key:∀p:Int->Bool,ir t a=jc p t t.size (a+1)->(t.data.toList.drop a).take (ir t a-a)=c::(t.data.toList.drop (a+1)).takeWhile (λc=>p c.toNat)/\t.data.toList.drop (ir t a)=(t.data.toList.drop (a+1)).dropWhile (λc=>p c.toNat):=λp e=>by
     have v:(t.data.toList.drop (a+1)).takeWhile (λc=>p c.toNat)++(t.data.toList.drop (a+1)).dropWhile (λc=>p c.toNat)=t.data.toList.drop (a+1):=List.takeWhile_append_dropWhile;rw[e,Bn p t _ _ Vv hs,g,show a+1+((t.data.toList.drop (a+1)).takeWhile λc=>p c.toNat).length-a=((t.data.toList.drop (a+1)).takeWhile λc=>p c.toNat).length+1 by omega,cZ,show∀k,t.data.toList.drop (a+1+k)=(t.data.toList.drop (a+1)).drop k from λk=>by rw[List.drop_drop]];grind
    unfold ir at key⊢;rw[q]at key⊢;split;.rename_i b;have⟨d,f⟩:=key xr (by rw[dR b]);rw[dR b]at d f;rw[d,f];rfl
    .rename_i b;split;.rename_i o;have⟨d,f⟩:=key mA (by rw[dQ b,dR o]);rw[dQ b,dR o]at d f;rw[d,f];rfl
     .rw[g,show a+1-a=1 by omega];rfl
  .rw[xt hs,cu Vv];cases m<;>rfl
def lS:∀n m (l:ap),l.length<=n->l.length<=m->mz n l=mz m l
 |n,m,[],_,_=>by cases n<;>cases m<;>rfl
 |0,_,_::_,h,_=>by grind
 |_,0,_::_,_,h=>by grind
 |n+1,m+1,c::r,h,h'=>by
  have a:∀p,(r.dropWhile p).length<=r.length:=λp=>(List.dropWhile_sublist p).length_le
  have b:=a pA;have d:=a pD;simp only[bw]at h h';rw[mz,mz,lS n m r Vv Vv,lS n m _ Vv Vv,lS n m _ Vv Vv]
def Bd (s:ap):Prop:=∀c,s.getLast?=some c->pA c=false
def Bd.tail {c:UInt8}{r:ap}(h:Bd (c::r)):Bd r:=λx a=>h x (by
 grind)
def To {c:UInt8}(h:pA c=false):pD c=false:=by
 unfold pA xr at h;unfold pD;simp_all
def EY {p:UInt8->Bool}:∀{s r:ap},s≠ []->(∀c,s.getLast?=some c->p c=false)->(s++r).takeWhile p=s.takeWhile p/\(s++r).dropWhile p=s.dropWhile p++r/\∀c,(s.dropWhile p).getLast?=some c->s.getLast?=some c
 | [],_,h,_=>absurd rfl h
 |c::s,r,_,h=>by
  rw[bo,List.takeWhile_cons,List.takeWhile_cons,List.dropWhile_cons,List.dropWhile_cons]
  cases hp:p c with
  |false=>simp
  |true=>
   cases s with
   |nil=>simp_all
   |cons d s=>
    have⟨b,e,f⟩:=EY (p:=p) (s:=d::s) (r:=r) Vw (λx a=>h x (by simpa using a));simp_all
def zC:∀n (s r:ap),s.length+r.length<=n->Bd s->mz n (s++r)=mz n s++mz n r
 |n,[],r,_,_=>by cases n<;>rfl
 |0,_::_,_,h,_=>VB
 |n+1,c::s,r,h,hb=>by
  simp only[bw]at h;have k:∀l:ap,l.length<=n->mz (n+1) l=mz n l:=λl m=>lS _ _ l Vv m
  have i:∀p,(s.dropWhile p).length<=s.length:=λp=>(List.dropWhile_sublist p).length_le
  rw[k r Vv,bo,mz,mz];have ih:=zC n s r Vv hb.tail
  have g:∀p:UInt8->Bool,p c=true->(∀c,pA c=false->p c=false)->(s++r).takeWhile p=s.takeWhile p/\mz n ((s++r).dropWhile p)=mz n (s.dropWhile p)++mz n r:=λp u f=>by
   have o:s≠ []:=λe=>by subst e;have:=f _ (hb c rfl);simp_all
   have⟨a,b,j⟩:=EY (p:=p) (r:=r) o (λx d=>f x (hb.tail x d));have:=i p;exact⟨a,by rw[b];exact zC n _ r Vv (λx d=>hb.tail x (j x d))⟩
  split;.exact ih
  .split;.rename_i t;have⟨a,b⟩:=g pA (by unfold pA xr;simp_all) (λ_ h=>h);simp_all
   .split;.rename_i q;have⟨a,b⟩:=g pD (by unfold pD;simp_all) (λ_ h=>To h);simp_all
    (simp;omega)
end Go.Proofs.YtfebdimolnobaaaGreatDoor
