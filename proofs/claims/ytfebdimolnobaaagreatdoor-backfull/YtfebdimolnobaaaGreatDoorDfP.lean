import Derived.Test.YtfebdimolnobaaaGreatDoorPxB
import Derived.Test.YtfebdimolnobaaaGreatDoorKyA
import Derived.Test.YtfebdimolnobaaaGreatDoorDfN
set_option maxRecDepth 100000
set_option maxHeartbeats 8000000
set_option linter.all false
namespace Go.Proofs.YtfebdimolnobaaaGreatDoor
open Go.RowKit Go.Proofs.Tryz
section
open VH
def OE (n:Nat)(h:n<2^64):n^^^9223372036854775808=(n+9223372036854775808)%2^64:=by
 have e:(9223372036854775808:Nat)=2^63:=Vy
 have key:∀r,r<2^63->r^^^2^63=2^63+r:=λr a=>by
  apply Nat.eq_of_testBit_eq;intro i;rw[Nat.testBit_xor,Nat.testBit_two_pow];by_cases h1:i<63;.rw[Nat.testBit_two_pow_add_gt h1];have:decide (63=i)=false:=Vx;simp[this]
  .by_cases h2:i=63;.subst h2;rw[Nat.testBit_two_pow_add_eq];simp
   .have d:2^64<=2^i:=dw Vv Vv;have b:r.testBit i=false:=Nat.testBit_lt_two_pow Vv;have c:(2^63+r).testBit i=false:=Nat.testBit_lt_two_pow Vv;rw[b,c];simp;omega
 rw[e];by_cases hn:n<2^63;.rw[key n hn,Nat.mod_eq_of_lt Vv];omega
 .obtain⟨r,rfl⟩:∃r,n=2^63+r:=⟨n-2^63,Vv⟩;have a:r<2^63:=Vv;rw[<-key r a,Nat.xor_assoc,Nat.xor_self,Nat.xor_zero,key r a];omega
def tx {n:Int}(b:0<=n)(h1:n<2^64):bits .xor .u64 n 9223372036854775808=(n+9223372036854775808)%2^64:=by
 obtain⟨a,rfl⟩:=bG b;have c:(BitVec.ofInt 64 (a:Int)).toNat=a:=(by rw[BitVec.ofInt_natCast,BitVec.toNat_ofNat];exact Nat.mod_eq_of_lt Vv);show IntKind.u64.wrap (((BitVec.ofInt 64 (a:Int))^^^(BitVec.ofInt 64 9223372036854775808)).toNat:Int)=_;rw[BitVec.toNat_xor,c,show(BitVec.ofInt 64 9223372036854775808).toNat=9223372036854775808 from by decide,OE a Vv];rw[gU Vv Vv];omega
def FQ (sg:Bool)(v:LV):LV:=(if sg then(v.1+9223372036854775808)%2^64 else v.1,v.2)
def OF (w:aw)(v:LV)(sg:Bool)(c:0<=v.1)(h1:v.1<2^64):
  Calls prog 267 #[wN v,.bool sg] w λe w'=>e= .returned (kV (FQ sg v))/\ak w w':=by
 have d:=tx c h1;have a:=dZ.new w #[.int .u64 v.1,ag v.2,ai,Vp] 55;have b:=a.alloc (am #[.int .u64 0,Vp] 386);have⟨f,g⟩:=b.I;unfold wN kV FQ
 cases sg with
 |true=>
  rw[dR rfl];go_in
  go_wp2;refine dU (ew results267 _ _ rfl (dZ.new1 w _ _ _) underlying386 VA) rfl ?_
  exact⟨rfl,((Below.refl _ _).alloc (aE _) _).alloc Vw _⟩
 |false=>
  rw[dQ Vw];go_in
  go_wp2;refine dU (ew results267 _ _ rfl (dZ.new1 w _ _ _) underlying386 VA) rfl ?_;exact⟨rfl,((Below.refl _ _).alloc (aE _) _).alloc Vw _⟩
def j0.filled {S:eF}{R:Qa}{w:aw}{T:Option MT}:∀{l:List gH} {fs:List PF} {Y:ax},j0 (gY S R w T) Y l fs->∀f∈fs,f.2≠ []
 | [],[],_,_=>Vw
 |_::_,g::_,_,⟨_,_,h1,h2,_⟩=>λf a=>by
  rcases aR.1 a with rfl|a
  .rcases h1.2 with⟨_,lv,h⟩|⟨_,b,B,h⟩|⟨t,_,c,b,B,h⟩;.rw[h.pm];simpa using h.ne
   .intro e;have:=h.sub.len;rw[e]at this;exact h.ne (bF this)
   .intro e;have:=h.sub.len;rw[e]at this;exact h.ne (bF this)
  .exact h2.filled f a
 | [],_::_,_,h=>h.elim
 |_::_,[],_,h=>h.elim
def DU {n:Int}:∀{fs:List PF},(∀f∈fs,f.2≠ [])->(∃f∈fs,f.1=n)->gT fs n≠ []
 | [],_,⟨_,h,_⟩=>by simp at h
 |x::l,h,⟨f,a,e⟩=>by
  rw[gT];split;.exact h x Vw
  .rename_i q;rcases aR.1 a with rfl|a;.exact absurd e q
   .exact DU (λy b=>h y (by simp[b])) ⟨f,a,e⟩
def Lp {S:eF}{k:Nat}{T:Option MT}{w:aw}{Z Y:ax}{db:Nat}{m:PM}{sv uv:Value}{l:List gH}(u:OB w Z db sv uv m.unk l Y)(p:j0 (gY S (eQ S k) w T) Y l m.fs){n:Int}{i:Nat}(h1:∀k x,(l.map (·.1))[k]?=some x->k<i->x<n)(t:∀k x,(l.map (·.1))[k]?=some x->i<=k->n<=x):
  ((l.map (·.1))[i]?=some n->(m.get n).isEmpty=false)/\((l.map (·.1))[i]?≠some n->(m.get n).isEmpty=true/\∀f∈m.fs,f.1≠n):=by
 have g:=p.nums;constructor
 .intro h;have c:n∈m.fs.map (·.1):=by rw[g];exact aL h
  have⟨f,a,e⟩:=aS.1 c;have:=DU p.filled ⟨f,a,e⟩;unfold PM.get
  cases hg:gT m.fs n with
  |nil=>exact absurd hg this
  |cons _ _=>rfl
 .intro h
  have d:∀f∈m.fs,f.1≠n:=λf a e=>by
   have c:n∈l.map (·.1):=by rw[<-g];exact aS.2 ⟨f,a,e⟩
   have⟨j,b⟩:=bX.1 c
   have r:i<j:=by
    by_cases q:j<i;.have:=h1 j n b q;omega
    .by_cases q2:j=i;.exact absurd (q2▸b) h
     .omega
   have o:(l.map (·.1)).Pairwise (·< ·):=cw.2 u.c.srt;have⟨s,y⟩:=bn.1 b;have v:=cg.1 o i j Vv s r;have:=t i _ (aO Vv) (aE _);omega
  exact⟨by unfold PM.get;rw[nX n m.fs d];rfl,d⟩
def nD (m:PM):Nat->PM
 |0=> .mk m.fs eS
 |1=>fV (.mk m.fs eS) 1
 |_=>fV (fV (.mk m.fs eS) 1) 2
def I7 (m:PM):nD m 2=gD m:=by
 have c:∀(fs:List PF) (u d:au) (n:Int),(fV (.mk fs u) n).fs=(fV (.mk fs d) n).fs/\(fV (.mk fs u) n).unk=u:=λfs u d n=>by
  unfold fV PM.get PM.put;cases h:(gT fs n).isEmpty<;>simp[PM.fs,PM.unk,h]
 have a:∀m:PM,m= .mk m.fs m.unk:=λm=>by cases m;rfl
 unfold gD;show fV (fV (.mk m.fs eS) 1) 2=_;rw[a (fV (fV (.mk m.fs eS) 1) 2)];have b:=c m.fs eS m.unk 1;rw[<-a m]at b;rw[a (fV (.mk m.fs eS) 1),b.2,b.1];rw[(c (fV m 1).fs eS (fV m 1).unk 2).1,<-a (fV m 1),(c (fV m 1).fs eS eS 2).2]
def DV (S:eF)(k:Nat)(T:Option MT)(w:aw)(Z:ax)(db:Nat)(m:PM)(h:eQ S (k+1) T w Z db m)(f:oO S T 1 .vals)(g:oO S T 2 .vals)(j:m.fs.length<2199023254998)(i:∀b,Z b->b<w.heap.size):
  Calls prog 265 #[ah db] w (kD S k T w Z db (gD m)):=by
 obtain⟨sv,uv,l,Y,a,R⟩:=h;have⟨c,d⟩:=a.c.blk.I;have c:=a.c.blk.lt
 have d:eQ S (k+1) T (w.setCell (aj db 1) (ai)) Z db (nD m 0):=by
  have F:∀b,b≠db->(w.setCell (aj db 1) (ai)).heap[b]?=w.heap[b]?:=λb q=>by rw[dY,dQ (λe=>q e.sy)]
  refine⟨sv,ai,l,Y,⟨⟨⟨a.c.blk.set 1 _,eD a.c.row (λb e=>F b (λq=>a.c.ne (q▸e))),a.c.form,a.c.srt,a.c.ne,a.c.len⟩,br _ _ _ _,a.zd,a.zs,(λb e=>by cases e),(λb _ e=>by cases e),(λe=>by cases e)⟩,a.yz,λb q=>by simpa using a.yl b q,a.yd,a.ys,(λb e=>by cases e)⟩,?_⟩;exact nA R λb q _=>F b (λe=>a.yd (e▸q))
 have U:fP w Z (w.setCell (aj db 1) (ai)) Z:=⟨rfl,rfl,rfl,Vw,λb _ q=>by rw[dY,dQ (λe:db=b=>q (by rw[<-e];exact a.zd))],λb q=> .inl q⟩;have E:=dZ.new (w.setCell (aj db 1) (ai)) #[aa 1,aa 2] 3;have D:Below _ (w.setCell (aj db 1) (ai)) ((w.setCell (aj db 1) (ai)).alloc (am #[aa 1,aa 2] 3)):=(Below.refl _ _).alloc (aE _) _;have o:(w.setCell (aj db 1) (ai)).heap.size=w.heap.size:=Vw;have V:(nD m 0).fs.length<2199023254998:=j;clear a R
 have v:∀(m:PM) (n:Int),(fV m n).fs.length<=m.fs.length+1:=λm n=>by
  unfold fV;split;.exact PM.put_len m n _
  .omega
 have hlen:∀j,(nD m j).fs.length<2199023255000:=λj=>by
  match j with
  |0=>have:=V;omega
  |1=>have:=v (nD m 0) 1;show(fV (nD m 0) 1).fs.length<_;omega
  |_+2=>
   have a:=v (nD m 0) 1;have a:=v (fV (nD m 0) 1) 2;show(fV (fV (nD m 0) 1) 2).fs.length<_;omega
 have G:∀j,j<2->nD m (j+1)=fV (nD m j) ((j:Int)+1):=λj Q=>by
  match j with
  |0=>rfl
  |1=>rfl
 have H:Hid (∀j,j<2->nD m (j+1)=fV (nD m j) ((j:Int)+1)):=G;clear G
 have X:∀j:Nat,j<2->oO S T ((j:Int)+1) .vals:=λj Q=>by
  match j with
  |0=>exact f
  |1=>exact g
 go_in
 rw[o]at E;clear o;go_wp2;go_loopw [11] (λB wr=>∃j:Nat,j<=2/\B=aa j/\∃c,fP w Z wr c/\eQ S (k+1) T wr c db (nD m j)/\dZ wr w.heap.size #[aa 1,aa 2] 3/\¬c w.heap.size) (λB _=>(2-intOf B).toNat)
 case atStart=>exact⟨0,Vv,rfl,Z,U.G D,d.O (λb _ q=>D.block b q),E,λq=>by have:=i _ q;omega⟩
 case round=>
  obtain⟨j,Q,rfl,c,C,s,y,z⟩:=hrel;by_cases VJ:j<2
  .have P:wr.cell? (aj w.heap.size j)=some (aa ((j:Int)+1)):=by
    rw[y.cell]
    match j,VJ with
    |0,_=>rfl
    |1,_=>rfl
   have a:(j:Int)<2:=Vv;obtain⟨K,L,p,a,A,M⟩:=s;have s:eQ S (k+1) T wr c db (nD m j):=⟨K,L,p,a,A,M⟩;have a:=Hj wr db K L p ((j:Int)+1) A.c;go_wp2_with fail;refine a.V ?_;rintro e w1 ⟨⟨i,rfl,f,a,d⟩,r⟩;have t:=Lp A M a d;have I:=s.O (λb _ q=>r.block b q);have x:=y.G r y.lt;by_cases hfd:(p.map (·.1))[i]?=some ((j:Int)+1)
   .have a:decide ((p.map (·.1))[i]?=some ((j:Int)+1))=true:=decide_eq_true hfd;have u:Hid (nD m (j+1)=nD m j):=(by show nD m (j+1)=nD m j;rw[H.o j VJ,fV,t.1 hfd];rfl);clear hfd t P;go_wp2;go_roundw
    case rel=>exact⟨j+1,Vv,by go_num,c,C.G r,by rw[u.o];exact I,x,z⟩
    case measure=>simp[intOf];omega
   .have a:decide ((p.map (·.1))[i]?=some ((j:Int)+1))=false:=decide_eq_false hfd;have⟨N,a⟩:=t.2 hfd;have u:Hid (nD m (j+1)=(nD m j).put ((j:Int)+1) [re (0,⟨#[]⟩)]):=(by show nD m (j+1)=_;rw[H.o j VJ,fV,N];rfl);have J:=Cb S k T w1 c db (nD m j) ((j:Int)+1) (0,⟨#[]⟩) I (X j VJ) (.inr a) (hlen j);unfold wN at J;clear hfd t P N;go_wp2_with fail;refine J.V ?_;rintro e w2 ⟨rfl,O,d,f⟩;have W:=x.step d z;have a:¬O w.heap.size:=d.not x.lt z;go_wp2;go_roundw
    case rel=>exact⟨j+1,Vv,by go_num,O,(C.G r).J d,by rw[u.o];exact f,W,a⟩
    case measure=>simp[intOf];omega
  .obtain rfl:j=2:=Vv;go_wp2;go_end0;rw[<-I7];exact⟨rfl,c,C,s⟩
section
variable {S:eF} {k db g:Nat} {T:Option MT} {w1:aw} {Z1 C:ax} {m:PM} {n:Int} {pre post:List gH} {x:gH} {uv:Value} {t:au} {β:Type} {ps:aB}
def qv (t:au):MT:=⟨eS,[⟨oh,t,eS,lM,1⟩]⟩
theorem wU.shut {sv:Value}{A B:ax}{fp fq:List PF}
  (h:wU S k T w1 Z1 db m n g pre x post sv uv A B fp fq) (c:m.get n≠ []):eQ S (k+1) T w1 Z1 db m:=by
 rcases h.was with⟨i,e,d⟩|⟨e,_⟩;.obtain⟨fs,u⟩:=m;simp only[PM.fs]at e;subst e;exact⟨sv,uv,pre++x::post,λb=>A b\/B b,h.y,j0.join h.len d h.sep (λb q=> .inl q) (λb q=> .inr q) h.dis⟩
 .refine absurd ?_ c;unfold PM.get;rw[e];refine nX n _ λf a=> ?_
  rcases aW.1 a with a|a;.have:=h.lo f a;omega
  .have:=h.hi f a;omega
theorem wU.ofEnts {sv:Value}{A B:ax}{fp fq:List PF}
  (h:wU S k T w1 Z1 db m n g pre x post sv uv A B fp fq) (d:∀kd,oO S T n kd->kd= .ents t):
  (x.2.1=ai/\x.2.2.1=ai)/\((x.2.2.2= .map none/\m.get n= []/\∀b,¬A b)\/∃mb ps D,x.2.2.2= .map (some mb)/\j8 w1 mb ((m.get n).map λv=>kr t (fS v)) ps/\(∀b,D b->A b)/\A mb/\¬D mb/\(∀v∈m.get n,Fi t (fS v))/\
   (m.get n).Pairwise (λa b=>lI (kr t (fS a)) (kr t (fS b)))/\j0 (λp v C=>v=mV v.2.2/\eQ S k none w1 C p v.2.2) D ps (m.get n)):=by
 rcases h.was with⟨j,e,s⟩|⟨e,rfl,r⟩
 .obtain⟨u,l⟩:=s;have o:m.get n=j:=(by unfold PM.get;rw[e];exact rh n j fq fp h.lo);rw[h.xn]at l;rcases l with⟨q,_⟩|⟨q,_⟩|⟨w,q,mb,ps,B,c⟩;.exact absurd (d _ q) Vw
  .exact absurd (d _ q) Vw
  .have:=d _ q;simp only[Kd.ents.injEq]at this;subst this;rw[o];exact⟨⟨c.c1,c.c2⟩,.inr ⟨mb,ps,B,c.c3,c.map,c.inA,c.inM,c.own,c.key,c.srt,c.sub⟩⟩
 .refine⟨⟨rfl,rfl⟩,.inl ⟨rfl,?_,r⟩⟩;unfold PM.get;rw[e];refine nX n _ λf i=> ?_
  rcases aW.1 i with i|i;.have:=h.lo f i;omega
  .have:=h.hi f i;omega
theorem j0.splitR {α:Type}{P:α->β->(ax)->Prop}{l:List α}{rp:List β}{y:β}{rq:List β}{Y:ax}(h:j0 P Y l (rp++y::rq)):
  ∃pre x post,l=pre++x::post/\pre.length=rp.length/\∃A B:ax,P x y A/\j0 P B (pre++post) (rp++rq)/\(∀b,A b->Y b)/\(∀b,B b->Y b)/\∀b,A b->¬B b:=by
 have f:=h.len;simp only[aN,bw]at f;have c:rp.length<l.length:=Vv
 obtain⟨pre,x,post,rfl,i⟩:∃pre x post,l=pre++x::post/\pre.length=rp.length:=
  ⟨l.take rp.length,l[rp.length],l.drop (rp.length+1),by rw[<-be c,bY],by rw[bN];omega⟩
 have⟨j,m,k,e,g,A,B,q⟩:=h.split;have⟨d,a⟩:=List.append_inj e Vv;simp only[List.cons.injEq]at a;obtain⟨rfl,rfl⟩:=a;subst d;exact⟨pre,x,post,rfl,i,A,B,q⟩
theorem j0.part {P:Nat->β->(ax)->Prop}{l1 mid l2:List β}(h:j0 P C ps (l1++(mid++l2)))(hm:mid= []\/∃x,mid= [x]):
  ∃ps1 pm ps2,∃C0:ax,ps=ps1++(pm++ps2)/\ps1.length=l1.length/\((mid= []/\pm= [])\/∃x p,mid= [x]/\pm= [p])/\j0 P C0 (ps1++ps2) (l1++l2)/\∀b,C0 b->C b:=by
 rcases hm with rfl|⟨x,rfl⟩;.have d:=h.len;simp only[aX,aN]at d h;exact⟨ps.take l1.length,[],ps.drop l1.length,C,by rw[aX,bY],by rw[bN];omega,.inl ⟨rfl,rfl⟩,by rw[bY];exact h,λ_ q=>q⟩
 .obtain⟨pre,p,post,rfl,e,A,B,_,a,_,c,_⟩:=j0.splitR (y:=x) (rq:=l2) h;exact⟨pre,[p],post,B,rfl,e,.inr ⟨x,p,rfl,rfl⟩,a,c⟩
theorem wU.ents {w2:aw}{c:Nat}{A B:ax}{fp fq:List PF}
  (h:wU S k T w2 Z1 db m n g pre x post (.slice (some (aj g 0)) (pre++x::post).length c) uv A B fp fq) {w3 w6:aw} {mb eb N:Nat} {E:ax} {em:PM} {D:DataW Unit} {kl:Lit}
  (Z:DR w3 db (.slice (some (aj g 0)) (pre++x::post).length c) uv (pre++(n,ai,ai,.map (some mb))::post)) (h3:∀b,b<w2.heap.size->b≠g->w3.heap[b]?=w2.heap[b]?) (u:w2.heap.size<=w3.heap.size)
  (i:∀b,b<w3.heap.size->¬E b->b≠mb->w6.heap[b]?=w3.heap[b]?) (R:w3.heap.size<=w6.heap.size) (H:w6.os=w2.os/\w6.tape=w2.tape/\w6.output=w2.output)
  (X:∃w5:aw,w5.ownsMap prog 386 gO mb N D) (U:Go.Maps.size D=((m.get n).map λv=>kr t (fS v)).length) (K:∀(k:LV) kl,Go.keyOf prog 386 (kV k)=some kl->∀z,D.atKey kl z=SJ (j7 ((m.get n).map λv=>kr t (fS v)) ps k) z)
  (Q:w6.ownsMap prog 386 gO mb (N+1) (D.put kl (oM (some eb)))) (hkl:Go.keyOf prog 386 (kV (kr t (fS (mV em))))=some kl)
  (P:A mb\/w2.heap.size<=mb) (M:¬C mb) (s:∀b,C b->A b) (r:∀b,E b->¬Z1 b) (F:¬E mb) (hEl:∀b,E b->b<w6.heap.size) (hml:mb<w6.heap.size) (j:∀v∈m.get n,Fi t (fS v)) (L:Fi t (fS (mV em)))
  (d:(m.get n).Pairwise (λa b=>lI (kr t (fS a)) (kr t (fS b)))) (y:j0 (λp v C=>v=mV v.2.2/\eQ S k none w2 C p v.2.2) C ps (m.get n)) (he:eQ S k none w6 E eb em) (hok:oO S T n (.ents t)) (Y:(m.get n).length<2199023255000):
  fP w2 (λb=>Z1 b\/E b) w6 (λb=>Z1 b\/(A b\/b=mb\/E b))/\eQ S (k+1) T w6 (λb=>Z1 b\/(A b\/b=mb\/E b)) db (m.put n (jX t (m.get n) (mV em))):=by
 have⟨O,mid,V,e1,e,VO,VT,VU⟩:=vE L j d;rw[e];rw[e1]at j d y;obtain⟨ps1,pm,ps2,I,rfl,VV,V9,VI,G⟩:=y.part (VO.imp id λ⟨x,q,_⟩=>⟨x,q⟩);have Y:=(h.y.c.row.lt g h.own).2;have y:=h.y.c.blk.lt;have J:mb<w2.heap.size->A mb:=λq=>P.resolve_right Vv
 have VY:mb≠g:=λe=>h.y.ys g h.own (.inl (e▸J (e▸Y)))
 have VZ:mb≠db:=λe=>h.y.yd (.inl (e▸J (e▸y)))
 have VS:=h.y.zs g h.own;have W:∀b,b<w2.heap.size->b≠g->¬E b->b≠mb->w6.heap[b]?=w2.heap[b]?:=λb f o w l=>(i b (aI f u) w l).J (h3 b f o)
 have V0:∀b,I b->w6.heap[b]?=w2.heap[b]?:=λb f=>by
  have l:=s b (G b f);exact W b (h.y.yl b (.inl l)) (λe=>h.y.ys g h.own (.inl (e▸l))) (λq=>r b q (h.y.yz b (.inl l))) (λe=>M (e▸G b f))
 have V7:=Z.O (w':=w6) (i db (aI y u) (λq=>r db q h.y.zd) (λe=>VZ e.sy)) (λb f=>by
  obtain rfl:g=b:=by simpa [Value.ownBlock]using f
  exact i g (aI Y u) (λq=>r g q VS) (λe=>VY e.sy))
 have y:∀v∈O++mV em::V,Fi t (fS v):=λv l=>by
  simp only[aW,aR]at l;rcases l with l|rfl|l;.exact j v (by simp[l])
  .exact L
  .exact j v (by simp[l])
 have j:(O++mV em::V).Pairwise (λa b=>lI (kr t (fS a)) (kr t (fS b))):=by
  rw[cl]at d;have L:=(cl.1 d.2.1).2.1;rw[cl,bu];refine⟨d.1,⟨VU,L⟩,λa i b f=> ?_⟩;rcases aR.1 f with rfl|f;.exact VT a i
  .exact d.2.2 a i b (by simp[f])
 obtain⟨w5,X⟩:=X;rw[e1,bI,bI]at U K
 have i:j8 w6 mb ((O++mV em::V).map λv=>kr t (fS v)) (ps1++eb::ps2):=by
  rw[bI,bC];refine j8.put (km:=mid.map λv=>kr t (fS v)) (pm:=pm) ?_ (by rw[bO];exact VV.sy) ?_ ?_ X U K hkl Q
  .rcases V9 with⟨rfl,rfl⟩|⟨x,p,rfl,rfl⟩;.exact .inl ⟨rfl,rfl⟩
   .have⟨x',o,w⟩:=VO.resolve_left Vw;cases o;exact .inr ⟨_,p,rfl,rfl,w⟩
  .intro q d;obtain⟨v,l,rfl⟩:=aS.1 d;exact lP (VT v l)
  .intro q d;obtain⟨v,l,rfl⟩:=aS.1 d;exact λe=>lP (VU v l) e.sy
 refine⟨⟨H.1,H.2.1,H.2.2,aM u R,λb f q=>W b f (λe=>q (.inl (e▸VS))) (λe=>q (.inr e)) (λe=>q (.inl (e▸h.y.yz mb (.inl (J (e▸f)))))),?_⟩,?_⟩
 .rintro b (q|q|rfl|q);.exact .inl (.inl q)
  .exact .inl (.inl (h.y.yz b (.inl q)))
  .exact P.imp (λq=> .inl (h.y.yz _ (.inl q))) id
  .exact .inl (.inr q)
 .refine eQ.V (Z:=λb=>Z1 b\/(b=mb\/I b\/E b)) (h.close (w2:=w6) (x':=(n,ai,ai,.map (some mb))) (vs:=O++mV em::V) (A':=λb=>b=mb\/I b\/E b) ?_ ⟨rfl,.inr (.inr ⟨t,hok,mb,ps1++eb::ps2,λb=>I b\/E b,?_⟩)⟩ Vw ?_ ?_ ?_) ?_;.exact V7
  .refine⟨Vw,rfl,rfl,rfl,i,λb q=> .inr q,.inl rfl,λq=>q.elim (λq=>M (G mb q)) F,y,j,?_,?_⟩;.exact j0.join (A:=E) (B:=I) VV.sy ⟨rfl,he⟩ (VI.imp λp v F _ _ i d=>⟨d.1,d.2.O λb f _=>V0 b (i b f)⟩) (λb q=> .inr q) (λb q=> .inl q) (λb o w=>r b o (h.y.yz b (.inl (s b (G b w)))))
   .have o:=dV List.length e1;have w:=VI.len;simp only[aN,bw]at o w⊢;omega
  .rintro b (rfl|q|q) d i;.exact J i
   .exact s b (G b q)
   .exact absurd d (r b q)
  .rintro b (rfl|q|q);.exact hml
   .exact aI (h.y.yl b (.inl (s b (G b q)))) (aM u R)
   .exact hEl b q
  .exact λb d f o w=>W b f o (λq=>r b q d) (λe=>w (e▸J (e▸f)))
  .rintro b (q|rfl|q|q);.exact .inl q
   .exact .inr (.inr (.inl rfl))
   .exact .inr (.inl (s b (G b q)))
   .exact .inr (.inr (.inr q))
end
end
end Go.Proofs.YtfebdimolnobaaaGreatDoor
