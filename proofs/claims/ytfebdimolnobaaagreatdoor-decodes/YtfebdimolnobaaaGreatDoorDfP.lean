import Derived.Test.YtfebdimolnobaaaGreatDoorPxA
import Derived.Test.YtfebdimolnobaaaGreatDoorMdV
import Derived.Test.YtfebdimolnobaaaGreatDoorDfM
set_option maxRecDepth 100000
set_option maxHeartbeats 8000000
set_option linter.all false
namespace Go.Proofs.YtfebdimolnobaaaGreatDoor
open Go.RowKit Go.Proofs.Tryz
section
open Tq
def M9 (n:Nat)(h:n<2^64):n^^^9223372036854775808=(n+9223372036854775808)%2^64:=by
 have e:(9223372036854775808:Nat)=2^63:=Th
 have key:∀r,r<2^63->r^^^2^63=2^63+r:=λr a=>by
  apply Nat.eq_of_testBit_eq;intro i;rw[Nat.testBit_xor,Nat.testBit_two_pow];by_cases h1:i<63;.rw[Nat.testBit_two_pow_add_gt h1];have:decide (63=i)=false:=Tg;simp[this]
  .by_cases h2:i=63;.subst h2;rw[Nat.testBit_two_pow_add_eq];simp
   .have d:2^64<=2^i:=cW Te Te;have b:r.testBit i=false:=Nat.testBit_lt_two_pow Te;have c:(2^63+r).testBit i=false:=Nat.testBit_lt_two_pow Te;rw[b,c];simp;omega
 rw[e];by_cases hn:n<2^63;.rw[key n hn,dp Te];omega
 .obtain⟨r,rfl⟩:∃r,n=2^63+r:=⟨n-2^63,Te⟩;have a:r<2^63:=Te;rw[<-key r a,Nat.xor_assoc,Nat.xor_self,Nat.xor_zero,key r a];omega
def AY {n:Int}(b:0<=n)(h1:n<2^64):bits .xor .u64 n 9223372036854775808=(n+9223372036854775808)%2^64:=by
 obtain⟨a,rfl⟩:=bS b;have c:(BitVec.ofInt 64 (a:Int)).toNat=a:=(by rw[BitVec.ofInt_natCast,BitVec.toNat_ofNat];exact dp Te);show IntKind.u64.wrap (((BitVec.ofInt 64 (a:Int))^^^(BitVec.ofInt 64 9223372036854775808)).toNat:Int)=_;rw[BitVec.toNat_xor,c,show(BitVec.ofInt 64 9223372036854775808).toNat=9223372036854775808 from by decide,M9 a Te];rw[gL Te Te];omega
def RE (sg:Bool)(v:LV):LV:=(if sg then(v.1+9223372036854775808)%2^64 else v.1,v.2)
def Na (w:aw)(v:LV)(sg:Bool)(c:0<=v.1)(h1:v.1<2^64):
  Calls prog 267 #[vR v,.bool sg] w λe w'=>e= .returned (kV (RE sg v))/\aj w w':=by
 have d:=AY c h1;have a:=dP.new w #[.int .u64 v.1,ae v.2,ah,S8] 55;have b:=a.alloc (ak #[.int .u64 0,S8] 386);have⟨f,g⟩:=b.I;unfold vR kV RE
 cases sg with
 |true=>
  rw[dH rfl];go_in
  go_wp2;refine dJ (dW results267 _ _ rfl (dP.new1 w _ _ _) underlying386 Tj) rfl ?_
  exact⟨rfl,((Below.refl _ _).alloc (aD _) _).alloc Tf _⟩
 |false=>
  rw[dG Tf];go_in
  go_wp2;refine dJ (dW results267 _ _ rfl (dP.new1 w _ _ _) underlying386 Tj) rfl ?_;exact⟨rfl,((Below.refl _ _).alloc (aD _) _).alloc Tf _⟩
def i8.filled {S:eE}{R:Oy}{w:aw}{T:Option MT}:∀{l:List gw} {fs:List PF} {Y:ax},i8 (gO S R w T) Y l fs->∀f∈fs,f.2≠ []
 | [],[],_,_=>Tf
 |_::_,g::_,_,⟨_,_,h1,h2,_⟩=>λf a=>by
  rcases aR.1 a with rfl|a
  .rcases h1.2 with⟨_,lv,h⟩|⟨_,ps,B,h⟩|⟨t,_,b,ps,B,h⟩;.rw[h.pm];simpa using h.ne
   .intro e;have:=h.sub.len;rw[e]at this;exact h.ne (br this)
   .intro e;have:=h.sub.len;rw[e]at this;exact h.ne (br this)
  .exact h2.filled f a
 | [],_::_,_,h=>h.elim
 |_::_,[],_,h=>h.elim
def CQ {n:Int}:∀{fs:List PF},(∀f∈fs,f.2≠ [])->(∃f∈fs,f.1=n)->io fs n≠ []
 | [],_,⟨_,h,_⟩=>by simp at h
 |x::l,h,⟨f,a,e⟩=>by
  rw[io];split;.exact h x Tf
  .rename_i q;rcases aR.1 a with rfl|a;.exact absurd e q
   .exact CQ (λy b=>h y (by simp[b])) ⟨f,a,e⟩
def JO {S:eE}{k:Nat}{T:Option MT}{w:aw}{Z Y:ax}{db:Nat}{m:PM}{sv uv:Value}{l:List gw}(u:MZ w Z db sv uv m.unk l Y)(p:i8 (gO S (el S k) w T) Y l m.fs){n:Int}{i:Nat}(h1:∀k x,(l.map (·.1))[k]?=some x->k<i->x<n)(t:∀k x,(l.map (·.1))[k]?=some x->i<=k->n<=x):
  ((l.map (·.1))[i]?=some n->(m.get n).isEmpty=false)/\((l.map (·.1))[i]?≠some n->(m.get n).isEmpty=true/\∀f∈m.fs,f.1≠n):=by
 have g:=p.nums;constructor
 .intro h;have c:n∈m.fs.map (·.1):=by rw[g];exact aO h
  have⟨f,a,e⟩:=aV.1 c;have:=CQ p.filled ⟨f,a,e⟩;unfold PM.get
  cases hg:io m.fs n with
  |nil=>exact absurd hg this
  |cons _ _=>rfl
 .intro h
  have d:∀f∈m.fs,f.1≠n:=λf a e=>by
   have c:n∈l.map (·.1):=by rw[<-g];exact aV.2 ⟨f,a,e⟩
   have⟨j,b⟩:=bY.1 c
   have o:i<j:=by
    by_cases q:j<i;.have:=h1 j n b q;omega
    .by_cases q2:j=i;.exact absurd (q2▸b) h
     .omega
   have r:(l.map (·.1)).Pairwise (·< ·):=cn.2 u.c.srt;have⟨s,y⟩:=bt.1 b;have v:=cj.1 r i j Te s o;have:=t i _ (aP Te) (aD _);omega
  exact⟨by unfold PM.get;rw[nD n m.fs d];rfl,d⟩
def mI (m:PM):Nat->PM
 |0=> .mk m.fs eS
 |1=>fM (.mk m.fs eS) 1
 |_=>fM (fM (.mk m.fs eS) 1) 2
def Hr (m:PM):mI m 2=fY m:=by
 have c:∀(fs:List PF) (u d:au) (n:Int),(fM (.mk fs u) n).fs=(fM (.mk fs d) n).fs/\(fM (.mk fs u) n).unk=u:=λfs u d n=>by
  unfold fM PM.get PM.put;cases h:(io fs n).isEmpty<;>simp[PM.fs,PM.unk,h]
 have a:∀m:PM,m= .mk m.fs m.unk:=λm=>by cases m;rfl
 unfold fY;show fM (fM (.mk m.fs eS) 1) 2=_;rw[a (fM (fM (.mk m.fs eS) 1) 2)];have b:=c m.fs eS m.unk 1;rw[<-a m]at b;rw[a (fM (.mk m.fs eS) 1),b.2,b.1];rw[(c (fM m 1).fs eS (fM m 1).unk 2).1,<-a (fM m 1),(c (fM m 1).fs eS eS 2).2]
def CR (S:eE)(k:Nat)(T:Option MT)(w:aw)(Z:ax)(db:Nat)(m:PM)(h:el S (k+1) T w Z db m)(f:ot S T 1 .vals)(g:ot S T 2 .vals)(j:m.fs.length<1073741822)(i:∀b,Z b->b<w.heap.size):
  Calls prog 265 #[ag db] w (jN S k T w Z db (fY m)):=by
 obtain⟨sv,uv,l,Y,a,R⟩:=h;have⟨c,d⟩:=a.c.blk.I;have c:=a.c.blk.lt
 have d:el S (k+1) T (w.setCell (ai db 1) (ah)) Z db (mI m 0):=by
  have N:∀b,b≠db->(w.setCell (ai db 1) (ah)).heap[b]?=w.heap[b]?:=λb q=>by rw[dM,dG (λe=>q e.sy)]
  refine⟨sv,ah,l,Y,⟨⟨⟨a.c.blk.set 1 _,dR a.c.row (λb e=>N b (λq=>a.c.ne (q▸e))),a.c.form,a.c.srt,a.c.ne,a.c.len⟩,aX _ _ _ _,a.zd,a.zs,(λb e=>by cases e),(λb _ e=>by cases e),(λe=>by cases e)⟩,a.yz,λb q=>by simpa using a.yl b q,a.yd,a.ys,(λb e=>by cases e)⟩,?_⟩;exact mF R λb q _=>N b (λe=>a.yd (e▸q))
 have U:et w Z (w.setCell (ai db 1) (ah)) Z:=⟨rfl,rfl,rfl,Tf,λb _ q=>by rw[dM,dG (λe:db=b=>q (by rw[<-e];exact a.zd))],λb q=> .inl q⟩;have E:=dP.new (w.setCell (ai db 1) (ah)) #[aa 1,aa 2] 3;have D:Below _ (w.setCell (ai db 1) (ah)) ((w.setCell (ai db 1) (ah)).alloc (ak #[aa 1,aa 2] 3)):=(Below.refl _ _).alloc (aD _) _;have o:(w.setCell (ai db 1) (ah)).heap.size=w.heap.size:=Tf;have V:(mI m 0).fs.length<1073741822:=j;clear a R
 have v:∀(m:PM) (n:Int),(fM m n).fs.length<=m.fs.length+1:=λm n=>by
  unfold fM;split;.exact PM.put_len m n _
  .omega
 have hlen:∀j,(mI m j).fs.length<1073741824:=λj=>by
  match j with
  |0=>have:=V;omega
  |1=>have:=v (mI m 0) 1;show(fM (mI m 0) 1).fs.length<_;omega
  |_+2=>
   have a:=v (mI m 0) 1;have a:=v (fM (mI m 0) 1) 2;show(fM (fM (mI m 0) 1) 2).fs.length<_;omega
 have F:∀j,j<2->mI m (j+1)=fM (mI m j) ((j:Int)+1):=λj Q=>by
  match j with
  |0=>rfl
  |1=>rfl
 have G:Hid (∀j,j<2->mI m (j+1)=fM (mI m j) ((j:Int)+1)):=F;clear F
 have l:∀j:Nat,j<2->ot S T ((j:Int)+1) .vals:=λj Q=>by
  match j with
  |0=>exact f
  |1=>exact g
 go_in
 rw[o]at E;clear o;go_wp2;go_loopw [11] (λB wr=>∃j:Nat,j<=2/\B=aa j/\∃c,et w Z wr c/\el S (k+1) T wr c db (mI m j)/\dP wr w.heap.size #[aa 1,aa 2] 3/\¬c w.heap.size) (λB _=>(2-intOf B).toNat)
 case atStart=>exact⟨0,Te,rfl,Z,U.G D,d.O (λb _ q=>D.block b q),E,λq=>by have:=i _ q;omega⟩
 case round=>
  obtain⟨j,Q,rfl,c,C,s,y,z⟩:=hrel;by_cases Ts:j<2
  .have P:wr.cell? (ai w.heap.size j)=some (aa ((j:Int)+1)):=by
    rw[y.cell]
    match j,Ts with
    |0,_=>rfl
    |1,_=>rfl
   have a:(j:Int)<2:=Te;obtain⟨J,K,p,a,A,L⟩:=s;have s:el S (k+1) T wr c db (mI m j):=⟨J,K,p,a,A,L⟩;have a:=FX wr db J K p ((j:Int)+1) A.c;go_wp2_with fail;refine a.V ?_;rintro e w1 ⟨⟨i,rfl,f,a,d⟩,r⟩;have t:=JO A L a d;have H:=s.O (λb _ q=>r.block b q);have x:=y.G r y.lt;by_cases hfd:(p.map (·.1))[i]?=some ((j:Int)+1)
   .have a:decide ((p.map (·.1))[i]?=some ((j:Int)+1))=true:=decide_eq_true hfd;have u:Hid (mI m (j+1)=mI m j):=(by show mI m (j+1)=mI m j;rw[G.o j Ts,fM,t.1 hfd];rfl);clear hfd t P;go_wp2;go_roundw
    case rel=>exact⟨j+1,Te,by go_num,c,C.G r,by rw[u.o];exact H,x,z⟩
    case measure=>simp[intOf];omega
   .have a:decide ((p.map (·.1))[i]?=some ((j:Int)+1))=false:=decide_eq_false hfd;have⟨M,a⟩:=t.2 hfd;have u:Hid (mI m (j+1)=(mI m j).put ((j:Int)+1) [qF (0,⟨#[]⟩)]):=(by show mI m (j+1)=_;rw[G.o j Ts,fM,M];rfl);have I:=AT S k T w1 c db (mI m j) ((j:Int)+1) (0,⟨#[]⟩) H (l j Ts) (.inr a) (hlen j);unfold vR at I;clear hfd t P M;go_wp2_with fail;refine I.V ?_;rintro e w2 ⟨rfl,O,d,a⟩;have W:=x.step d z;have X:¬O w.heap.size:=d.not x.lt z;go_wp2;go_roundw
    case rel=>exact⟨j+1,Te,by go_num,O,(C.G r).J d,by rw[u.o];exact a,W,X⟩
    case measure=>simp[intOf];omega
  .obtain rfl:j=2:=Te;go_wp2;go_end0;rw[<-Hr];exact⟨rfl,c,C,s⟩
section
variable {S:eE} {k db g:Nat} {T:Option MT} {w1:aw} {Z1 C:ax} {m:PM} {n:Int} {pre post:List gw} {x:gw} {uv:Value} {t:au} {β:Type} {ps:aB}
def p8 (t:au):MT:=⟨eS,[⟨oe,t,eS,nK,1⟩]⟩
theorem vX.shut {sv:Value}{A B:ax}{fp fq:List PF}
  (h:vX S k T w1 Z1 db m n g pre x post sv uv A B fp fq) (c:m.get n≠ []):el S (k+1) T w1 Z1 db m:=by
 rcases h.was with⟨i,e,d⟩|⟨e,_⟩;.obtain⟨fs,u⟩:=m;simp only[PM.fs]at e;subst e;exact⟨sv,uv,pre++x::post,λb=>A b\/B b,h.y,i8.join h.len d h.sep (λb q=> .inl q) (λb q=> .inr q) h.dis⟩
 .refine absurd ?_ c;unfold PM.get;rw[e];refine nD n _ λf a=> ?_
  rcases aQ.1 a with a|a;.have:=h.lo f a;omega
  .have:=h.hi f a;omega
theorem vX.ofEnts {sv:Value}{A B:ax}{fp fq:List PF}
  (h:vX S k T w1 Z1 db m n g pre x post sv uv A B fp fq) (d:∀kd,ot S T n kd->kd= .ents t):
  (x.2.1=ah/\x.2.2.1=ah)/\((x.2.2.2= .map none/\m.get n= []/\∀b,¬A b)\/∃mb ps D,x.2.2.2= .map (some mb)/\ju w1 mb ((m.get n).map λv=>lC t (fJ v)) ps/\(∀b,D b->A b)/\A mb/\¬D mb/\(∀v∈m.get n,D7 t (fJ v))/\
   (m.get n).Pairwise (λa b=>oK (lC t (fJ a)) (lC t (fJ b)))/\i8 (λp v C=>v=mV v.2.2/\el S k none w1 C p v.2.2) D ps (m.get n)):=by
 rcases h.was with⟨j,e,s⟩|⟨e,rfl,r⟩
 .obtain⟨u,l⟩:=s;have o:m.get n=j:=(by unfold PM.get;rw[e];exact qG n j fq fp h.lo);rw[h.xn]at l;rcases l with⟨q,_⟩|⟨q,_⟩|⟨w,q,mb,ps,B,c⟩;.exact absurd (d _ q) Tf
  .exact absurd (d _ q) Tf
  .have:=d _ q;simp only[Kd.ents.injEq]at this;subst this;rw[o];exact⟨⟨c.c1,c.c2⟩,.inr ⟨mb,ps,B,c.c3,c.map,c.inA,c.inM,c.own,c.key,c.srt,c.sub⟩⟩
 .refine⟨⟨rfl,rfl⟩,.inl ⟨rfl,?_,r⟩⟩;unfold PM.get;rw[e];refine nD n _ λf i=> ?_
  rcases aQ.1 i with i|i;.have:=h.lo f i;omega
  .have:=h.hi f i;omega
theorem i8.splitR {α:Type}{P:α->β->(ax)->Prop}{l:List α}{rp:List β}{y:β}{rq:List β}{Y:ax}(h:i8 P Y l (rp++y::rq)):
  ∃pre x post,l=pre++x::post/\pre.length=rp.length/\∃A B:ax,P x y A/\i8 P B (pre++post) (rp++rq)/\(∀b,A b->Y b)/\(∀b,B b->Y b)/\∀b,A b->¬B b:=by
 have f:=h.len;simp only[bf,bF]at f;have c:rp.length<l.length:=Te
 obtain⟨pre,x,post,rfl,i⟩:∃pre x post,l=pre++x::post/\pre.length=rp.length:=
  ⟨l.take rp.length,l[rp.length],l.drop (rp.length+1),by rw[<-aS c,b8],by rw[bG];omega⟩
 have⟨j,m,k,e,g,A,B,q⟩:=h.split;have⟨d,a⟩:=List.append_inj e Te;simp only[List.cons.injEq]at a;obtain⟨rfl,rfl⟩:=a;subst d;exact⟨pre,x,post,rfl,i,A,B,q⟩
theorem i8.part {P:Nat->β->(ax)->Prop}{l1 mid l2:List β}(h:i8 P C ps (l1++(mid++l2)))(hm:mid= []\/∃x,mid= [x]):
  ∃ps1 pm ps2,∃C0:ax,ps=ps1++(pm++ps2)/\ps1.length=l1.length/\((mid= []/\pm= [])\/∃x p,mid= [x]/\pm= [p])/\i8 P C0 (ps1++ps2) (l1++l2)/\∀b,C0 b->C b:=by
 rcases hm with rfl|⟨x,rfl⟩;.have d:=h.len;simp only[be,bf]at d h;exact⟨ps.take l1.length,[],ps.drop l1.length,C,by rw[be,b8],by rw[bG];omega,.inl ⟨rfl,rfl⟩,by rw[b8];exact h,λ_ q=>q⟩
 .obtain⟨pre,p,post,rfl,e,A,B,_,a,_,c,_⟩:=i8.splitR (y:=x) (rq:=l2) h;exact⟨pre,[p],post,B,rfl,e,.inr ⟨x,p,rfl,rfl⟩,a,c⟩
theorem vX.ents {w2:aw}{c:Nat}{A B:ax}{fp fq:List PF}
  (h:vX S k T w2 Z1 db m n g pre x post (.slice (some (ai g 0)) (pre++x::post).length c) uv A B fp fq) {w3 w6:aw} {mb eb N:Nat} {E:ax} {em:PM} {D:DataW Unit} {kl:Lit}
  (Z:CO w3 db (.slice (some (ai g 0)) (pre++x::post).length c) uv (pre++(n,ah,ah,.map (some mb))::post)) (Y:∀b,b<w2.heap.size->b≠g->w3.heap[b]?=w2.heap[b]?) (u:w2.heap.size<=w3.heap.size)
  (i:∀b,b<w3.heap.size->¬E b->b≠mb->w6.heap[b]?=w3.heap[b]?) (R:w3.heap.size<=w6.heap.size) (H:w6.os=w2.os/\w6.tape=w2.tape/\w6.output=w2.output)
  (W:∃w5:aw,w5.ownsMap prog 386 gG mb N D) (U:Go.Maps.size D=((m.get n).map λv=>lC t (fJ v)).length) (K:∀(k:LV) kl,Go.keyOf prog 386 (kV k)=some kl->∀z,D.atKey kl z=QS (jt ((m.get n).map λv=>lC t (fJ v)) ps k) z)
  (Q:w6.ownsMap prog 386 gG mb (N+1) (D.put kl (oh (some eb)))) (hkl:Go.keyOf prog 386 (kV (lC t (fJ (mV em))))=some kl)
  (P:A mb\/w2.heap.size<=mb) (M:¬C mb) (s:∀b,C b->A b) (r:∀b,E b->¬Z1 b) (F:¬E mb) (hEl:∀b,E b->b<w6.heap.size) (hml:mb<w6.heap.size) (j:∀v∈m.get n,D7 t (fJ v)) (L:D7 t (fJ (mV em)))
  (d:(m.get n).Pairwise (λa b=>oK (lC t (fJ a)) (lC t (fJ b)))) (y:i8 (λp v C=>v=mV v.2.2/\el S k none w2 C p v.2.2) C ps (m.get n)) (he:el S k none w6 E eb em) (hok:ot S T n (.ents t)) (X:(m.get n).length<1073741824):
  et w2 (λb=>Z1 b\/E b) w6 (λb=>Z1 b\/(A b\/b=mb\/E b))/\el S (k+1) T w6 (λb=>Z1 b\/(A b\/b=mb\/E b)) db (m.put n (iF t (m.get n) (mV em))):=by
 have⟨l1,mid,l2,V,e,Tx,TC,TD⟩:=uH L j d;rw[e];rw[V]at j d y;obtain⟨ps1,pm,ps2,I,rfl,TE,TM,Tr,G⟩:=y.part (Tx.imp id λ⟨x,q,_⟩=>⟨x,q⟩);have X:=(h.y.c.row.lt g h.own).2;have l:=h.y.c.blk.lt;have J:mb<w2.heap.size->A mb:=λq=>P.resolve_right Te
 have TH:mb≠g:=λe=>h.y.ys g h.own (.inl (e▸J (e▸X)))
 have TI:mb≠db:=λe=>h.y.yd (.inl (e▸J (e▸l)))
 have y:=h.y.zs g h.own;have O:∀b,b<w2.heap.size->b≠g->¬E b->b≠mb->w6.heap[b]?=w2.heap[b]?:=λb f o w q3=>(i b (aI f u) w q3).J (Y b f o)
 have TJ:∀b,I b->w6.heap[b]?=w2.heap[b]?:=λb f=>by
  have Y:=s b (G b f);exact O b (h.y.yl b (.inl Y)) (λe=>h.y.ys g h.own (.inl (e▸Y))) (λq=>r b q (h.y.yz b (.inl Y))) (λe=>M (e▸G b f))
 have Y:=Z.O (w':=w6) (i db (aI l u) (λq=>r db q h.y.zd) (λe=>TI e.sy)) (λb f=>by
  obtain rfl:g=b:=by simpa [Value.ownBlock]using f
  exact i g (aI X u) (λq=>r g q y) (λe=>TH e.sy))
 have X:∀v∈l1++mV em::l2,D7 t (fJ v):=λv l=>by
  simp only[aQ,aR]at l;rcases l with l|rfl|l;.exact j v (by simp[l])
  .exact L
  .exact j v (by simp[l])
 have j:(l1++mV em::l2).Pairwise (λa b=>oK (lC t (fJ a)) (lC t (fJ b))):=by
  rw[cB]at d;have L:=(cB.1 d.2.1).2.1;rw[cB,bU];refine⟨d.1,⟨TD,L⟩,λa i b f=> ?_⟩;rcases aR.1 f with rfl|f;.exact TC a i
  .exact d.2.2 a i b (by simp[f])
 obtain⟨w5,W⟩:=W;rw[V,bM,bM]at U K
 have i:ju w6 mb ((l1++mV em::l2).map λv=>lC t (fJ v)) (ps1++eb::ps2):=by
  rw[bM,cu];refine ju.put (km:=mid.map λv=>lC t (fJ v)) (pm:=pm) ?_ (by rw[bm];exact TE.sy) ?_ ?_ W U K hkl Q
  .rcases TM with⟨rfl,rfl⟩|⟨x,p,rfl,rfl⟩;.exact .inl ⟨rfl,rfl⟩
   .have⟨x',o,w⟩:=Tx.resolve_left Tf;cases o;exact .inr ⟨_,p,rfl,rfl,w⟩
  .intro q d;obtain⟨v,l,rfl⟩:=aV.1 d;exact mf (TC v l)
  .intro q d;obtain⟨v,l,rfl⟩:=aV.1 d;exact λe=>mf (TD v l) e.sy
 refine⟨⟨H.1,H.2.1,H.2.2,aL u R,λb f q=>O b f (λe=>q (.inl (e▸y))) (λe=>q (.inr e)) (λe=>q (.inl (e▸h.y.yz mb (.inl (J (e▸f)))))),?_⟩,?_⟩
 .rintro b (q|q|rfl|q);.exact .inl (.inl q)
  .exact .inl (.inl (h.y.yz b (.inl q)))
  .exact P.imp (λq=> .inl (h.y.yz _ (.inl q))) id
  .exact .inl (.inr q)
 .refine el.V (Z:=λb=>Z1 b\/(b=mb\/I b\/E b)) (h.close (w2:=w6) (x':=(n,ah,ah,.map (some mb))) (vs:=l1++mV em::l2) (A':=λb=>b=mb\/I b\/E b) ?_ ⟨rfl,.inr (.inr ⟨t,hok,mb,ps1++eb::ps2,λb=>I b\/E b,?_⟩)⟩ Tf ?_ ?_ ?_) ?_;.exact Y
  .refine⟨Tf,rfl,rfl,rfl,i,λb q=> .inr q,.inl rfl,λq=>q.elim (λq=>M (G mb q)) F,X,j,?_,?_⟩;.exact i8.join (A:=E) (B:=I) TE.sy ⟨rfl,he⟩ (Tr.imp λp v F _ _ i d=>⟨d.1,d.2.O λb f _=>TJ b (i b f)⟩) (λb q=> .inr q) (λb q=> .inl q) (λb o w=>r b o (h.y.yz b (.inl (s b (G b w)))))
   .have o:=dK List.length V;have w:=Tr.len;simp only[bf,bF]at o w⊢;omega
  .rintro b (rfl|q|q) d i;.exact J i
   .exact s b (G b q)
   .exact absurd d (r b q)
  .rintro b (rfl|q|q);.exact hml
   .exact aI (h.y.yl b (.inl (s b (G b q)))) (aL u R)
   .exact hEl b q
  .exact λb d f o w=>O b f o (λq=>r b q d) (λe=>w (e▸J (e▸f)))
  .rintro b (q|rfl|q|q);.exact .inl q
   .exact .inr (.inr (.inl rfl))
   .exact .inr (.inl (s b (G b q)))
   .exact .inr (.inr (.inr q))
end
def et.clip {w w':aw}{Z Z':ax}(h:et w Z w' Z'):et w Z w' (λb=>Z' b/\b<w'.heap.size):=⟨h.os,h.tape,h.output,h.size,h.block,λb q=>h.grow b q.1⟩
def et.less {a b:aw}{S S' T:ax}(h:et a S b T)(c:∀x,S x->S' x\/a.heap.size<=x):et a S' b T:=
 ⟨h.os,h.tape,h.output,h.size,λi d q=>h.block i d (λe=>(c i e).elim q (λe=>Te)),λi q=>(h.grow i q).elim (c i) .inr⟩
def rU {t:au}{n:Int}{f:fB}(h:ei (p8 t).fs n=some f):n=1/\f=⟨oe,t,eS,nK,1⟩:=by
 unfold p8 at h;simp only[ei]at h;grind
def el.toKey {S:eE}{f:fB}{k:Nat}{w:aw}{Z:ax}{db:Nat}{m:PM}(h:el S k (some (eX f)) w Z db m):el S k (some (p8 f.key)) w Z db m:=by
 cases k with
 |zero=>exact h
 |succ k=>
  obtain⟨sv,uv,l,Y,s,r⟩:=h;refine⟨sv,uv,l,Y,s,r.imp λx g A _ _ _ h=>⟨h.1,?_⟩⟩
  have i:∀n a,ei (p8 f.key).fs n=some a->ei (eX f).fs n=some a:=λn a q=>by
   obtain⟨rfl,rfl⟩:=rU q;rfl
  have o:∀n e,ot S (some (eX f)) n e->ot S (some (p8 f.key)) n e:=λn e q d a b c=>by
   cases b;exact q (eX f) a rfl (i n a c)
  rcases h.2 with⟨q,lv,h⟩|⟨q,ps,B,h⟩|⟨t,q,u,ps,B,h⟩;.grind
  .refine .inr (.inl ⟨o _ _ q,ps,B,{h with lone:=(λ⟨d,a,b,c,j⟩=>by cases b;exact h.lone ⟨_,a,rfl,i _ _ c,j⟩),sub:=h.sub.imp λp v C _ _ _ q=>⟨q.1,?_⟩}⟩)
   cases hff:ei (p8 f.key).fs x.1 with
   |none=>
    have:nR S (some (p8 f.key)) x.1=none:=by unfold nR;grind
    rw[this]
    exact q.2.forget
   |some a=>
    have:nR S (some (p8 f.key)) x.1=nR S (some (eX f)) x.1:=by unfold nR;grind
    grind
  grind
structure JP (S:eE)(k:Nat)(t:au)(m:PM)(n:Int)(w2 w3:aw)(db g c N:Nat)(uv:Value)(pre post:List gw)(A:ax)(mb:Nat)(ps:aB)(C:ax):Prop where
 dc:CO w3 db (Ta g N c) uv (pre++(n,ah,ah,.map (some mb))::post)
 k3:∀b,b<w2.heap.size->b≠g->w3.heap[b]?=w2.heap[b]?
 s3:w2.heap.size<=w3.heap.size
 os:w3.os=w2.os/\w3.tape=w2.tape/\w3.output=w2.output
 map:ju w3 mb ((m.get n).map λv=>lC t (fJ v)) ps
 hm:A mb\/w2.heap.size<=mb
 mC:¬C mb
 CA:∀b,C b->A b
 key:∀v∈m.get n,D7 t (fJ v)
 srt:(m.get n).Pairwise (λa b=>oK (lC t (fJ a)) (lC t (fJ b)))
 sub:i8 (λp v C=>v=mV v.2.2/\el S k none w2 C p v.2.2) C ps (m.get n)
 c3:w3.cell? (ai g (pre.length*4+3))=some (.map (some mb))
def uI (S:eE)(k:Nat)(T:Option MT)(w:aw)(Z E:ax)(db eb:Nat)(m em:PM)(n:Int)(t:au)(sg:Bool)(h:el S (k+1+1) T w Z db m)(v:el S (k+1) (some (p8 t)) w E eb em)(c:S.msg t=none)(r:∀b,E b->¬Z b)(a:∀b,Z b->b<w.heap.size)(p:∀b,E b->b<w.heap.size)
  (hok:ot S T n (.ents t)) (j:∀kd,ot S T n kd->kd= .ents t) (i:sg=eC jD t) (F:D7 t (fJ (mV (fY em)))) (R:(fY em).get 1≠ []) (M:m.fs.length<1073741824) (hgl:(m.get n).length<1073741824) (g:em.fs.length<1073741822):
  Calls prog 187 #[ag db,aa n,.bool sg,ag eb] w λe w'=>e= .returned (.tuple #[])/\∃Z',et w (λb=>Z b\/E b) w' Z'/\el S (k+1+1) T w' Z' db (m.put n (iF t (m.get n) (mV (fY em)))):=by
 have s:pt S ⟨oe,t,eS,nK,1⟩= .vals:=(by unfold pt fB.isMap fS;have a:gP nK AC=false:=AP;simp[a,fB.isMap,c])
 have l:ot S (some (p8 t)) 1 .vals:=λd f a c=>by
  cases a;obtain⟨_,rfl⟩:=rU c;grind
 have o:ot S (some (p8 t)) 2 .vals:=λd f a c=>by
  cases a;have:=(rU c).1;omega
 have Uk:∀kd,ot S (some (p8 t)) 1 kd->kd= .vals:=λkd q=>by rw[q (p8 t) ⟨oe,t,eS,nK,1⟩ rfl rfl,s]
 subst i;have c:=CR S k (some (p8 t)) w E eb em v l o g p
 have H:(fY em).fs.length<1073741824:=by
  have e:(fY em).fs=(fM (fM em 1) 2).fs:=rfl
  have a:∀(m:PM) (n:Int),(fM m n).fs.length<=m.fs.length+1:=λm n=>by
   unfold fM;split;.exact PM.put_len m n _
   .omega
  grind
 obtain⟨I,d⟩:=Td (fY em);rw[d]at c F R H⊢;clear d;go_in
 go_wp2_with fail;refine c.V ?_;rintro e w1 ⟨rfl,g,d,f⟩;obtain⟨i,s,o,y⟩:∃i,et w E w1 i/\el S (k+1) (some (p8 t)) w1 i eb I/\∀b,i b->b<w1.heap.size:=⟨_,d.clip,f.clip,λb q=>q.2⟩;clear d f c;have C:∀b,i b->¬Z b:=λb d f=>(s.grow b d).elim (λq=>r b q f) (λq=>by grind)
 have a:el S (k+1+1) T w1 Z db m:=h.O λb q M=>s.block b M (λe=>r b e q)
 obtain⟨sv,uv,l,g,c,r⟩:=a.slot (n:=n) M;have u:=tU w1 db sv uv l n g c;go_wp2_with fail;refine u.V ?_;rintro e w2 l;obtain⟨g,c,pre,x,post,A,B,G,J,rfl,O,z,D,K,L⟩:=r w1 _ w2 (Below.refl _ _) l;clear l r u h a;have a:=z.grow g (.inr rfl)
 have u:∀b,i b->¬(Z b\/b=g):=λb q=>by
  grind
 have N:el S (k+1) (some (p8 t)) w2 i eb I:=o.O λb q M=>z.block b M (C b q)
 have Un:∀b,i b->b<w2.heap.size:=λb q=>aI (y b q) z.size
 obtain⟨Y,c1,c2,X,cf⟩:=O.cells rfl;have y:=(O.y.c.row.lt g rfl).2
 have TZ:et w (λb=>Z b\/E b) w2 (λb=>(Z b\/b=g)\/i b):=
  ⟨z.os.J s.os,z.tape.J s.tape,z.output.J s.output,aL s.size z.size,λb J q=>(z.block b (aI J s.size) (λe=>q (.inl e))).J (s.block b J (λe=>q (.inr e))),λb q=>by
   rcases q with(q|rfl)|q;.grind
   .exact a.imp .inl (λe=>aL s.size e)
   .exact(s.grow b q).imp .inr id⟩
 clear v o s z p K;obtain⟨⟨l,z⟩,o⟩:=O.ofEnts j;have a:((pre++x::post).flatMap d8).length=(pre++x::post).length*4:=ow _;rcases o with⟨W,a,UE⟩|⟨r,ps,C,W,K,L,Q,V,B,D,G⟩
 focus
  rw[W]at X;have p:∃r ps C,JP S (k+1) t m n w2 ((w2.setCell (ai g (pre.length*4+3)) (.map (some w2.heap.size))).alloc (.map #[] 0)) db g c (pre++x::post).length uv pre post A r ps C/\r=w2.heap.size:=(by have o:=O.y.c.put (j:=3) Te (v:= .map (some w2.heap.size)) (x':=(x.1,ah,ah,.map (some w2.heap.size))) rfl ⟨⟨_,_,_,rfl⟩,⟨_,_,_,rfl⟩,_,rfl⟩ (by simp[d8,l,z]);rw[O.xn]at o;have U:(w2.setCell (ai g (pre.length*4+3)) (.map (some w2.heap.size))).heap.size=w2.heap.size:=Tf;have j:=o.G ((Below.refl _ _).alloc (aD _) (.map #[] 0));have o:=ju.made (w2.setCell (ai g (pre.length*4+3)) (.map (some w2.heap.size)));rw[U]at o;refine⟨_,[],λ_=>False,⟨j,λb J q=>(Below.l _ _ b Te).J (by rw[dM,dG (λe=>q e.sy)]),Tf,⟨rfl,rfl,rfl⟩,by grind,.inr (aD _),λq=>q,λ_ q=>q.elim,by grind,by rw[a];exact List.Pairwise.nil,by rw[a];trivial,?_⟩,rfl⟩;have s:(pre++(n,Value.slice none 0 0,Value.slice none 0 0,Value.map (some w2.heap.size))::post)[pre.length]?=some (n,ah,ah,.map (some w2.heap.size)):=Tf;obtain⟨P,e,_,o⟩:=rS (c:=c) (by have:=j.row;simpa using this) s;grind);have j:=run_eql_map_nil (P:=prog) w2 247 386 180 none underlying247;have Uq:= @run_makeMap prog;have Ur:∀o,(w2.alloc (.map #[] 0)).frozen? (ai g o)=false:=λo=>by rw[World.frozen?_of_block (Below.l _ _ g y)];grind
  have o:(w2.alloc (.map #[] 0)).cell? (ai g (pre.length*4+3))=some (.map none):=by rw[bz (Below.l _ _ g y)];exact X
  clear W a UE;go_upto_region 4 with fail
  generalize(w2.setCell (ai g (pre.length*4+3)) (.map (some w2.heap.size))).alloc (.map #[] 0)=w3 at*;obtain⟨r,ps,C,p,a⟩:=p;clear a Y c1 c2 X cf Uq Ur o
 rotate_left
 focus
  rw[W]at X;have p:JP S (k+1) t m n w2 w2 db g c (pre++x::post).length uv pre post A r ps C:=(by have a:x=(n,ah,ah,.map (some r)):=(by obtain⟨o,a2,a3,a4⟩:=x;have:=O.xn;simp only at this l z W;rw[this,l,z,W]);refine⟨?_,λ_ _ _=>rfl,aD _,⟨rfl,rfl,rfl⟩,K,.inl Q,V,L,B,D,G,X⟩;rw[<-a];exact O.y.c);have j:=run_eql_map_nil (P:=prog) w2 247 386 180 (some r) underlying247;clear K L Q V B D G W;go_upto_region 4 with fail
  obtain⟨w3,j⟩:∃w3,w3=w2:=⟨_,rfl⟩;rw[<-j];have a:JP S (k+1) t m n w2 w3 db g c (pre++x::post).length uv pre post A r ps C:=by grind
  clear p;have p:=a;clear a Y c1 c2 X cf j
 all_goals
  have z:el S (k+1) (some (p8 t)) w3.drew i eb I:=N.O (λb q M=>p.k3 b M (λe=>u b q (.inr e)));obtain⟨c,x,A,j,a,P⟩:=z.slot (n:=1) H;have Uu:=tU w3.drew eb c x A 1 j a;obtain⟨D,l,U,X⟩:=p.map;have C:=l.lt;have o:¬i r:=λq=>p.hm.elim (λa=>u r q (O.y.yz r (.inl a))) (λa=>by grind)
  have Uv:¬i g:=λq=>u g q (.inr rfl)
  have K:=aI y p.s3;have a:∀b,i b->b<w3.heap.size:=λb q=>aI (Un b q) p.s3
  have Uw:w3.drew.cell? (ai g (pre.length*4+3))=some (.map (some r)):=p.c3
  have Ux:Hid (∀(a:aw) (e:Ending) (w1:aw),Below w3.drew.heap.size w3.drew a->vU a eb c x A 1 e w1->∃u Y L Q lv j,e= .returned (.pointer (some (ai u (Y.length*4))))/\w1.cell? (ai u ((Y:List gw).length*4+1))=some (Ta Q (lv+1) j)/\w1.cell? (ai Q 0)=some (.int .u64 L.1)/\w1.cell? (ai Q 1)=some (ae L.2)/\w1.cell? (ai Q 2)=some (ah)/\w1.cell? (ai Q 3)=some (S8)/\
    fJ (mV I)=qF L/\el S (k+1) none w1 (λb=>i b\/b=u) eb I/\et a i w1 (λb=>i b\/b=u)):=by
   intro a e y J W;obtain⟨u,ce,Y,x',x,A',B',H,V,rfl,c,G,A,K4,B⟩:=P a e y J W;obtain⟨⟨a,x⟩,s⟩:=c.ofVals (.inl Uk);obtain⟨Q,j,lv,H,V,a,A,x⟩:=s.resolve_left (λq=>R q.2);obtain⟨a,A,s,H,W⟩:=c.cells rfl;rw[V]at A
   cases lv with
   |nil=>grind
   |cons L lv=>
    obtain⟨s,e,_,_,a⟩:=dV x Tf;cases e;refine⟨u,Y,L,Q,lv.length,j,rfl,A,a y rfl 0 _ rfl,a y rfl 1 _ rfl,a y rfl 2 _ rfl,a y rfl 3 _ rfl,?_,(c.shut R).forget,G⟩;show((I.get 1).headD PV.none)=qF L;grind
  clear P z N
  have a:yV (lC t (fJ (mV I))):=⟨by
   unfold lC;have:=F.lo;simp only
   split<;>omega,by
   unfold lC;have:=F.hi;have:=F.lo;simp only
   split<;>omega,by have:=F.sz;unfold maxLen;show(fJ (mV I)).2.1.size<=_;omega⟩
  obtain⟨c,s⟩:=Pg a;have Uy:((m.get n).map λv=>lC t (fJ v)).length<maxLen:=by rw[bm];unfold maxLen;omega
  have P:Hid (∀(y V w6:aw) (u:Nat),el S (k+1) none y (λb=>i b\/b=u) eb I->et w3.drew i y (λb=>i b\/b=u)->aj y V->w6.ownsMap prog 386 gG r (((m.get n).map λv=>lC t (fJ v)).length+1) (D.put c (oh (some eb)))->V.grownBy w6 (some r)->
    ∃Z',et w (λb=>Z b\/E b) w6 Z'/\el S (k+1+1) T w6 Z' db (m.put n (iF t (m.get n) (mV I)))):=by
   intro y V w6 u x G H a N;have B:=G.grow u (.inr rfl);have c:w3.heap.size<=y.heap.size:=G.size;have z:∀b,b=u->i b\/w3.heap.size<=b:=λb e=>by rw[e];exact B
   have Uz:r≠u:=λe=>(z r e).elim o (λq=>Te)
   have R:=x.clip
   have B:∀b,b<w3.heap.size->¬(i b\/b=u)->b≠r->w6.heap[b]?=w3.heap[b]?:=λb J d f=>
    ((N.block b (aI (aI J c) H.size) (λe=>f (by grind))).J (H.block b (aI J c))).J (G.block b J (λq=>d (.inl q)))
   have W:el S (k+1) none w6 (λb=>(i b\/b=u)/\b<y.heap.size) eb I:=R.O λb q M=>(N.block b (aI M H.size) (λe=>by
    grind)).J (H.block b M)
   have I:∀b,((i b\/b=u)/\b<y.heap.size)->¬(Z b\/b=g):=by
    rintro b ⟨q,_⟩ M;rcases q with q|q;.grind
    .rcases z b q with q|q;.grind
     .have:=TZ.size;have:=p.s3;grind
   have M:¬((i r\/r=u)/\r<y.heap.size):=λq=>q.1.elim o Uz
   obtain⟨f1,f2⟩:=O.ents (E:=λb=>(i b\/b=u)/\b<y.heap.size) (w3:=w3) (w6:=w6) p.dc p.k3 p.s3 (λb J d f=>B b J (λq=>d ⟨q,aI J c⟩) f) (aL c (aL H.size N.size)) ⟨N.os.J (H.os.J (G.os.J p.os.1)),N.tape.J (H.tape.J (G.tape.J p.os.2.1)),N.output.J (H.output.J (G.output.J p.os.2.2))⟩
    ⟨w3,l⟩ U X a s p.hm p.mC p.CA I M (λb q=>aI q.2 (aL H.size N.size)) a.lt p.key F p.srt p.sub W hok hgl
   refine⟨_,TZ.J (f1.less ?_),f2⟩;rintro b (q|⟨q|q,_⟩);.grind
   .grind
   .exact(z b q).imp .inr (λq=>aL p.s3 q)
  have f:=λL:LV=>Na (v:=L) (sg:=eC jD t)
  go_region_with
   (first
    |(go_at_call 266;refine Uu.V ?_;rintro e y d;obtain⟨u,Y,L,Q,lv,j,rfl,A,i,p,q,v,c,x,G⟩:=Ux.o w3.drew e y (Below.refl _ _) d;have RB:y.cell? (ai g (pre.length*4+3))=some (.map (some r)):=(bz (G.block g K Uv)).J Uw)
    |(go_at_call 267;refine(f L y (by have:=F.lo;rw[c]at this;exact this) (by have:=F.hi;rw[c]at this;exact this)).V ?_;rintro e V ⟨rfl,H⟩;obtain⟨w6,d,a,N⟩:=((kh l ((H.block r (aI C G.size)).J (G.block r C o))):V.ownsMap prog 386 gG r _ D).update Ey underlying247 Uy (key:=kV (RE (eC jD t) L)) (val:=ag eb) (by rw[c]at s;exact s) (kS (some eb));have i:V.cell? (ai g (pre.length*4+3))=some (.map (some r)):=(bz (H.block g (aI K G.size))).J RB))
  all_goals
   go_end0;exact⟨rfl,P.o y V w6 u x G H a N⟩
end
end Go.Proofs.YtfebdimolnobaaaGreatDoor
