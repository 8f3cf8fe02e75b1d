import Derived.Test.YtfebdimolnobaaaGreatDoorPxA
import Derived.Test.YtfebdimolnobaaaGreatDoorMdV
set_option maxRecDepth 100000
set_option maxHeartbeats 8000000
set_option linter.all false
namespace Go.Proofs.YtfebdimolnobaaaGreatDoor
open Go.RowKit Go.Proofs.Tryz
section
open Vo
def xV:∀{pre Vs post Vp:List gF} {x x':gF},(pre++x::post).Pairwise (λa b=>a.1<b.1)->pre++x::post=Vs++x'::Vp->x.1=x'.1->pre=Vs/\x=x'/\post=Vp
 | [],[],_,_,_,_,_,e,_=>by
  simp only[aX,List.cons.injEq]at e
  exact⟨rfl,e⟩
 | [],y::p,_,_,_,x',hs,e,hx=>by
  simp only[aX,bo,List.cons.injEq]at e hs;rw[bu]at hs;have:=hs.1 x' (by rw[e.2];simp)
  omega
 |y::p,[],_,_,x,_,hs,e,hx=>by
  simp only[aX,bo,List.cons.injEq]at e hs;rw[bu]at hs;have:=hs.1 x Vd;rw[e.1]at this
  omega
 |y::p,z::q,_,_,_,_,hs,e,hx=>by
  simp only[bo,List.cons.injEq]at e hs;rw[bu]at hs;have⟨h1,h2,h3⟩:=xV hs.2 e.2 hx;exact⟨by rw[e.1,h1],h2,h3⟩
def wM.again {S:eD}{k:Nat}{T:Option MT}{w1:aw}{Z1:ax}{db:Nat}{m:PM}{n:Int}{g c:Nat}{pre:List gF}{x:gF}{post:List gF}{uv:Value}{A B:ax}{fp fq:List PF}
  (h:wM S k T w1 Z1 db m n g pre x post (.slice (some (aj g 0)) (pre++x::post).length c) uv A B fp fq) (hl:(pre++x::post).length<1073741824):FD S k T w1 Z1 db m n:=by
 refine⟨_,uv,_,h.y.c,hl,λw0 e w2 hb hR=> ?_⟩;obtain⟨g',c',Vs,x',Vp,rfl,hc,hx,hw,hk,hg⟩:=hR;rcases hw with⟨e1,e2⟩|⟨e1,_⟩
 .obtain⟨rfl,rfl,rfl⟩:=xV h.y.c.srt e1 (h.xn.J hx.sy);simp only[Value.slice.injEq,Option.some.injEq,Addr.mk.injEq]at e2;obtain⟨⟨rfl,_⟩,_,rfl⟩:=e2;have hK:∀b,b<w1.heap.size->b≠db->b≠g->w2.heap[b]?=w1.heap[b]?:=λb hl h1 h2=>(hk.block b (aI hl hb.size) (by simp[Value.ownBlock,h1,h2])).J (hb.block b hl)
  have Vx:∀b,A b\/B b->w2.heap[b]?=w1.heap[b]?:=λb q=>hK b (h.y.yl b q) (λe=>h.y.yd (e▸q)) (λe=>h.y.ys g rfl (e▸q))
  have Vy:∀{y:gF} {f:PF} {C:ax},(∀b,C b->A b\/B b)->gV S (eM S k) w1 T y f C->gV S (eM S k) w2 T y f C:=λhC hh=>hh.O (λ_ _ _ _ hD hr=>hr.O λb q _=>Vx b (hC b (hD b q))) (λb q _=>Vx b (hC b q))
  refine⟨g,c,pre,x,post,A,B,fp,fq,rfl,⟨rfl,⟨⟨hc,ew h.y.un λb q=>hK b (h.y.un.lt b q).2 (λe=>h.y.ud (e▸q)) (λe=>h.y.su g rfl (e▸q)),.inl h.y.zd,λb q=> .inl (h.y.zs b q),λb q=> .inl (h.y.zu b q),h.y.su,h.y.ud⟩,
   λb q=> .inl (h.y.yz b q),λb q=>aI (h.y.yl b q) (aM hb.size hk.size),h.y.yd,h.y.ys,h.y.yu⟩,h.len,h.sep.imp λy f C _ _ hC hs=>Vy (λb q=> .inr (hC b q)) hs,h.dis,h.xn,h.lo,h.hi,?_⟩,?_,λb q=>h.y.yl b (.inl q),hk,hg⟩
  .exact h.was.imp (λ⟨old,q1,q2⟩=>⟨old,q1,Vy (λb q=> .inl q) q2⟩) id
  .refine⟨hk.os,hk.tape,hk.output,hk.size,λb hl hz=>hk.block b hl ?_,λb q=> .inl (q.elim id λe=>e▸h.y.zs g rfl)⟩;simp only[aS,Value.ownBlock,Option.toList_some,bX,or_false,not_or];exact⟨λe=>hz (e▸h.y.zd),λe=>hz (e▸h.y.zs g rfl)⟩
 .have hs:=hc.srt;rw[ck,bu]at hs;have hm:x∈Vs++Vp:=by rw[<-e1];simp
  have hn:=h.xn;rcases aW.1 hm with q|q;.have:=hs.2.2 x q x' Vd;omega
  .have:=hs.2.1.1 x q;omega
def xW (S:eD)(k:Nat)(T:Option MT)(w:aw)(Z:ax)(db:Nat)(m:PM)(n:Int)(h:eM S (k+1+1) T w Z db m)(hok:oJ S T n .msgs)(hkd:∀kd,oJ S T n kd->kd= .msgs)(hln:vu T n)(hl:m.fs.length<1073741823)(hZ:∀b,Z b->b<w.heap.size):
  Calls prog 191 #[ah db,aa n] w (tm S (k+1) T w Z db (oq S T n) ((m.get n).headD PV.none).2.2 (λm'=>m.put n [mV m'])):=by
 have⟨sv,uv,l,hc,VD,hR⟩:=h.slot (n:=n) Vc;have hS:=uz w db sv uv l n hc VD;go_in
 go_wp2_with fail;refine hS.V ?_;rintro e w1 VA;obtain⟨g,c,pre,x,post,A,B,fp,fq,rfl,O,st,hAl,K,hg⟩:=hR w _ w1 (Below.refl _ _) VA;clear VA hR hS;have⟨⟨x1,x3⟩,ps,D,Vr,VB,VE,Vt,VF,Vw⟩:=O.ofMsgs hkd;have⟨c0,c1,c2,c3,cf⟩:=O.cells rfl;have Vz:=VF hln;have hgl:=(O.y.c.row.lt g rfl).2;rcases ps with _|⟨p,ps⟩
 .have hx:=Vw rfl;have Vv:m.get n= []:=bE Vt.len.sy
  have hlen:(pre++x::post).length<1073741824:=by
   have h1:=O.len;have h2:=O.sep.len;rcases O.was with⟨_,e,_⟩|⟨e,_⟩;.have:=dS List.length e;simp at this h2⊢;omega
   .have:=dS List.length e;simp at this h2⊢;omega
  have hA:=ot S k T w1 (λb=>Z b\/b=g) db m n (O.again hlen) hok hkd (λ_=>Vv) (by rw[Vv];simp) (by
   rintro(q|q);.have:=hZ _ q;have:=st.size;omega
   .omega)
  rw[hx]at c2;have HM:Hid (∀e w',tm S (k+1) T w1 (λb=>Z b\/b=g) db (oq S T n) PM.none (λm'=>m.put n (m.get n++ [mV m'])) e w'->(∃p,e= .returned (ah p)/\tm S (k+1) T w Z db (oq S T n) ((m.get n).headD PV.none).2.2 (λm'=>m.put n [mV m']) e w')):=(by rintro e w' ⟨p,Z',C,rfl,q2,q3,q4,q5⟩;rw[Vv]at q4⊢;exact⟨p,rfl,p,Z',C,rfl,st.J q2,q3,q4,q5⟩);clear c0 c1 c3 x1 x3 hx Vr hkd Vw Vv;go_wp2_with fail;refine hA.V ?_;rintro e w2 hq;obtain⟨p,rfl,VG⟩:=HM.o _ _ hq;clear hq;go_wp2;go_ret;exact VG
 .obtain rfl:ps= []:=by simp at Vz;exact Vz
  obtain⟨v,hv⟩:∃v,m.get n= [v]:=by
   have:=Vt.len
   match hm:m.get n,this with
   | [v],_=>exact⟨v,rfl⟩
  rw[hv]at Vt;obtain⟨C,D',⟨hv1,VH⟩,_,hC,_,_⟩:=Vt
  have HM:Hid (tm S (k+1) T w Z db (oq S T n) ((m.get n).headD PV.none).2.2 (λm'=>m.put n [mV m']) (.returned (ah p)) w1):=by
   rw[hv];refine⟨p,_,C,rfl,st,VH,?_,λb q=>O.y.yl b (.inl (VB b (hC b q)))⟩;have hM:(λm'=>m.put n [mV m'])=λm'=>PM.mk (fp++(n,[]++mV m':: [])::fq) m.unk:=funext λm'=>O.put Vd
   rw[hM];exact BU.hole (ps1:= []) (ps2:= []) (D:=λ_=>False) ⟨O.y,O.len,O.sep,O.dis,O.xn,x1,x3,Vr,λb q=>VB b (hC b q),λ_ q=>q.elim,λb q=>⟨λq2=>VE b q (hC b q2),λq=>q⟩,λ_ _ q=>q,rfl,trivial,hok,λ_=>rfl,Vd⟩
  have⟨xa,xn,xc,VC⟩:=d5 Vr.1;have Vq:=Vr.1;rw[VC]at c2 Vq;obtain⟨r,rfl,_,hr,Vu⟩:=eH Vq Vd;have p0:w1.cell? (aj r 0)=some (ah p):=Vu w1 rfl 0 _ rfl
  obtain rfl:xn=1:=by
   rcases Vq.2 with⟨q,_⟩|⟨_,_,_,q,_⟩;.cases q
   .injection q
  clear c0 c1 c3 x1 x3 VC Vr hkd Vw Vu;go_wp2;go_ret;exact HM.o
def Ou (n:Nat)(h:n<2^64):n^^^9223372036854775808=(n+9223372036854775808)%2^64:=by
 have e:(9223372036854775808:Nat)=2^63:=Vf
 have key:∀r,r<2^63->r^^^2^63=2^63+r:=λr hr=>by
  apply Nat.eq_of_testBit_eq;intro i;rw[Nat.testBit_xor,Nat.testBit_two_pow];by_cases h1:i<63;.rw[Nat.testBit_two_pow_add_gt h1];have:decide (63=i)=false:=Ve;simp[this]
  .by_cases h2:i=63;.subst h2;rw[Nat.testBit_two_pow_add_eq];simp
   .have h3:2^64<=2^i:=du Vc Vc;have h4:r.testBit i=false:=Nat.testBit_lt_two_pow Vc;have h5:(2^63+r).testBit i=false:=Nat.testBit_lt_two_pow Vc;rw[h4,h5];simp;omega
 rw[e];by_cases hn:n<2^63;.rw[key n hn,Nat.mod_eq_of_lt Vc];omega
 .obtain⟨r,rfl⟩:∃r,n=2^63+r:=⟨n-2^63,Vc⟩;have hr:r<2^63:=Vc;rw[<-key r hr,Nat.xor_assoc,Nat.xor_self,Nat.xor_zero,key r hr];omega
def tt {n:Int}(h0:0<=n)(h1:n<2^64):bits .xor .u64 n 9223372036854775808=(n+9223372036854775808)%2^64:=by
 obtain⟨a,rfl⟩:=bF h0;have hx:(BitVec.ofInt 64 (a:Int)).toNat=a:=(by rw[BitVec.ofInt_natCast,BitVec.toNat_ofNat];exact Nat.mod_eq_of_lt Vc);show IntKind.u64.wrap (((BitVec.ofInt 64 (a:Int))^^^(BitVec.ofInt 64 9223372036854775808)).toNat:Int)=_;rw[BitVec.toNat_xor,hx,show(BitVec.ofInt 64 9223372036854775808).toNat=9223372036854775808 from by decide,Ou a Vc];rw[gD Vc Vc];omega
def FL (sg:Bool)(v:LV):LV:=(if sg then(v.1+9223372036854775808)%2^64 else v.1,v.2)
def Ov (w:aw)(v:LV)(sg:Bool)(h0:0<=v.1)(h1:v.1<2^64):
  Calls prog 267 #[vP v,.bool sg] w λe w'=>e= .returned (kV (FL sg v))/\ak w w':=by
 have hx:=tt h0 h1;have K0:=dX.new w #[.int .u64 v.1,ag v.2,ai,U7] 55;have K1:=K0.alloc (am #[.int .u64 0,U7] 386);have⟨k1,k2⟩:=K1.I;unfold vP kV FL
 cases sg with
 |true=>
  rw[dP rfl];go_in
  go_wp2;refine dR (el results267 _ _ rfl (dX.new1 w _ _ _) underlying386 Vh) rfl ?_
  exact⟨rfl,((Below.refl _ _).alloc (aE _) _).alloc Vd _⟩
 |false=>
  rw[dO Vd];go_in
  go_wp2;refine dR (el results267 _ _ rfl (dX.new1 w _ _ _) underlying386 Vh) rfl ?_;exact⟨rfl,((Below.refl _ _).alloc (aE _) _).alloc Vd _⟩
def jY.filled {S:eD}{R:PU}{w:aw}{T:Option MT}:∀{l:List gF} {fs:List PF} {Y:ax},jY (gV S R w T) Y l fs->∀f∈fs,f.2≠ []
 | [],[],_,_=>Vd
 |_::_,g::_,_,⟨_,_,h1,h2,_⟩=>λf hf=>by
  rcases aS.1 hf with rfl|hf
  .rcases h1.2 with⟨_,lv,h⟩|⟨_,ps,B,h⟩|⟨t,_,mb,ps,B,h⟩;.rw[h.pm];simpa using h.ne
   .intro e;have:=h.sub.len;rw[e]at this;exact h.ne (bE this)
   .intro e;have:=h.sub.len;rw[e]at this;exact h.ne (bE this)
  .exact h2.filled f hf
 | [],_::_,_,h=>h.elim
 |_::_,[],_,h=>h.elim
def DP {n:Int}:∀{fs:List PF},(∀f∈fs,f.2≠ [])->(∃f∈fs,f.1=n)->gR fs n≠ []
 | [],_,⟨_,h,_⟩=>by simp at h
 |x::l,h,⟨f,hf,e⟩=>by
  rw[gR];split;.exact h x Vd
  .rename_i q;rcases aS.1 hf with rfl|hf;.exact absurd e q
   .exact DP (λy hy=>h y (by simp[hy])) ⟨f,hf,e⟩
def Lj {S:eD}{k:Nat}{T:Option MT}{w:aw}{Z Y:ax}{db:Nat}{m:PM}{sv uv:Value}{l:List gF}(hy:Oo w Z db sv uv m.unk l Y)(hs:jY (gV S (eM S k) w T) Y l m.fs){n:Int}{i:Nat}(h1:∀k x,(l.map (·.1))[k]?=some x->k<i->x<n)(h2:∀k x,(l.map (·.1))[k]?=some x->i<=k->n<=x):
  ((l.map (·.1))[i]?=some n->(m.get n).isEmpty=false)/\((l.map (·.1))[i]?≠some n->(m.get n).isEmpty=true/\∀f∈m.fs,f.1≠n):=by
 have hn:=hs.nums;constructor
 .intro h;have hm:n∈m.fs.map (·.1):=by rw[hn];exact aL h
  have⟨f,hf,e⟩:=aR.1 hm;have:=DP hs.filled ⟨f,hf,e⟩;unfold PM.get
  cases hg:gR m.fs n with
  |nil=>exact absurd hg this
  |cons _ _=>rfl
 .intro h
  have Vx:∀f∈m.fs,f.1≠n:=λf hf e=>by
   have hm:n∈l.map (·.1):=by rw[<-hn];exact aR.2 ⟨f,hf,e⟩
   have⟨j,hj⟩:=bY.1 hm
   have VG:i<j:=by
    by_cases q:j<i;.have:=h1 j n hj q;omega
    .by_cases q2:j=i;.exact absurd (q2▸hj) h
     .omega
   have VH:(l.map (·.1)).Pairwise (·< ·):=cw.2 hy.c.srt;have⟨VM,ej⟩:=bn.1 hj;have Vq:=bV.1 VH i j Vc VM VG;have:=h2 i _ (aO Vc) (aE _);omega
  exact⟨by unfold PM.get;rw[nV n m.fs Vx];rfl,Vx⟩
def nB (m:PM):Nat->PM
 |0=> .mk m.fs eS
 |1=>fT (.mk m.fs eS) 1
 |_=>fT (fT (.mk m.fs eS) 1) 2
def IZ (m:PM):nB m 2=gA m:=by
 have hu:∀(fs:List PF) (u u':au) (n:Int),(fT (.mk fs u) n).fs=(fT (.mk fs u') n).fs/\(fT (.mk fs u) n).unk=u:=λfs u u' n=>by
  unfold fT PM.get PM.put;cases h:(gR fs n).isEmpty<;>simp[PM.fs,PM.unk,h]
 have hm:∀m:PM,m= .mk m.fs m.unk:=λm=>by cases m;rfl
 unfold gA;show fT (fT (.mk m.fs eS) 1) 2=_;rw[hm (fT (fT (.mk m.fs eS) 1) 2)];have e1:=hu m.fs eS m.unk 1;rw[<-hm m]at e1;rw[hm (fT (.mk m.fs eS) 1),e1.2,e1.1];rw[(hu (fT m 1).fs eS (fT m 1).unk 2).1,<-hm (fT m 1),(hu (fT m 1).fs eS eS 2).2]
def DQ (S:eD)(k:Nat)(T:Option MT)(w:aw)(Z:ax)(db:Nat)(m:PM)(h:eM S (k+1) T w Z db m)(hok1:oJ S T 1 .vals)(hok2:oJ S T 2 .vals)(hl:m.fs.length<1073741822)(hZ:∀b,Z b->b<w.heap.size):
  Calls prog 265 #[ah db] w (kr S k T w Z db (gA m)):=by
 obtain⟨sv,uv,l,Y,hy,hs⟩:=h;have⟨k1,k2⟩:=hy.c.blk.I;have hdl:=hy.c.blk.lt
 have h0:eM S (k+1) T (w.setCell (aj db 1) (ai)) Z db (nB m 0):=by
  have Vp:∀b,b≠db->(w.setCell (aj db 1) (ai)).heap[b]?=w.heap[b]?:=λb q=>by rw[dW,dO (λe=>q e.sy)]
  refine⟨sv,ai,l,Y,⟨⟨⟨hy.c.blk.set 1 _,ew hy.c.row (λb e=>Vp b (λq=>hy.c.ne (q▸e))),hy.c.form,hy.c.srt,hy.c.ne,hy.c.len⟩,br _ _ _ _,hy.zd,hy.zs,(λb e=>by cases e),(λb _ e=>by cases e),(λe=>by cases e)⟩,hy.yz,λb q=>by simpa using hy.yl b q,hy.yd,hy.ys,(λb e=>by cases e)⟩,?_⟩;exact nx hs λb q _=>Vp b (λe=>hy.yd (e▸q))
 have VI:fK w Z (w.setCell (aj db 1) (ai)) Z:=⟨rfl,rfl,rfl,Vd,λb _ q=>by rw[dW,dO (λe:db=b=>q (by rw[<-e];exact hy.zd))],λb q=> .inl q⟩;have KR:=dX.new (w.setCell (aj db 1) (ai)) #[aa 1,aa 2] 3;have BR:Below _ (w.setCell (aj db 1) (ai)) ((w.setCell (aj db 1) (ai)).alloc (am #[aa 1,aa 2] 3)):=(Below.refl _ _).alloc (aE _) _;have hsz:(w.setCell (aj db 1) (ai)).heap.size=w.heap.size:=Vd;have VJ:(nB m 0).fs.length<1073741822:=hl;clear hy hs
 have Vr:∀(m:PM) (n:Int),(fT m n).fs.length<=m.fs.length+1:=λm n=>by
  unfold fT;split;.exact PM.put_len m n _
  .omega
 have hlen:∀j,(nB m j).fs.length<1073741824:=λj=>by
  match j with
  |0=>have:=VJ;omega
  |1=>have:=Vr (nB m 0) 1;show(fT (nB m 0) 1).fs.length<_;omega
  |_+2=>
   have h1:=Vr (nB m 0) 1;have h2:=Vr (fT (nB m 0) 1) 2;show(fT (fT (nB m 0) 1) 2).fs.length<_;omega
 have Vy:∀j,j<2->nB m (j+1)=fT (nB m j) ((j:Int)+1):=λj hj=>by
  match j with
  |0=>rfl
  |1=>rfl
 have Vz:Hid (∀j,j<2->nB m (j+1)=fT (nB m j) ((j:Int)+1)):=Vy;clear Vy
 have Vs:∀j:Nat,j<2->oJ S T ((j:Int)+1) .vals:=λj hj=>by
  match j with
  |0=>exact hok1
  |1=>exact hok2
 go_in
 rw[hsz]at KR;clear hsz;go_wp2;go_loopw [11] (λiv wr=>∃j:Nat,j<=2/\iv=aa j/\∃Z',fK w Z wr Z'/\eM S (k+1) T wr Z' db (nB m j)/\dX wr w.heap.size #[aa 1,aa 2] 3/\¬Z' w.heap.size) (λiv _=>(2-intOf iv).toNat)
 case atStart=>exact⟨0,Vc,rfl,Z,VI.G BR,h0.O (λb _ q=>BR.block b q),KR,λq=>by have:=hZ _ q;omega⟩
 case round=>
  obtain⟨j,hj,rfl,Z',st,hD,Vu,Vv⟩:=hrel;by_cases Vq:j<2
  .have hc:wr.cell? (aj w.heap.size j)=some (aa ((j:Int)+1)):=by
    rw[Vu.cell]
    match j,Vq with
    |0,_=>rfl
    |1,_=>rfl
   have hli:(j:Int)<2:=Vc;obtain⟨VC,VD,l',Y',Vw,VE⟩:=hD;have hD:eM S (k+1) T wr Z' db (nB m j):=⟨VC,VD,l',Y',Vw,VE⟩;have hF:=Hg wr db VC VD l' ((j:Int)+1) Vw.c;go_wp2_with fail;refine hF.V ?_;rintro e w1 ⟨⟨i,rfl,hi,VN,VO⟩,B1⟩;have hH:=Lj Vw VE VN VO;have VA:=hD.O (λb _ q=>B1.block b q);have Vt:=Vu.G B1 Vu.lt;by_cases hfd:(l'.map (·.1))[i]?=some ((j:Int)+1)
   .have hd:decide ((l'.map (·.1))[i]?=some ((j:Int)+1))=true:=decide_eq_true hfd;have HE:Hid (nB m (j+1)=nB m j):=(by show nB m (j+1)=nB m j;rw[Vz.o j Vq,fT,hH.1 hfd];rfl);clear hfd hH hc;go_wp2;go_roundw
    case rel=>exact⟨j+1,Vc,by go_num,Z',st.G B1,by rw[HE.o];exact VA,Vt,Vv⟩
    case measure=>simp[intOf];omega
   .have hd:decide ((l'.map (·.1))[i]?=some ((j:Int)+1))=false:=decide_eq_false hfd;have⟨VF,VP⟩:=hH.2 hfd;have HE:Hid (nB m (j+1)=(nB m j).put ((j:Int)+1) [qq (0,⟨#[]⟩)]):=(by show nB m (j+1)=_;rw[Vz.o j Vq,fT,VF];rfl);have VB:=xU S k T w1 Z' db (nB m j) ((j:Int)+1) (0,⟨#[]⟩) VA (Vs j Vq) (.inr VP) (hlen j);unfold vP at VB;clear hfd hH hc VF;go_wp2_with fail;refine VB.V ?_;rintro e w2 ⟨rfl,Z2,st2,VQ⟩;have VK:=Vt.step st2 Vv;have VL:¬Z2 w.heap.size:=st2.not Vt.lt Vv;go_wp2;go_roundw
    case rel=>exact⟨j+1,Vc,by go_num,Z2,(st.G B1).J st2,by rw[HE.o];exact VQ,VK,VL⟩
    case measure=>simp[intOf];omega
  .obtain rfl:j=2:=Vc;go_wp2;go_end0;rw[<-IZ];exact⟨rfl,Z',st,hD⟩
section
variable {S:eD} {k db g:Nat} {T:Option MT} {w1:aw} {Z1 C:ax} {m:PM} {n:Int} {pre post:List gF} {x:gF} {uv:Value} {t:au} {β:Type} {ps:aB}
def qt (t:au):MT:=⟨eS,[⟨oe,t,eS,lK,1⟩]⟩
theorem wM.shut {sv:Value}{A B:ax}{fp fq:List PF}
  (h:wM S k T w1 Z1 db m n g pre x post sv uv A B fp fq) (hn:m.get n≠ []):eM S (k+1) T w1 Z1 db m:=by
 rcases h.was with⟨old,e,hs⟩|⟨e,_⟩;.obtain⟨fs,u⟩:=m;simp only[PM.fs]at e;subst e;exact⟨sv,uv,pre++x::post,λb=>A b\/B b,h.y,jY.join h.len hs h.sep (λb q=> .inl q) (λb q=> .inr q) h.dis⟩
 .refine absurd ?_ hn;unfold PM.get;rw[e];refine nV n _ λf hf=> ?_
  rcases aW.1 hf with hf|hf;.have:=h.lo f hf;omega
  .have:=h.hi f hf;omega
theorem wM.ofEnts {sv:Value}{A B:ax}{fp fq:List PF}
  (h:wM S k T w1 Z1 db m n g pre x post sv uv A B fp fq) (hkd:∀kd,oJ S T n kd->kd= .ents t):
  (x.2.1=ai/\x.2.2.1=ai)/\((x.2.2.2= .map none/\m.get n= []/\∀b,¬A b)\/∃mb ps D,x.2.2.2= .map (some mb)/\j0 w1 mb ((m.get n).map λv=>ko t (fQ v)) ps/\(∀b,D b->A b)/\A mb/\¬D mb/\(∀v∈m.get n,Ff t (fQ v))/\
   (m.get n).Pairwise (λa b=>lG (ko t (fQ a)) (ko t (fQ b)))/\jY (λp v C=>v=mV v.2.2/\eM S k none w1 C p v.2.2) D ps (m.get n)):=by
 rcases h.was with⟨old,e,hs⟩|⟨e,rfl,hA⟩
 .obtain⟨h1,h2⟩:=hs;have VD:m.get n=old:=(by unfold PM.get;rw[e];exact qZ n old fq fp h.lo);rw[h.xn]at h2;rcases h2 with⟨q,_⟩|⟨q,_⟩|⟨t',q,mb,ps,B,hv⟩;.exact absurd (hkd _ q) Vd
  .exact absurd (hkd _ q) Vd
  .have:=hkd _ q;simp only[Kd.ents.injEq]at this;subst this;rw[VD];exact⟨⟨hv.c1,hv.c2⟩,.inr ⟨mb,ps,B,hv.c3,hv.map,hv.inA,hv.inM,hv.own,hv.key,hv.srt,hv.sub⟩⟩
 .refine⟨⟨rfl,rfl⟩,.inl ⟨rfl,?_,hA⟩⟩;unfold PM.get;rw[e];refine nV n _ λf hf=> ?_
  rcases aW.1 hf with hf|hf;.have:=h.lo f hf;omega
  .have:=h.hi f hf;omega
theorem jY.splitR {α:Type}{P:α->β->(ax)->Prop}{l:List α}{rp:List β}{y:β}{rq:List β}{Y:ax}(h:jY P Y l (rp++y::rq)):
  ∃pre x post,l=pre++x::post/\pre.length=rp.length/\∃A B:ax,P x y A/\jY P B (pre++post) (rp++rq)/\(∀b,A b->Y b)/\(∀b,B b->Y b)/\∀b,A b->¬B b:=by
 have hl:=h.len;simp only[aN,bw]at hl;have VE:rp.length<l.length:=Vc
 obtain⟨pre,x,post,rfl,hp⟩:∃pre x post,l=pre++x::post/\pre.length=rp.length:=
  ⟨l.take rp.length,l[rp.length],l.drop (rp.length+1),by rw[<-be VE,ca],by rw[bM];omega⟩
 have⟨rp',y',rq',e,hl',A,B,q⟩:=h.split;have⟨e1,e2⟩:=List.append_inj e Vc;simp only[List.cons.injEq]at e2;obtain⟨rfl,rfl⟩:=e2;subst e1;exact⟨pre,x,post,rfl,hp,A,B,q⟩
theorem jY.part {P:Nat->β->(ax)->Prop}{l1 mid l2:List β}(h:jY P C ps (l1++(mid++l2)))(hm:mid= []\/∃x,mid= [x]):
  ∃ps1 pm ps2,∃C0:ax,ps=ps1++(pm++ps2)/\ps1.length=l1.length/\((mid= []/\pm= [])\/∃x p,mid= [x]/\pm= [p])/\jY P C0 (ps1++ps2) (l1++l2)/\∀b,C0 b->C b:=by
 rcases hm with rfl|⟨x,rfl⟩;.have hl:=h.len;simp only[aX,aN]at hl h;exact⟨ps.take l1.length,[],ps.drop l1.length,C,by rw[aX,ca],by rw[bM];omega,.inl ⟨rfl,rfl⟩,by rw[ca];exact h,λ_ q=>q⟩
 .obtain⟨pre,p,post,rfl,hp,A,B,_,h2,_,h4,_⟩:=jY.splitR (y:=x) (rq:=l2) h;exact⟨pre,[p],post,B,rfl,hp,.inr ⟨x,p,rfl,rfl⟩,h2,h4⟩
theorem wM.ents {w2:aw}{c:Nat}{A B:ax}{fp fq:List PF}
  (h:wM S k T w2 Z1 db m n g pre x post (.slice (some (aj g 0)) (pre++x::post).length c) uv A B fp fq) {w3 w6:aw} {mb eb N:Nat} {E:ax} {em:PM} {D:DataW Unit} {kl:Lit}
  (hc3:DN w3 db (.slice (some (aj g 0)) (pre++x::post).length c) uv (pre++(n,ai,ai,.map (some mb))::post)) (h3:∀b,b<w2.heap.size->b≠g->w3.heap[b]?=w2.heap[b]?) (hs3:w2.heap.size<=w3.heap.size)
  (hkept:∀b,b<w3.heap.size->¬E b->b≠mb->w6.heap[b]?=w3.heap[b]?) (hs6:w3.heap.size<=w6.heap.size) (hos:w6.os=w2.os/\w6.tape=w2.tape/\w6.output=w2.output)
  (Vs:∃w5:aw,w5.ownsMap prog 386 gL mb N D) (hsz:Go.Maps.size D=((m.get n).map λv=>ko t (fQ v)).length) (hat:∀(k:LV) kl,Go.keyOf prog 386 (kV k)=some kl->∀z,D.atKey kl z=St (jZ ((m.get n).map λv=>ko t (fQ v)) ps k) z)
  (hput:w6.ownsMap prog 386 gL mb (N+1) (D.put kl (oH (some eb)))) (hkl:Go.keyOf prog 386 (kV (ko t (fQ (mV em))))=some kl)
  (hmb:A mb\/w2.heap.size<=mb) (hmC:¬C mb) (hCA:∀b,C b->A b) (hEZ:∀b,E b->¬Z1 b) (hEm:¬E mb) (hEl:∀b,E b->b<w6.heap.size) (hml:mb<w6.heap.size) (hkey:∀v∈m.get n,Ff t (fQ v)) (hkv:Ff t (fQ (mV em)))
  (hsrt:(m.get n).Pairwise (λa b=>lG (ko t (fQ a)) (ko t (fQ b)))) (hsub:jY (λp v C=>v=mV v.2.2/\eM S k none w2 C p v.2.2) C ps (m.get n)) (he:eM S k none w6 E eb em) (hok:oJ S T n (.ents t)) (Vw:(m.get n).length<1073741824):
  fK w2 (λb=>Z1 b\/E b) w6 (λb=>Z1 b\/(A b\/b=mb\/E b))/\eM S (k+1) T w6 (λb=>Z1 b\/(A b\/b=mb\/E b)) db (m.put n (jV t (m.get n) (mV em))):=by
 have⟨l1,mid,l2,e1,e2,Vv,VA,VB⟩:=vy hkv hkey hsrt;rw[e2];rw[e1]at hkey hsrt hsub;obtain⟨ps1,pm,ps2,C0,rfl,VC,VK,Vp,Vr⟩:=hsub.part (Vv.imp id λ⟨x,q,_⟩=>⟨x,q⟩);have Vw:=(h.y.c.row.lt g h.own).2;have Vy:=h.y.c.blk.lt;have Vt:mb<w2.heap.size->A mb:=λq=>hmb.resolve_right Vc
 have VF:mb≠g:=λe=>h.y.ys g h.own (.inl (e▸Vt (e▸Vw)))
 have VG:mb≠db:=λe=>h.y.yd (.inl (e▸Vt (e▸Vy)))
 have Vz:=h.y.zs g h.own;have Vq:∀b,b<w2.heap.size->b≠g->¬E b->b≠mb->w6.heap[b]?=w2.heap[b]?:=λb hb q1 q2 q3=>(hkept b (aI hb hs3) q2 q3).J (h3 b hb q1)
 have VH:∀b,C0 b->w6.heap[b]?=w2.heap[b]?:=λb hb=>by
  have hA:=hCA b (Vr b hb);exact Vq b (h.y.yl b (.inl hA)) (λe=>h.y.ys g h.own (.inl (e▸hA))) (λq=>hEZ b q (h.y.yz b (.inl hA))) (λe=>hmC (e▸Vr b hb))
 have VI:=hc3.O (w':=w6) (hkept db (aI Vy hs3) (λq=>hEZ db q h.y.zd) (λe=>VG e.sy)) (λb hb=>by
  obtain rfl:g=b:=by simpa [Value.ownBlock]using hb
  exact hkept g (aI Vw hs3) (λq=>hEZ g q Vz) (λe=>VF e.sy))
 have Vu:∀v∈l1++mV em::l2,Ff t (fQ v):=λv hv=>by
  simp only[aW,aS]at hv;rcases hv with hv|rfl|hv;.exact hkey v (by simp[hv])
  .exact hkv
  .exact hkey v (by simp[hv])
 have VJ:(l1++mV em::l2).Pairwise (λa b=>lG (ko t (fQ a)) (ko t (fQ b))):=by
  rw[ck]at hsrt;have h2:=(ck.1 hsrt.2.1).2.1;rw[ck,bu];refine⟨hsrt.1,⟨VB,h2⟩,λa ha b hb=> ?_⟩;rcases aS.1 hb with rfl|hb;.exact VA a ha
  .exact hsrt.2.2 a ha b (by simp[hb])
 obtain⟨w5,Vs⟩:=Vs;rw[e1,bS,bS]at hsz hat
 have Vx:j0 w6 mb ((l1++mV em::l2).map λv=>ko t (fQ v)) (ps1++eb::ps2):=by
  rw[bS,bK];refine j0.put (km:=mid.map λv=>ko t (fQ v)) (pm:=pm) ?_ (by rw[bN];exact VC.sy) ?_ ?_ Vs hsz hat hkl hput
  .rcases VK with⟨rfl,rfl⟩|⟨x,p,rfl,rfl⟩;.exact .inl ⟨rfl,rfl⟩
   .have⟨x',q1,q2⟩:=Vv.resolve_left Vd;cases q1;exact .inr ⟨_,p,rfl,rfl,q2⟩
  .intro q hq;obtain⟨v,hv,rfl⟩:=aR.1 hq;exact lN (VA v hv)
  .intro q hq;obtain⟨v,hv,rfl⟩:=aR.1 hq;exact λe=>lN (VB v hv) e.sy
 refine⟨⟨hos.1,hos.2.1,hos.2.2,aM hs3 hs6,λb hb q=>Vq b hb (λe=>q (.inl (e▸Vz))) (λe=>q (.inr e)) (λe=>q (.inl (e▸h.y.yz mb (.inl (Vt (e▸hb)))))),?_⟩,?_⟩
 .rintro b (q|q|rfl|q);.exact .inl (.inl q)
  .exact .inl (.inl (h.y.yz b (.inl q)))
  .exact hmb.imp (λq=> .inl (h.y.yz _ (.inl q))) id
  .exact .inl (.inr q)
 .refine eM.V (Z:=λb=>Z1 b\/(b=mb\/C0 b\/E b)) (h.close (w2:=w6) (x':=(n,ai,ai,.map (some mb))) (vs:=l1++mV em::l2) (A':=λb=>b=mb\/C0 b\/E b) ?_ ⟨rfl,.inr (.inr ⟨t,hok,mb,ps1++eb::ps2,λb=>C0 b\/E b,?_⟩)⟩ Vd ?_ ?_ ?_) ?_;.exact VI
  .refine⟨Vd,rfl,rfl,rfl,Vx,λb q=> .inr q,.inl rfl,λq=>q.elim (λq=>hmC (Vr mb q)) hEm,Vu,VJ,?_,?_⟩;.exact jY.join (A:=E) (B:=C0) VC.sy ⟨rfl,he⟩ (Vp.imp λp v F _ _ hF hp=>⟨hp.1,hp.2.O λb hb _=>VH b (hF b hb)⟩) (λb q=> .inr q) (λb q=> .inl q) (λb q1 q2=>hEZ b q1 (h.y.yz b (.inl (hCA b (Vr b q2)))))
   .have q1:=dS List.length e1;have q2:=Vp.len;simp only[aN,bw]at q1 q2⊢;omega
  .rintro b (rfl|q|q) hz hl;.exact Vt hl
   .exact hCA b (Vr b q)
   .exact absurd hz (hEZ b q)
  .rintro b (rfl|q|q);.exact hml
   .exact aI (h.y.yl b (.inl (hCA b (Vr b q)))) (aM hs3 hs6)
   .exact hEl b q
  .exact λb hz hb q1 q2=>Vq b hb q1 (λq=>hEZ b q hz) (λe=>q2 (e▸Vt (e▸hb)))
  .rintro b (q|rfl|q|q);.exact .inl q
   .exact .inr (.inr (.inl rfl))
   .exact .inr (.inl (hCA b (Vr b q)))
   .exact .inr (.inr (.inr q))
end
def fK.clip {w w':aw}{Z Z':ax}(h:fK w Z w' Z'):fK w Z w' (λb=>Z' b/\b<w'.heap.size):=⟨h.os,h.tape,h.output,h.size,h.block,λb q=>h.grow b q.1⟩
def fK.less {a b:aw}{S S' T:ax}(h:fK a S b T)(hs:∀x,S x->S' x\/a.heap.size<=x):fK a S' b T:=
 ⟨h.os,h.tape,h.output,h.size,λi hi q=>h.block i hi (λe=>(hs i e).elim q (λe=>Vc)),λi q=>(h.grow i q).elim (hs i) .inr⟩
def sl {t:au}{n:Int}{f:fo}(h:d9 (qt t).fs n=some f):n=1/\f=⟨oe,t,eS,lK,1⟩:=by
 unfold qt at h;simp only[d9]at h;grind
def eM.toKey {S:eD}{f:fo}{k:Nat}{w:aw}{Z:ax}{db:Nat}{m:PM}(h:eM S k (some (eP f)) w Z db m):eM S k (some (qt f.key)) w Z db m:=by
 cases k with
 |zero=>exact h
 |succ k=>
  obtain⟨sv,uv,l,Y,hy,hs⟩:=h;refine⟨sv,uv,l,Y,hy,hs.imp λx g A _ _ _ h=>⟨h.1,?_⟩⟩
  have hf:∀n f',d9 (qt f.key).fs n=some f'->d9 (eP f).fs n=some f':=λn f' q=>by
   obtain⟨rfl,rfl⟩:=sl q;rfl
  have hk:∀n kd,oJ S (some (eP f)) n kd->oJ S (some (qt f.key)) n kd:=λn kd q d f' e1 e2=>by
   cases e1;exact q (eP f) f' rfl (hf n f' e2)
  rcases h.2 with⟨q,lv,h⟩|⟨q,ps,B,h⟩|⟨t,q,mb,ps,B,h⟩;.grind
  .refine .inr (.inl ⟨hk _ _ q,ps,B,{h with lone:=(λ⟨d,f',e1,e2,e3⟩=>by cases e1;exact h.lone ⟨_,f',rfl,hf _ _ e2,e3⟩),sub:=h.sub.imp λp v C _ _ _ q=>⟨q.1,?_⟩}⟩)
   cases hff:d9 (qt f.key).fs x.1 with
   |none=>
    have:oq S (some (qt f.key)) x.1=none:=by unfold oq;grind
    rw[this]
    exact q.2.forget
   |some f'=>
    have:oq S (some (qt f.key)) x.1=oq S (some (eP f)) x.1:=by unfold oq;grind
    grind
  grind
structure Lk (S:eD)(k:Nat)(t:au)(m:PM)(n:Int)(w2 w3:aw)(db g c N:Nat)(uv:Value)(pre post:List gF)(A:ax)(mb:Nat)(ps:aB)(C:ax):Prop where
 dc:DN w3 db (U9 g N c) uv (pre++(n,ai,ai,.map (some mb))::post)
 k3:∀b,b<w2.heap.size->b≠g->w3.heap[b]?=w2.heap[b]?
 s3:w2.heap.size<=w3.heap.size
 os:w3.os=w2.os/\w3.tape=w2.tape/\w3.output=w2.output
 map:j0 w3 mb ((m.get n).map λv=>ko t (fQ v)) ps
 hm:A mb\/w2.heap.size<=mb
 mC:¬C mb
 CA:∀b,C b->A b
 key:∀v∈m.get n,Ff t (fQ v)
 srt:(m.get n).Pairwise (λa b=>lG (ko t (fQ a)) (ko t (fQ b)))
 sub:jY (λp v C=>v=mV v.2.2/\eM S k none w2 C p v.2.2) C ps (m.get n)
 c3:w3.cell? (aj g (pre.length*4+3))=some (.map (some mb))
def vz (S:eD)(k:Nat)(T:Option MT)(w:aw)(Z E:ax)(db eb:Nat)(m em:PM)(n:Int)(t:au)(sg:Bool)(h:eM S (k+1+1) T w Z db m)(he:eM S (k+1) (some (qt t)) w E eb em)(hno:S.msg t=none)(hd:∀b,E b->¬Z b)(hZ:∀b,Z b->b<w.heap.size)(hE:∀b,E b->b<w.heap.size)
  (hok:oJ S T n (.ents t)) (hkd:∀kd,oJ S T n kd->kd= .ents t) (hsg:sg=fi jm t) (hkv:Ff t (fQ (mV (gA em)))) (hky:(gA em).get 1≠ []) (hl:m.fs.length<1073741824) (hgl:(m.get n).length<1073741824) (hel:em.fs.length<1073741822):
  Calls prog 187 #[ah db,aa n,.bool sg,ah eb] w λe w'=>e= .returned (.tuple #[])/\∃Z',fK w (λb=>Z b\/E b) w' Z'/\eM S (k+1+1) T w' Z' db (m.put n (jV t (m.get n) (mV (gA em)))):=by
 have Wp:pM S ⟨oe,t,eS,lK,1⟩= .vals:=(by unfold pM fo.isMap fy;have e1:gN lK xA=false:=BO;simp[e1,fo.isMap,hno])
 have ok1:oJ S (some (qt t)) 1 .vals:=λd f e1 e2=>by
  cases e1;obtain⟨_,rfl⟩:=sl e2;grind
 have ok2:oJ S (some (qt t)) 2 .vals:=λd f e1 e2=>by
  cases e1;have:=(sl e2).1;omega
 have Wq:∀kd,oJ S (some (qt t)) 1 kd->kd= .vals:=λkd q=>by rw[q (qt t) ⟨oe,t,eS,lK,1⟩ rfl rfl,Wp]
 subst hsg;have hC:=DQ S k (some (qt t)) w E eb em he ok1 ok2 hel hE
 have VV:(gA em).fs.length<1073741824:=by
  have e:(gA em).fs=(fT (fT em 1) 2).fs:=rfl
  have h1:∀(m:PM) (n:Int),(fT m n).fs.length<=m.fs.length+1:=λm n=>by
   unfold fT;split;.exact PM.put_len m n _
   .omega
  grind
 obtain⟨fe,V9⟩:=Y9 (gA em);rw[V9]at hC hkv hky VV⊢;clear V9;go_in
 go_wp2_with fail;refine hC.V ?_;rintro e w1 ⟨rfl,E1',VD,VE⟩;obtain⟨E1,st1,Wb,WK⟩:∃E1,fK w E w1 E1/\eM S (k+1) (some (qt t)) w1 E1 eb fe/\∀b,E1 b->b<w1.heap.size:=⟨_,VD.clip,VE.clip,λb q=>q.2⟩;clear VD VE hC;have Ws:∀b,E1 b->¬Z b:=λb q1 q2=>(st1.grow b q1).elim (λq=>hd b q q2) (λq=>by grind)
 have h1:eM S (k+1+1) T w1 Z db m:=h.O λb q hl=>st1.block b hl (λe=>hd b e q)
 obtain⟨sv,uv,l,hc,WL,hR⟩:=h1.slot (n:=n) hl;have hS:=uz w1 db sv uv l n hc WL;go_wp2_with fail;refine hS.V ?_;rintro e w2 Wd;obtain⟨g,c,pre,x,post,A,B,fp,fq,rfl,O,st2,hAl,K,hg⟩:=hR w1 _ w2 (Below.refl _ _) Wd;clear Wd hR hS h h1;have Wt:=st2.grow g (.inr rfl)
 have Vv:∀b,E1 b->¬(Z b\/b=g):=λb q=>by
  grind
 have VW:eM S (k+1) (some (qt t)) w2 E1 eb fe:=Wb.O λb q hl=>st2.block b hl (Ws b q)
 have Wu:∀b,E1 b->b<w2.heap.size:=λb q=>aI (WK b q) st2.size
 obtain⟨c0,c1,c2,c3,cf⟩:=O.cells rfl;have Vw:=(O.y.c.row.lt g rfl).2
 have VX:fK w (λb=>Z b\/E b) w2 (λb=>(Z b\/b=g)\/E1 b):=
  ⟨st2.os.J st1.os,st2.tape.J st1.tape,st2.output.J st1.output,aM st1.size st2.size,λb hb q=>(st2.block b (aI hb st1.size) (λe=>q (.inl e))).J (st1.block b hb (λe=>q (.inr e))),λb q=>by
   rcases q with(q|rfl)|q;.grind
   .exact Wt.imp .inl (λe=>aM st1.size e)
   .exact(st1.grow b q).imp .inr id⟩
 clear he Wb st1 st2 hE K;obtain⟨⟨x1,x2⟩,hx⟩:=O.ofEnts hkd;have hpl:((pre++x::post).flatMap et).length=(pre++x::post).length*4:=oM _;rcases hx with⟨x3,VQ,WN⟩|⟨mb,ps,C,x3,We,Wf,Wh,Wk,VF,VG,VH⟩
 focus
  rw[x3]at c3;have PK:∃mb ps C,Lk S (k+1) t m n w2 ((w2.setCell (aj g (pre.length*4+3)) (.map (some w2.heap.size))).alloc (.map #[] 0)) db g c (pre++x::post).length uv pre post A mb ps C/\mb=w2.heap.size:=(by have VY:=O.y.c.put (j:=3) Vc (v:= .map (some w2.heap.size)) (x':=(x.1,ai,ai,.map (some w2.heap.size))) rfl ⟨⟨_,_,_,rfl⟩,⟨_,_,_,rfl⟩,_,rfl⟩ (by simp[et,x1,x2]);rw[O.xn]at VY;have hsz:(w2.setCell (aj g (pre.length*4+3)) (.map (some w2.heap.size))).heap.size=w2.heap.size:=Vd;have VZ:=VY.G ((Below.refl _ _).alloc (aE _) (.map #[] 0));have Wv:=j0.made (w2.setCell (aj g (pre.length*4+3)) (.map (some w2.heap.size)));rw[hsz]at Wv;refine⟨_,[],λ_=>False,⟨VZ,λb hb q=>(Below.l _ _ b Vc).J (by rw[dW,dO (λe=>q e.sy)]),Vd,⟨rfl,rfl,rfl⟩,by grind,.inr (aE _),λq=>q,λ_ q=>q.elim,by grind,by rw[VQ];exact List.Pairwise.nil,by rw[VQ];trivial,?_⟩,rfl⟩;have VJ:(pre++(n,Value.slice none 0 0,Value.slice none 0 0,Value.map (some w2.heap.size))::post)[pre.length]?=some (n,ai,ai,.map (some w2.heap.size)):=Vd;obtain⟨g',e,_,hc'⟩:=sj (c:=c) (by have:=VZ.row;simpa using this) VJ;grind);have Ww:=run_eql_map_nil (P:=prog) w2 247 386 180 none underlying247;have Wx:= @run_makeMap prog;have Wy:∀o,(w2.alloc (.map #[] 0)).frozen? (aj g o)=false:=λo=>by rw[World.frozen?_of_block (Below.l _ _ g Vw)];grind
  have Wz:(w2.alloc (.map #[] 0)).cell? (aj g (pre.length*4+3))=some (.map none):=by rw[bC (Below.l _ _ g Vw)];exact c3
  clear x3 VQ WN;go_upto_region 4 with fail
  generalize(w2.setCell (aj g (pre.length*4+3)) (.map (some w2.heap.size))).alloc (.map #[] 0)=w3 at*;obtain⟨mb,ps,C,PK,VR⟩:=PK;clear VR c0 c1 c2 c3 cf Wx Wy Wz
 rotate_left
 focus
  rw[x3]at c3;have PK:Lk S (k+1) t m n w2 w2 db g c (pre++x::post).length uv pre post A mb ps C:=(by have WA:x=(n,ai,ai,.map (some mb)):=(by obtain⟨a1,a2,a3,a4⟩:=x;have:=O.xn;simp only at this x1 x2 x3;rw[this,x1,x2,x3]);refine⟨?_,λ_ _ _=>rfl,aE _,⟨rfl,rfl,rfl⟩,We,.inl Wh,Wk,Wf,VF,VG,VH,c3⟩;rw[<-WA];exact O.y.c);have Ww:=run_eql_map_nil (P:=prog) w2 247 386 180 (some mb) underlying247;clear We Wf Wh Wk VF VG VH x3;go_upto_region 4 with fail
  obtain⟨w3,Wl⟩:∃w3,w3=w2:=⟨_,rfl⟩;rw[<-Wl];have V0:Lk S (k+1) t m n w2 w3 db g c (pre++x::post).length uv pre post A mb ps C:=by grind
  clear PK;have PK:=V0;clear V0 c0 c1 c2 c3 cf Wl
 all_goals
  have V7:eM S (k+1) (some (qt t)) w3.drew E1 eb fe:=VW.O (λb q hl=>PK.k3 b hl (λe=>Vv b q (.inr e)));obtain⟨Wm,Wn,le,WO,VS,Wo⟩:=V7.slot (n:=1) VV;have WB:=uz w3.drew eb Wm Wn le 1 WO VS;obtain⟨D,Vy,hsz,WP⟩:=PK.map;have VA:=Vy.lt;have VK:¬E1 mb:=λq=>PK.hm.elim (λa=>Vv mb q (O.y.yz mb (.inl a))) (λa=>by grind)
  have WC:¬E1 g:=λq=>Vv g q (.inr rfl)
  have VB:=aI Vw PK.s3;have hE3:∀b,E1 b->b<w3.heap.size:=λb q=>aI (Wu b q) PK.s3
  have WD:w3.drew.cell? (aj g (pre.length*4+3))=some (.map (some mb)):=PK.c3
  have WE:Hid (∀(w0:aw) (e:Ending) (w1:aw),Below w3.drew.heap.size w3.drew w0->wJ w0 eb Wm Wn le 1 e w1->∃ge Vs v0 gv lv cc,e= .returned (.pointer (some (aj ge (Vs.length*4))))/\w1.cell? (aj ge ((Vs:List gF).length*4+1))=some (U9 gv (lv+1) cc)/\w1.cell? (aj gv 0)=some (.int .u64 v0.1)/\w1.cell? (aj gv 1)=some (ag v0.2)/\w1.cell? (aj gv 2)=some (ai)/\w1.cell? (aj gv 3)=some (U7)/\
    fQ (mV fe)=qq v0/\eM S (k+1) none w1 (λb=>E1 b\/b=ge) eb fe/\fK w0 E1 w1 (λb=>E1 b\/b=ge)):=by
   intro w0 e w4 hb hq;obtain⟨ge,ce,Vs,x',post',A',B',fp',fq',rfl,O',Vp,hAl',K4,V8⟩:=Wo w0 e w4 hb hq;obtain⟨⟨y2,y3⟩,VJ⟩:=O'.ofVals (.inl Wq);obtain⟨gv,cc,lv,hlv,y1,hAg,hgt,VI⟩:=VJ.resolve_left (λq=>hky q.2);obtain⟨z0,z1,z2,z3,zf⟩:=O'.cells rfl;rw[y1]at z1
   cases lv with
   |nil=>grind
   |cons v0 lv=>
    obtain⟨gv',e,_,_,Vq⟩:=eH VI Vd;cases e;refine⟨ge,Vs,v0,gv,lv.length,cc,rfl,z1,Vq w4 rfl 0 _ rfl,Vq w4 rfl 1 _ rfl,Vq w4 rfl 2 _ rfl,Vq w4 rfl 3 _ rfl,?_,(O'.shut hky).forget,Vp⟩;show((fe.get 1).headD PV.none)=qq v0;grind
  clear Wo V7 VW
  have VL:zU (ko t (fQ (mV fe))):=⟨by
   unfold ko;have:=hkv.lo;simp only
   split<;>omega,by
   unfold ko;have:=hkv.hi;have:=hkv.lo;simp only
   split<;>omega,by have:=hkv.sz;unfold maxLen;show(fQ (mV fe)).2.1.size<=_;omega⟩
  obtain⟨kl,VT⟩:=QI VL;have WF:((m.get n).map λv=>ko t (fQ v)).length<maxLen:=by rw[bN];unfold maxLen;omega
  have VM:Hid (∀(w4 w5 w6:aw) (ge:Nat),eM S (k+1) none w4 (λb=>E1 b\/b=ge) eb fe->fK w3.drew E1 w4 (λb=>E1 b\/b=ge)->ak w4 w5->w6.ownsMap prog 386 gL mb (((m.get n).map λv=>ko t (fQ v)).length+1) (D.put kl (oH (some eb)))->w5.grownBy w6 (some mb)->
    ∃Z',fK w (λb=>Z b\/E b) w6 Z'/\eM S (k+1+1) T w6 Z' db (m.put n (jV t (m.get n) (mV fe)))):=by
   intro w4 w5 w6 ge VU Vp b5 Vr Vu;have V8:=Vp.grow ge (.inr rfl);have Vt:w3.heap.size<=w4.heap.size:=Vp.size;have Vx:∀b,b=ge->E1 b\/w3.heap.size<=b:=λb e=>by rw[e];exact V8
   have WG:mb≠ge:=λe=>(Vx mb e).elim VK (λq=>Vc)
   have VN:=VU.clip
   have VC:∀b,b<w3.heap.size->¬(E1 b\/b=ge)->b≠mb->w6.heap[b]?=w3.heap[b]?:=λb hb q1 q2=>
    ((Vu.block b (aI (aI hb Vt) b5.size) (λe=>q2 (by grind))).J (b5.block b (aI hb Vt))).J (Vp.block b hb (λq=>q1 (.inl q)))
   have WH:eM S (k+1) none w6 (λb=>(E1 b\/b=ge)/\b<w4.heap.size) eb fe:=VN.O λb q hl=>(Vu.block b (aI hl b5.size) (λe=>by
    grind)).J (b5.block b hl)
   have VO:∀b,((E1 b\/b=ge)/\b<w4.heap.size)->¬(Z b\/b=g):=by
    rintro b ⟨q,_⟩ hz;rcases q with q|q;.grind
    .rcases Vx b q with q|q;.grind
     .have:=VX.size;have:=PK.s3;grind
   have VP:¬((E1 mb\/mb=ge)/\mb<w4.heap.size):=λq=>q.1.elim VK WG
   obtain⟨f1,f2⟩:=O.ents (E:=λb=>(E1 b\/b=ge)/\b<w4.heap.size) (w3:=w3) (w6:=w6) PK.dc PK.k3 PK.s3 (λb hb q1 q2=>VC b hb (λq=>q1 ⟨q,aI hb Vt⟩) q2) (aM Vt (aM b5.size Vu.size)) ⟨Vu.os.J (b5.os.J (Vp.os.J PK.os.1)),Vu.tape.J (b5.tape.J (Vp.tape.J PK.os.2.1)),Vu.output.J (b5.output.J (Vp.output.J PK.os.2.2))⟩
    ⟨w3,Vy⟩ hsz WP Vr VT PK.hm PK.mC PK.CA VO VP (λb q=>aI q.2 (aM b5.size Vu.size)) Vr.lt PK.key hkv PK.srt PK.sub WH hok hgl
   refine⟨_,VX.J (f1.less ?_),f2⟩;rintro b (q|⟨q|q,_⟩);.grind
   .grind
   .exact(Vx b q).imp .inr (λq=>aM PK.s3 q)
  have WJ:=λv0:LV=>Ov (v:=v0) (sg:=fi jm t)
  go_region_with
   (first
    |(go_at_call 266;refine WB.V ?_;rintro e w4 WQ;obtain⟨ge,Vs,v0,gv,lv,cc,rfl,z1,d0,d1,d2,d3,Vz,VU,Vp⟩:=WE.o w3.drew e w4 (Below.refl _ _) WQ;have c34:w4.cell? (aj g (pre.length*4+3))=some (.map (some mb)):=(bC (Vp.block g VB WC)).J WD)
    |(go_at_call 267;refine(WJ v0 w4 (by have:=hkv.lo;rw[Vz]at this;exact this) (by have:=hkv.hi;rw[Vz]at this;exact this)).V ?_;rintro e w5 ⟨rfl,b5⟩;obtain⟨w6,hrun6,Vr,Vu⟩:=((kZ Vy ((b5.block mb (aI VA Vp.size)).J (Vp.block mb VA VK))):w5.ownsMap prog 386 gL mb _ D).update FH underlying247 WF (key:=kV (FL (fi jm t) v0)) (val:=ah eb) (by rw[Vz]at VT;exact VT) (lM (some eb));have c35:w5.cell? (aj g (pre.length*4+3))=some (.map (some mb)):=(bC (b5.block g (aI VB Vp.size))).J c34))
  all_goals
   go_end0;exact⟨rfl,VM.o w4 w5 w6 ge VU Vp b5 Vr Vu⟩
end
end Go.Proofs.YtfebdimolnobaaaGreatDoor
