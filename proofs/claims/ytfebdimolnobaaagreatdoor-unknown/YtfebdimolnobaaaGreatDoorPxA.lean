import Derived.Test.YtfebdimolnobaaaGreatDoorBuH
import Derived.Test.YtfebdimolnobaaaGreatDoorDfF
set_option maxRecDepth 100000
set_option maxHeartbeats 8000000
set_option linter.all false
namespace Go.Proofs.YtfebdimolnobaaaGreatDoor
open Go.RowKit Go.Proofs.Tryz
section
variable {b:au} {e a:Nat}
theorem gJ (h:e<=b.size):(b.extract 0 e).size=e:=by(simp;omega)
theorem Ha {k:Nat}(h:e<=b.size)(hk:k<e):fZ (b.extract 0 e) k=fZ b k:=by
 unfold fZ;rw[dif_pos (by(simp;omega)),dif_pos Vc];congr 2;rw[ByteArray.getElem_extract];simp
theorem Hb (h:e<=b.size):∀f i n,mH (b.extract 0 e) a e f i n=mH b a e f i n
 |0,i,n=>rfl
 |f+1,i,n=>by
  unfold mH;by_cases hl:a+i<e;.rw[dP hl,dP hl,Ha h hl,Hb h f]
  grind
theorem wE (h:e<=b.size):iT (b.extract 0 e) a (b.extract 0 e).size=iT b a e:=by
 rw[gJ h];exact Hb h 10 0 0
theorem kI {z k:Nat}(h:e<=b.size)(hk:k<=e):(b.extract 0 e).extract z k=b.extract z k:=by
 apply cN;simp only[cJ];apply Array.ext;.simp;omega
 .intro i h1 h2;simp
theorem sW {k:Nat}(h:e<=b.size):jt (b.extract 0 e) a k=if a+k<=e then .ok (xB (b.extract a (a+k)),a+k)else .error (6,(a:Int)):=by
 unfold jt;rw[gJ h];by_cases hl:a+k<=e;.rw[dP hl,dP hl,kI h hl]
 grind
theorem DH (h:e<=b.size):fk (b.extract 0 e) a=(match iT b a e with| .error x=> .error x| .ok x=>if(x.2:Int)+x.1<=e then .ok (x.2,x.2+x.1.toNat)else .error (6,x.2)):=by
 unfold fk;rw[wE h,gJ h]
 try rfl
theorem Kv (h:e<=b.size):jW (b.extract 0 e) a=(match iT b a e with
  | .error x=> .error x
  | .ok x=>if x.1/8<1\/536870911<x.1/8 then .error (8,a)else if x.1%8=0\/x.1%8=1\/x.1%8=2\/x.1%8=5 then .ok ((x.1/8,x.1%8),x.2)else .error (9,a)):=by
 unfold jW;rw[wE h]
 try rfl
def Ok (s:au)(a:Nat):Fx pK:=
 match jW s a with
 | .error x=> .error x
 | .ok x=>
  if x.1.2=0 then(match iT s x.2 s.size with| .error y=> .error y| .ok y=> .ok ⟨x.1.1,0,a,x.2,y.2,y.1⟩)
  else if x.1.2=1 then(match jt s x.2 8 with| .error y=> .error y| .ok y=> .ok ⟨x.1.1,1,a,x.2,y.2,y.1⟩)
  else if x.1.2=5 then(match jt s x.2 4 with| .error y=> .error y| .ok y=> .ok ⟨x.1.1,5,a,x.2,y.2,y.1⟩)
  else(match fk s x.2 with| .error y=> .error y| .ok y=> .ok ⟨x.1.1,2,a,y.1,y.2,0⟩)
theorem wG (h:e<=b.size):Ok (b.extract 0 e) a=fN b a e:=by
 unfold Ok fN;rw[Kv h]
 cases hv:iT b a e with
 |error x=>rfl
 |ok x=>
  obtain⟨t,fr⟩:=x;simp only;by_cases h1:t/8<1\/536870911<t/8;.rw[dP h1,dP h1]
  .rw[dO h1,dO h1];by_cases k0:t%8=0;.rw[dP (.inl k0),dP k0];simp only;rw[dP k0,wE h];cases iT b fr e<;>rfl
   .by_cases k1:t%8=1;.rw[dP (.inr (.inl k1)),dO k0,dP k1];simp only;rw[dO k0,dP k1,sW h];grind
    .by_cases k5:t%8=5;.rw[dP (.inr (.inr (.inr k5))),dO k0,dO k1,dP k5];simp only;rw[dO k0,dO k1,dP k5,sW h];grind
     .by_cases k2:t%8=2;.rw[dP (.inr (.inr (.inl k2))),dO k0,dO k1,dO k5,dP k2];simp only;rw[dO k0,dO k1,dO k5,DH h];grind
      simp_all
end
section
variable {S:eD} {k db:Nat} {T:Option MT} {w:aw} {Z:ax} {pre post:List gF} {ps1 ps2:aB}
theorem eM.clip {m:PM}(h:eM S k T w Z db m):eM S k T w (λb=>Z b/\b<w.heap.size) db m:=by
 cases k with
 |zero=>exact h
 |succ k=>
  obtain⟨sv,uv,l,Y,hy,hs⟩:=h;exact⟨sv,uv,l,Y,{hy with zd:=⟨hy.zd,hy.c.blk.lt⟩,zs:=λb hb=>⟨hy.zs b hb,(hy.c.row.lt b hb).2⟩,zu:=λb hb=>⟨hy.zu b hb,(hy.un.lt b hb).2⟩,yz:=λb hb=>⟨hy.yz b hb,hy.yl b hb⟩},hs⟩
def Oq (S:eD)(k:Nat)(T:Option MT)(w:aw)(Z:ax)(db p:Nat)(C:ax)(T':Option MT)(M:PM->PM):Prop:=
 (∀b,C b->Z b)/\∀(w':aw) (C':ax) (m':PM),(∀b,Z b->¬C b->b<w.heap.size->w'.heap[b]?=w.heap[b]?)->w.heap.size<=w'.heap.size->(∀b,C' b->C b\/w.heap.size<=b)->eM S k T' w' C' p m'->eM S (k+1) T w' (λb=>Z b\/C' b) db (M m')
structure BU (S:eD)(k:Nat)(T:Option MT)(w:aw)(Z:ax)(db:Nat)(u:au)(n:Int)(pre:List gF)(x:gF)(post:List gF)(sv uv:Value)(A B:ax)(fp fq:List PF)(ps1:aB)(p:Nat)(ps2:aB)(vs1 vs2:List PV)(C D:ax):Prop where
 y:Oo w Z db sv uv u (pre++x::post) (λb=>A b\/B b)
 len:fp.length=pre.length
 sep:jY (gV S (eM S k) w T) B (pre++post) (fp++fq)
 dis:∀b,A b->¬B b
 xn:x.1=n
 c1:x.2.1=ai
 c3:x.2.2.2= .map none
 row:eO w A 180 1 x.2.2.1 (ps1++p::ps2).length ((ps1++p::ps2).map rJ)
 inC:∀b,C b->A b
 inD:∀b,D b->A b
 own:∀b,x.2.2.1.ownBlock=some b->¬C b/\¬D b
 cd:∀b,C b->¬D b
 vl:vs1.length=ps1.length
 sub:jY (λp v C=>v=mV v.2.2/\eM S k (oq S T n) w C p v.2.2) D (ps1++ps2) (vs1++vs2)
 ok:oJ S T n .msgs
 lone:vu T n->(ps1++p::ps2).length=1
 pl:(ps1++p::ps2).length<=1073741824
theorem BU.hole {u:au}{n:Int}{x:gF}{sv uv:Value}{A B:ax}{fp fq:List PF}{p:Nat}{vs1 vs2:List PV}{C D:ax}
  (h:BU S k T w Z db u n pre x post sv uv A B fp fq ps1 p ps2 vs1 vs2 C D):Oq S k T w Z db p C (oq S T n) (λm'=> .mk (fp++(n,vs1++mV m'::vs2)::fq) u):=by
 refine⟨λb hb=>h.y.yz b (.inl (h.inC b hb)),λw' Vv m' hk hsz Vs Vp=> ?_⟩;obtain⟨C',Vt,Vr,Vw,Vx⟩:∃C':ax,eM S k (oq S T n) w' C' p m'/\(∀b,C' b->C b\/w.heap.size<=b)/\(∀b,C' b->b<w'.heap.size)/\∀b,C' b->Vv b:=⟨_,Vp.clip,λb hb=>Vs b hb.1,λb hb=>hb.2,λb hb=>hb.1⟩;refine eM.V (Z:=λb=>Z b\/C' b) ?_ (λb hb=>hb.imp id (Vx b));have hA:∀b,b<w.heap.size->C' b->A b:=λb hb hc=>(Vr b hc).elim (h.inC b) (λq=>Vc)
 have hY:∀b,b<w.heap.size->((A b/\¬C b)\/C' b)\/B b->A b\/B b:=λb hb q=>q.imp (λq=>q.elim (λq=>q.1) (hA b hb)) id
 have Vq:∀b,Z b->b<w.heap.size->¬A b->w'.heap[b]?=w.heap[b]?:=λb hz hb ha=>hk b hz (λq=>ha (h.inC b q)) hb
 have hB:∀b,B b->w'.heap[b]?=w.heap[b]?:=λb hb=>Vq b (h.y.yz b (.inr hb)) (h.y.yl b (.inr hb)) (λq=>h.dis b q hb)
 have hD:∀b,D b->w'.heap[b]?=w.heap[b]?:=λb hb=>hk b (h.y.yz b (.inl (h.inD b hb))) (λq=>h.cd b q hb) (h.y.yl b (.inl (h.inD b hb)))
 have Vu:=h.y.c.blk.lt
 refine⟨sv,uv,pre++x::post,λb=>((A b/\¬C b)\/C' b)\/B b,⟨⟨h.y.c.O (Vq db h.y.zd Vu λq=>h.y.yd (.inl q)) (λb hb=>Vq b (h.y.zs b hb) (h.y.c.row.lt b hb).2 λq=>h.y.ys b hb (.inl q)),ew h.y.un (λb hb=>Vq b (h.y.zu b hb) (h.y.un.lt b hb).2 λq=>h.y.yu b hb (.inl q)),
  .inl h.y.zd,λb hb=> .inl (h.y.zs b hb),λb hb=> .inl (h.y.zu b hb),h.y.su,h.y.ud⟩,?_,?_,λq=>h.y.yd (hY db Vu q),λb hb q=>h.y.ys b hb (hY b (h.y.c.row.lt b hb).2 q),λb hb q=>h.y.yu b hb (hY b (h.y.un.lt b hb).2 q)⟩,?_⟩
 .rintro b ((q|q)|q);.exact .inl (h.y.yz b (.inl q.1))
  .exact .inr q
  .exact .inl (h.y.yz b (.inr q))
 .rintro b ((q|q)|q);.exact aI (h.y.yl b (.inl q.1)) hsz
  .exact Vw b q
  .exact aI (h.y.yl b (.inr q)) hsz
 .refine jY.join (A:=λb=>(A b/\¬C b)\/C' b) (B:=B) h.len ?_ ?_ (λb q=> .inl q) (λb q=> .inr q) ?_
  .refine⟨h.xn,?_⟩;rw[h.xn];refine .inr (.inl ⟨h.ok,ps1++p::ps2,λb=>D b\/C' b,⟨Vd,h.lone,h.c1,h.c3,⟨ew h.row.1 λb hb=>hk b (h.y.yz b (.inl (h.row.2 b hb))) (h.own b hb).1 (h.row.1.lt b hb).2,λb hb=> .inl ⟨h.row.2 b hb,(h.own b hb).1⟩⟩,?_,?_,?_,h.pl⟩⟩)
   .rintro b (q|q);.exact .inl ⟨h.inD b q,λc=>h.cd b c q⟩
    .exact .inr q
   .rintro b hb (q|q);.exact(h.own b hb).2 q
    .exact(Vr b q).elim (h.own b hb).1 (λe=>by have:=(h.row.1.lt b hb).2;omega)
   .refine jY.join (A:=C') (B:=D) h.vl ⟨rfl,Vt⟩ (h.sub.imp λq v E _ _ hE hq=>⟨hq.1,hq.2.O λb hb _=>hD b (hE b hb)⟩) (λb q=> .inr q) (λb q=> .inl q) ?_;intro b hc hd;exact(Vr b hc).elim (λc=>h.cd b c hd) (λe=>by have:=h.y.yl b (.inl (h.inD b hd));omega)
  .exact h.sep.imp λy f E _ _ hE hs=>hs.O (λ_ _ _ _ hF hr=>hr.O λb hb _=>hB b (hE b (hF b hb))) (λb hb _=>hB b (hE b hb))
  .rintro b (q|q) hb;.exact h.dis b q.1 hb
   .exact(Vr b q).elim (λc=>h.dis b (h.inC b c) hb) (λe=>by have:=h.y.yl b (.inr hb);omega)
end
section
open Vo
section
variable {S:eD} {k db g:Nat} {T:Option MT} {w w1:aw} {m:PM} {n:Int} {Z1:ax} {pre post:List gF} {x:gF} {uv:Value}
theorem eM.fresh {b:Nat}(h:dX w b #[ai,ai] 183):eM S (k+1) T w (λx=>x=b) b PM.none:=
 ⟨ai,ai,[],λ_=>False,⟨⟨⟨h,br _ _ _ _,Vd,List.Pairwise.nil,by simp[Value.ownBlock],Vd⟩,br _ _ _ _,rfl,by simp[Value.ownBlock],by simp[Value.ownBlock],by simp[Value.ownBlock],by simp[Value.ownBlock]⟩,λ_ q=>q.elim,λ_ q=>q.elim,λq=>q,λ_ _ q=>q,λ_ _ q=>q⟩,trivial⟩
def FD (S:eD)(k:Nat)(T:Option MT)(w:aw)(Z:ax)(db:Nat)(m:PM)(n:Int):Prop:=
 ∃sv uv l,DN w db sv uv l/\l.length<1073741824/\∀w0 e w1,ak w w0->wJ w0 db sv uv l n e w1->
  ∃g c pre x post A B fp fq,e= .returned (.pointer (some (aj g (pre.length*4))))/\wM S k T w1 (λb=>Z b\/b=g) db m n g pre x post (.slice (some (aj g 0)) (pre++x::post).length c) uv A B fp fq/\fK w0 Z w1 (λb=>Z b\/b=g)/\(∀b,A b->b<w.heap.size)/\ec (db::sv.ownBlock.toList) w0 w1/\(sv.ownBlock=some g\/w0.heap.size<=g)
theorem eM.slot {Z:ax}(h:eM S (k+1) T w Z db m)(hl:m.fs.length<1073741824):FD S k T w Z db m n:=by
 obtain⟨sv,uv,l,Y,hy,hs⟩:=h;refine⟨sv,uv,l,hy.c,by rw[hs.len];exact hl,λw0 e w1 hb hR=> ?_⟩;have⟨g,c,pre,x,post,A,B,fp,fq,h1,O,st,Wh,K⟩:=qr (hy.O λb _ q=>hb.block b q) (nx hs λb _ q=>hb.block b q) hR;have hg:sv.ownBlock=some g\/w0.heap.size<=g:=(by obtain⟨g',_,pre',_,_,rfl,_,_,_,_,hg⟩:=hR;grind);exact⟨g,c,pre,x,post,A,B,fp,fq,h1,O,st,λb q=>hy.yl b (Wh b q),K,hg⟩
theorem wM.ofMsgs {sv:Value}{A B:ax}{fp fq:List PF}
  (h:wM S k T w1 Z1 db m n g pre x post sv uv A B fp fq) (hkd:∀kd,oJ S T n kd->kd= .msgs):
  (x.2.1=ai/\x.2.2.2= .map none)/\∃ps D,eO w1 A 180 1 x.2.2.1 ps.length (ps.map rJ)/\(∀b,D b->A b)/\(∀b,x.2.2.1.ownBlock=some b->¬D b)/\jY (λp v C=>v=mV v.2.2/\eM S k (oq S T n) w1 C p v.2.2) D ps (m.get n)/\(vu T n->ps.length<=1)/\(ps= []->x=(n,ai,ai,.map none)):=by
 rcases h.was with⟨old,e,hs⟩|⟨e,rfl,hA⟩
 .obtain⟨h1,h2⟩:=hs;have VW:m.get n=old:=(by unfold PM.get;rw[e];exact qZ n old fq fp h.lo);rw[h.xn]at h2;rcases h2 with⟨q,_⟩|⟨_,ps,B,hv⟩|⟨t,q,_⟩;.grind
  .exact⟨⟨hv.c1,hv.c3⟩,ps,B,hv.row,hv.inA,hv.own,by rw[VW];exact hv.sub,λq=>by rw[hv.lone q];omega,λq=>absurd q hv.ne⟩
  grind
 .refine⟨⟨rfl,rfl⟩,[],λ_=>False,eO.nil _ _ _ _,λ_ q=>q.elim,λ_ _ q=>q,?_,λ_=>Vd,λ_=>rfl⟩
  have:m.get n= []:=by
   unfold PM.get;rw[e];refine nV n _ λf hf=> ?_
   rcases aW.1 hf with hf|hf;.have:=h.lo f hf;omega
   .have:=h.hi f hf;omega
  rw[this];trivial
def tm (S:eD)(k:Nat)(T:Option MT)(w:aw)(Z:ax)(db:Nat)(T':Option MT)(m0:PM)(M:PM->PM)(e:Ending)(w':aw):Prop:=
 ∃p Z' C,e= .returned (ah p)/\fK w Z w' Z'/\eM S k T' w' C p m0/\Oq S k T w' Z' db p C T' M/\∀b,C b->b<w'.heap.size
theorem wM.addMsg {c:Nat}{A B:ax}{fp fq:List PF}
  (h:wM S (k+1) T w1 Z1 db m n g pre x post (.slice (some (aj g 0)) (pre++x::post).length c) uv A B fp fq) {w' w9:aw} {gg cap N wb:Nat} {ps:aB} {D:ax} {cs:ay}
  (x1:x.2.1=ai) (x3:x.2.2.2= .map none) (Vp:eO w1 A 180 1 x.2.2.1 ps.length (ps.map rJ)) (VE:∀b,D b->A b) (VV:∀b,x.2.2.1.ownBlock=some b->¬D b) (Vq:jY (λp v C=>v=mV v.2.2/\eM S (k+1) (oq S T n) w1 C p v.2.2) D ps (m.get n))
  (hB:ak w1 w') (hgrow:w'.grownBy w9 x.2.2.1.ownBlock) (Vr:w9.ownsRow 0 180 1 (U9 gg N cap) N cs) (hN:N=ps.length+1) (VP:cs=ps.map rJ++ [rJ wb]) (VG:x.2.2.1.ownBlock=some gg\/w1.heap.size<=gg)
  (Kb:dX w1 wb #[ai,ai] 183) (hwZ:¬Z1 wb) (hok:oJ S T n .msgs) (hln:vu T n->ps.length=0) (VT:ps.length<1073741824):
  fK w1 Z1 (w9.setCell (aj g (pre.length*4+2)) (U9 gg N cap)) (λb=>Z1 b\/b=gg)/\eM S (k+1) (oq S T n) (w9.setCell (aj g (pre.length*4+2)) (U9 gg N cap)) (λb=>b=wb) wb PM.none/\
   Oq S (k+1) T (w9.setCell (aj g (pre.length*4+2)) (U9 gg N cap)) (λb=>(Z1 b\/b=gg)\/b=wb) db wb (λb=>b=wb) (oq S T n) (λm'=>m.put n (m.get n++ [mV m'])):=by
 subst hN VP;have VC:=(h.y.c.row.lt g h.own).2;have VH:=h.y.c.blk.lt;have Vw:∀b,b<w1.heap.size->x.2.2.1.ownBlock≠some b->w9.heap[b]?=w1.heap[b]?:=λb hb ha=>(hgrow.block b (aI hb hB.size) (λe=>ha e.sy)).J (hB.block b hb)
 have VR:∀b,b<w1.heap.size->¬A b->w9.heap[b]?=w1.heap[b]?:=λb hb ha=>Vw b hb (λe=>ha (Vp.2 b e))
 have VX:¬A g:=λha=>h.y.ys g h.own (.inl ha)
 have VY:¬A db:=λha=>h.y.yd (.inl ha)
 have VI:gg<w9.heap.size:=(Vr.lt gg rfl).2;have Vv:gg<w1.heap.size->A gg:=λq=>VG.elim (Vp.2 gg) (λe=>Vc)
 have VJ:gg≠g:=λe=>VX (e▸Vv (e▸VC))
 have VZ:=Kb.lt;have V0:wb≠g:=λe=>hwZ (by rw[e];exact h.y.zs g h.own)
 have V7:¬A wb:=λq=>hwZ (h.y.yz wb (.inl q))
 have Vx:∀b,b≠g->(w9.setCell (aj g (pre.length*4+2)) (U9 gg (ps.length+1) cap)).heap[b]?=w9.heap[b]?:=λb q=>by rw[dW,dO (λe=>q e.sy)]
 have V8:=h.y.c.O (w':=w9) (VR db VH VY) (λb hb=>by
  have:g=b:=by simpa [Value.ownBlock]using hb
  grind)
 have VK:=V8.put (j:=2) Vc (v:= U9 gg (ps.length+1) cap) (x':=(x.1,ai,U9 gg (ps.length+1) cap,.map none)) rfl ⟨⟨_,_,_,rfl⟩,⟨_,_,_,rfl⟩,_,rfl⟩ (by simp[et,x1,x3]);have hsz:w1.heap.size<=(w9.setCell (aj g (pre.length*4+2)) (U9 gg (ps.length+1) cap)).heap.size:=by simpa using aM hB.size hgrow.size
 have VL:(w9.setCell (aj g (pre.length*4+2)) (U9 gg (ps.length+1) cap)).heap.size=w9.heap.size:=Vd;have hown10:(w9.setCell (aj g (pre.length*4+2)) (U9 gg (ps.length+1) cap)).ownsRow 0 180 1 (U9 gg (ps.length+1) cap) (ps.length+1) (ps.map rJ++ [rJ wb]):=ew Vr λb hb=>Vx b (λe=>VJ ((show gg=b by simpa [Value.ownBlock]using hb).J e))
 have Vt:∀b,b<w1.heap.size->b≠g->¬A b->(w9.setCell (aj g (pre.length*4+2)) (U9 gg (ps.length+1) cap)).heap[b]?=w1.heap[b]?:=λb hb q ha=>(Vx b q).J (VR b hb ha)
 have V9:∀b,D b->(w9.setCell (aj g (pre.length*4+2)) (U9 gg (ps.length+1) cap)).heap[b]?=w1.heap[b]?:=λb hb=>by
  have hA:=VE b hb;have hl:=h.y.yl b (.inl hA);grind
 have VM:=(Vt wb VZ V0 V7).J Kb;have Wb:=hgrow.os.J hB.os;have Wd:=hgrow.tape.J hB.tape;have We:=hgrow.output.J hB.output;clear Vr hgrow hB;have Vy:(w9.setCell (aj g (pre.length*4+2)) (U9 gg (ps.length+1) cap)).os=w1.os:=Wb;have Vz:(w9.setCell (aj g (pre.length*4+2)) (U9 gg (ps.length+1) cap)).tape=w1.tape:=Wd;have VA:(w9.setCell (aj g (pre.length*4+2)) (U9 gg (ps.length+1) cap)).output=w1.output:=We;rw[<-VL]at VI;generalize w9.setCell (aj g (pre.length*4+2)) (U9 gg (ps.length+1) cap)=w10 at*;refine⟨⟨Vy,Vz,VA,hsz,λb hb hz=>Vt b hb (λe=>hz (e▸h.y.zs g h.own)) (λha=>hz (h.y.yz b (.inl ha))),?_⟩,eM.fresh VM,?_⟩
 .rintro b (hb|rfl);.grind
  .by_cases q:b<w1.heap.size;.exact .inl (h.y.yz b (.inl (Vv q)))
   omega
 .have hM:(λm'=>m.put n (m.get n++ [mV m']))=λm'=>PM.mk (fp++(n,m.get n++mV m':: [])::fq) m.unk:=funext λm'=>h.put Vd
  rw[hM];have VD:∀b,(A b\/b=gg)\/b=wb->b<w1.heap.size->A b\/b=wb:=λb q hb=>q.imp (λq=>q.elim id (λe=>e▸Vv (e▸hb))) id
  refine BU.hole (pre:=pre) (x:=(x.1,ai,U9 gg (ps.length+1) cap,.map none)) (post:=post) (sv:= .slice (some (aj g 0)) (pre++x::post).length c) (uv:=uv) (A:=λb=>(A b\/b=gg)\/b=wb) (B:=B) (ps1:=ps) (ps2:= []) (D:=D)
   ⟨⟨⟨VK,?_,.inl (.inl h.y.zd),λb hb=> .inl (.inl (h.y.zs b hb)),λb hb=> .inl (.inl (h.y.zu b hb)),h.y.su,h.y.ud⟩,?_,?_,?_,?_,?_⟩,h.len,?_,?_,h.xn,rfl,rfl,⟨?_,?_⟩,λb q=> .inr q,λb q=> .inl (.inl (VE b q)),?_,?_,Vq.len.sy,?_,hok,?_,by grind⟩
  .exact ew h.y.un λb hb=>Vt b (h.y.un.lt b hb).2 (λe=>h.y.su g h.own (e▸hb)) (λha=>h.y.yu b hb (.inl ha))
  .rintro b (((hb|hb)|hb)|hb);.exact .inl (.inl (h.y.yz b (.inl hb)))
   .omega
   .omega
   .exact .inl (.inl (h.y.yz b (.inr hb)))
  .rintro b (((hb|rfl)|rfl)|hb);.exact aI (h.y.yl b (.inl hb)) hsz
   .omega
   .omega
   .exact aI (h.y.yl b (.inr hb)) hsz
  .rintro(hb|hb)
   .rcases VD db hb VH with q|q;.grind
    .exact hwZ (q▸h.y.zd)
   .exact h.y.yd (.inr hb)
  .rintro b hs (hb|hb)
   .rcases VD b hb (h.y.c.row.lt b hs).2 with q|q;.exact h.y.ys b hs (.inl q)
    .exact hwZ (q▸h.y.zs b hs)
   .exact h.y.ys b hs (.inr hb)
  .rintro b hs (hb|hb)
   .rcases VD b hb (h.y.un.lt b hs).2 with q|q;.exact h.y.yu b hs (.inl q)
    .exact hwZ (q▸h.y.zu b hs)
   .exact h.y.yu b hs (.inr hb)
  .have VS:∀b,B b->w10.heap[b]?=w1.heap[b]?:=λb hb=>Vt b (h.y.yl b (.inr hb)) (λe=>h.y.ys g h.own (.inr (e▸hb))) (λha=>h.dis b ha hb)
   exact h.sep.imp λy f C _ _ hC hs=>hs.O (λ_ _ _ _ hD hr=>hr.O λb hb _=>VS b (hC b (hD b hb))) (λb hb _=>VS b (hC b hb))
  .intro b q hb;rcases VD b q (h.y.yl b (.inr hb))with q|q;.exact h.dis b q hb
   .exact hwZ (q▸h.y.yz b (.inr hb))
  .grind
  .intro b hb;have:gg=b:=by simpa [Value.ownBlock]using hb
   omega
  .intro b hb;have e:gg=b:=by simpa [Value.ownBlock]using hb
   grind
  .grind
  .rw[bW,bW];exact Vq.imp λp v C _ _ hC hp=>⟨hp.1,hp.2.O λb hb _=>V9 b (hC b hb)⟩
  grind
theorem QF:(prog.info? 180).map (λi=>(i.zero,i.size,i.bytes))=some (some (.pointer none),1,8):=Vh
theorem ot (S:eD)(k:Nat)(T:Option MT)(w:aw)(Z:ax)(db:Nat)(m:PM)(n:Int)(h:FD S (k+1) T w Z db m n)(hok:oJ S T n .msgs)(hkd:∀kd,oJ S T n kd->kd= .msgs)(hln:vu T n->m.get n= [])(hvl:(m.get n).length<1073741824)(hZ:¬Z w.heap.size):
  Calls prog 190 #[ah db,aa n] w (tm S (k+1) T w Z db (oq S T n) PM.none (λm'=>m.put n (m.get n++ [mV m']))):=by
 have⟨i0,Wk,Wl,Wm,Wn⟩:=info_parts QF;obtain⟨sv,uv,l,hc,hl,hR⟩:=h;have⟨B0,KB⟩:=d8 w #[ai,ai] 183;have hS:=uz _ db sv uv l n (hc.G B0) hl;have VH:=hc.blk.lt;have hsl:=hc.row.lt;go_in
 go_wp2_with fail;generalize w.alloc (am #[ai,ai] 183)=w0 at*;refine hS.V ?_;rintro e w1 VU;obtain⟨g,c,pre,x,post,A,B,fp,fq,rfl,O,st,hAl,K,hg⟩:=hR w0 _ w1 B0 VU;clear VU hR hS;have hw0:=KB.lt
 have Wf:=KB.kept K (by
  grind)
 have⟨⟨x1,x3⟩,ps,D,Vp,VE,VV,Vq,hlo,_⟩:=O.ofMsgs hkd;have⟨c0,c1,c2,c3,cf⟩:=O.cells rfl;have⟨xa,xn,xc,VO⟩:=d5 Vp.1;have VT:ps.length<1073741824:=by have:=Vq.len;omega
 have Vu:=Vp.1;rw[VO]at c2 Vu;have VN:vu T n->ps.length=0:=λq=>by rw[Vq.len,hln q];rfl
 have HF:Hid (∀(w' w9:aw) (gg cap N:Nat) (cs:ay),ak w1 w'->w'.grownBy w9 (Value.slice xa xn xc).ownBlock->w9.ownsRow 0 180 1 (U9 gg N cap) N cs->N=ps.length+1->cs=ps.map rJ++ [rJ w.heap.size]->((Value.slice xa xn xc).ownBlock=some gg\/w1.heap.size<=gg)->
   tm S (k+1) T w Z db (oq S T n) PM.none (λm'=>m.put n (m.get n++ [mV m'])) (.returned (ah w.heap.size)) (w9.setCell (aj g (pre.length*4+2)) (U9 gg N cap))):=by
  intro w' w9 gg cap N cs hB VF Vr hN VP VG;rw[<-VO]at VF VG
  have⟨h1,h2,h3⟩:=O.addMsg x1 x3 Vp VE VV Vq hB VF Vr hN VP VG Wf (by
   grind) hok VN VT
  refine⟨_,_,_,rfl,?_,h2,h3,λb q=>by rw[q];exact h2.lt.1⟩;have s0:fK w Z w0 Z:=(fK.refl w Z).G B0;have s1:=(s0.J st).J h1;exact⟨s1.os,s1.tape,s1.output,s1.size,s1.block,λb hb=>hb.elim (s1.grow b) (λe=> .inr Vc)⟩
 have HC:Hid (∀(w' w9:aw),ak w1 w'->w'.grownBy w9 (Value.slice xa xn xc).ownBlock->w9.heap[g]?=w1.heap[g]?):=λw' w9 hB VF=>by
  have VC:=(O.y.c.row.lt g rfl).2;exact(VF.block g (aI VC hB.size) (λe=>O.y.ys g rfl (.inl (Vp.2 g (by grind))))).J (hB.block g VC)
 have BB:ak w1 (w1.U5 #[ah w.heap.size] 180):=(Below.refl _ _).alloc (aE _) _;clear c0 c1 c3 x1 x3 VO Vp hkd;go_wp2_with (at_builtin;refine wpList_append_lies _ rfl _ _ 245 rfl 0 180 i0 _ 1 8 underlying245 Wk Wl Wm Wn rfl Vc (.slice xa xn xc) ps.length (ps.map rJ) rfl (Vu.alloc _) (aj w1.heap.size 0) 1 1 [_] rfl rfl (bz (t:=180) (fr:=(0,0)) (heap_alloc_new w1 _)) Vk Vc Vj Vc Vc _ rfl ?_;intro gg cap w9 VB Vs VQ hlt9;have⟨z0,z1,z2,z3,zf⟩:=O.cells (HC.o _ w9 BB Vs))
 go_ret;exact HF.o _ w9 gg cap _ _ BB Vs VB rfl rfl (VQ.imp id (λe=>by rw[e];exact BB.size))
end
section
variable (w:World) {α:Type} {j g c i:Nat} {ns:List Int} {l:List gF} {x:gF} {wr w2:World} {row:Option Nat}
def Lc (l:List gF)(ns:List Int)(e:Ending):Prop:=
 (e= .returned (.int .i64 (-1))/\∀x∈l,x.1∉ns)\/∃i:Nat,e= .returned (.int .i64 i)/\i<l.length/\(∀k x,l[k]?=some x->k<i->x.1∉ns)/\∀x,l[i]?=some x->x.1∈ns
theorem Ld (v:Value)(l:List gF)(nb:Nat)(nv:Value)(ns:List Int)(hrow:w.ownsRow 0 249 4 v l.length (l.flatMap et))(h1:∀x∈l,x.2.1.oneCell'=true/\x.2.2.1.oneCell'=true/\x.2.2.2.oneCell'=true)(hl:l.length<=1073741824)
  (hb:dX w nb #[nv] 35) (hnr:w.ownsRow 0 3 1 nv ns.length (gB ns)) (hnl:ns.length<=1073741824):
  Calls prog 344 #[v,xY nb] w λe w'=>Lc l ns e/\Below w.heap.size w w':=by
 obtain⟨a,c,rfl⟩:=iz hrow;have HG:Hid (∀(i:Nat) (x:gF),l[i]?=some x->∃g,a=some ⟨g,0,none⟩/\g<w.heap.size/\∀w':World,w'.heap[g]?=w.heap[g]?->w'.cell? ⟨g,i*4,none⟩=some (.int .i64 x.1)/\w'.cell? ⟨g,i*4+1,none⟩=some x.2.1/\w'.cell? ⟨g,i*4+2,none⟩=some x.2.2.1/\w'.cell? ⟨g,i*4+3,none⟩=some x.2.2.2):=λi x hx=>sj hrow hx
 have HN:Hid (∀(wr:World) (x:gF),Below w.heap.size w wr->U8 264 #[.agg #[.int .i64 x.1,x.2.1,x.2.2.1,x.2.2.2],.pointer (some ⟨nb,0,none⟩)] wr λe w'=>e= .returned (.bool (decide (x.1∈ns)))/\Below wr.heap.size wr w'):=λwr x hB=>Lb wr nb nv ns x ((hB.block nb hb.lt).J hb) (ew hnr λb e=>hB.block b (hnr.lt b e).2) hnl
 clear hrow;unfold xY;go_in
 go_wp2;go_loopw [8] (λiv wr=>∃(i:Nat),i<=l.length/\iv= .int .i64 i/\Hid (∀(k:Nat) (x:gF),l[k]?=some x->k<i->x.1∉ns)/\Below w.heap.size w wr) (λiv _=>((l.length:Int)-(intOf iv)).toNat)
 case atStart=>exact⟨0,aP _,rfl,(λk x _ h=>Vc),Below.refl _ _⟩
 case round=>
  obtain⟨i,VB,rfl,H1,CW⟩:=hrel;by_cases hlt:i<l.length
  .have⟨x,hx⟩:=gx hlt;obtain⟨g,rfl,Vv,VC⟩:=HG.o i x hx;have⟨c0,c1,c2,c3⟩:=VC wr (CW.block g Vv);have⟨o1,o2,o3⟩:=h1 x (aL hx);clear VC;have HX:Hid (l[i]?=some x):=hx;have hD:=HN.o wr x CW;have VD:IntKind.i64.wrap ((i:Int)+1)=(i:Int)+1:=by rw[IntKind.wrap_i64];omega
   by_cases hxt:x.1∈ns;.have hd:decide (x.1∈ns)=true:=decide_eq_true hxt;rw[hd]at hD;have Vs:Hid (x.1∈ns):=hxt;clear hx HG hxt hd;go_wp2_with fail;refine hD.V ?_;rintro e w2 ⟨rfl,b2⟩;go_wp2;go_ret;exact⟨.inr ⟨i,rfl,hlt,H1.o,λy hy=>by rw[HX.o]at hy;rw[<-Option.some.inj hy];exact Vs.o⟩,eQ CW b2⟩
   .have hd:decide (x.1∈ns)=false:=decide_eq_false hxt;rw[hd]at hD;have Vs:Hid (x.1∉ns):=hxt;clear hx HG hxt hd;go_wp2_with fail;refine hD.V ?_;rintro e w2 ⟨rfl,b2⟩;go_wp2;go_roundw
    case rel=>exact⟨i+1,Vc,rfl,(λk y hy hk=>by
     by_cases e:k=i;.subst e;rw[HX.o]at hy;rw[<-Option.some.inj hy];exact Vs.o
     .exact H1.o k y hy Vc),eQ CW b2⟩
    case measure=>simp[intOf];omega
  .obtain rfl:i=l.length:=Vc;clear HG HN;go_wp2;go_ret;refine⟨.inl ⟨rfl,λx hx=> ?_⟩,CW⟩;have⟨k,hk⟩:=bY.1 hx;have VE:=gl hk;exact H1.o k x hk VE
theorem Tx (A R:List Value)(m0 m1 m2 m3 a b c d:Value)(k:Nat)(hk:A.length=k):((((A++m0::m1::m2::m3::R).set k a).set (k+1) b).set (k+2) c).set (k+3) d=A++a::b::c::d::R:=by
 subst hk;simp
def ny (n:Nat):List Value:=(Builtin.zeroCells #[.int .i64 0,.slice none 0 0,.slice none 0 0,.map none] n).toList
theorem vQ (ty:TypeId)(g o n c:Nat)(Vp:Array Value)(hn:0<n)(hg:w.heap[g]?=some (.cells Vp 249 (0,0)))(hfit:o+n*4<=Vp.size):
  (Builtin.clear_ #[181] ty #[.slice (some ⟨g,o,none⟩) n c]).run prog w= .ok (.tuple #[]) (w.setRow g (Vp.toList.take o++ny n++Vp.toList.drop (o+n*4)).toArray):=by
 have VA:(ny n).length=n*4:=by simp[ny,Builtin.zeroCells]
 have h1:∀v∈ny n,v.oneCell'=true:=by
  intro v hv;simp[ny,Builtin.zeroCells]at hv;obtain⟨i,_,rfl⟩:=hv;have:i%4<4:=Nat.mod_lt _ Vc;generalize i%4=q at this
  match q,this with
  |0,_=>rfl
  |1,_=>rfl
  |2,_=>rfl
  |3,_=>rfl
 have Vx:=run_storeCells_at prog g o 249 (ny n) 0 Vp w hg Vc h1;rw[VA]at Vx;have hu:prog.underlying 181=some (.slice 249):=underlying181;obtain⟨m,rfl⟩:∃m,n=m+1:=⟨n-1,Vc⟩;unfold ny at Vx;simp[Builtin.clear_,run_underlying hu,zeroValue249,Value.cells,Vx,ny]
def xZ (ns:List Int)(x:gF):Bool:=decide (x.1∉ns)
def kt (ns:List Int)(l:List gF):List gF:=l.filter (xZ ns)
theorem Az {l:List α}{x:α}(h:l[j]?=some x):l.take (j+1)=l.take j++ [x]:=by
 rw[bT,h];rfl
theorem wN {l:List α}{x:α}(h:l[j]?=some x):l.drop j=x::l.drop (j+1):=by
 obtain⟨hh,rfl⟩:=bn.1 h;exact(be hh)
theorem mA (h:l[j]?=some x)(hx:x.1∈ns):kt ns (l.take (j+1))=kt ns (l.take j):=by
 unfold kt;rw[Az h,cL];simp[xZ,hx]
theorem oL (h:l[j]?=some x)(hx:x.1∉ns):kt ns (l.take (j+1))=kt ns (l.take j)++ [x]:=by
 unfold kt;rw[Az h,cL];simp[xZ,hx]
theorem AB (h:∀x∈l,x.1∉ns):kt ns l=l:=cZ.2 (λx hx=>by simp[xZ,h x hx])
theorem Lf:(kt ns l).length<=l.length:=bZ _ _
theorem oM (l:List gF):(l.flatMap et).length=l.length*4:=by
 induction l with
 |nil=>rfl
 |cons x l ih=>rw[bt,aN,ih,gw,bw];omega
def QG (w:World)(v:Value)(l:List gF)(ns:List Int)(e:Ending)(w':World):Prop:=
 ∃v',e= .returned v'/\v'.ownBlock=v.ownBlock/\w'.ownsRow 0 249 4 v' (kt ns l).length ((kt ns l).flatMap et)/\w.grownBy w' v.ownBlock
def nA (w:World)(g c:Nat)(l:List gF)(ns:List Int)(i j:Nat)(wr:World):Prop:=
 i=(kt ns (l.take j)).length/\i<j/\∃M,M.length=(j-i)*4/\wr.ownsRow 0 249 4 (.slice (some ⟨g,0,none⟩) l.length c) l.length ((kt ns (l.take j)).flatMap et++M++(l.drop j).flatMap et)/\w.grownBy wr (some g)
theorem nA.cells {w:World}(h:nA w g c l ns i j wr)(hx:l[j]?=some x):
  wr.cell? ⟨g,j*4,none⟩=some (.int .i64 x.1)/\wr.cell? ⟨g,j*4+1,none⟩=some x.2.1/\wr.cell? ⟨g,j*4+2,none⟩=some x.2.2.1/\wr.cell? ⟨g,j*4+3,none⟩=some x.2.2.2/\g<wr.heap.size:=by
 obtain⟨h1,h2,M,h3,h4,h5⟩:=h;have Vy:=gl hx;have⟨g',hg,_,Vv,Vq⟩:=eH h4 Vc;cases hg;have hA:((kt ns (l.take j)).flatMap et++M).length=j*4:=by rw[aN,oM,<-h1,h3];omega
 rw[wN hx]at Vq
 have hf:∀q u,(et x)[q]?=some u->wr.cell? ⟨g,j*4+q,none⟩=some u:=λq u hq=>by
  refine Vq wr rfl _ u ?_;have VF:q<(et x).length:=(by grind);rw[cj Vc,hA,Nat.add_sub_cancel_left,bt,cA VF];exact hq
 exact⟨hf 0 _ rfl,hf 1 _ rfl,hf 2 _ rfl,hf 3 _ rfl,Vv⟩
theorem lT {w w':World}(h:w.grownBy w' row)(o:Obj):w.grownBy (w'.alloc o) row:=
 ⟨h.os,h.tape,h.output,aM h.size Vd,λk hk Vt=>(Below.l w' o k (aI hk h.size)).J (h.block k hk Vt)⟩
theorem rR {w w':World}(h:w.grownBy w' row)(hb:Below w'.heap.size w' w2):w.grownBy w2 row:=
 ⟨hb.os.J h.os,hb.tape.J h.tape,hb.output.J h.output,aM h.size hb.size,λk hk Vt=>(hb.block k (aI hk h.size)).J (h.block k hk Vt)⟩
theorem kJ {w w':World}(h:w.grownBy w' (some g))(o:Nat)(v:Value):w.grownBy (w'.setCell ⟨g,o,none⟩ v) (some g):=
 ⟨h.os,h.tape,h.output,by simpa using h.size,λk hk Vt=>by
  rw[dW,dO (λe=>Vt (by rw[e]))]
  exact h.block k hk Vt⟩
theorem nA.room {w:World}(h:nA w g c l ns i j wr)(hj:j<=l.length)(hb:Below wr.heap.size wr w2):
  ∃u0 u1 u2 u3,w2.cell? ⟨g,i*4,none⟩=some u0/\w2.cell? ⟨g,i*4+1,none⟩=some u1/\w2.cell? ⟨g,i*4+2,none⟩=some u2/\w2.cell? ⟨g,i*4+3,none⟩=some u3/\∀o,w2.frozen? ⟨g,o,none⟩=false:=by
 obtain⟨h1,h2,M,h3,h4,h5⟩:=h;rcases h4.2 with⟨q,_⟩|⟨g',cap,Vp,q,q1,q2,q3,q4,q5,q6⟩;.cases q
 .cases q;have VG:dX w2 g Vp 249:=(hb.block g (dX.lt q2)).J q2;have⟨y1,y2⟩:=VG.I;grind
theorem nA.gone {w:World}(h:nA w g c l ns i j wr)(hx:l[j]?=some x)(hn:x.1∈ns)(hb:Below wr.heap.size wr w2):nA w g c l ns i (j+1) w2:=by
 obtain⟨h1,h2,M,h3,h4,h5⟩:=h;refine⟨by rw[mA hx hn];exact h1,Vc,M++et x,by rw[aN,h3,gw];omega,?_,rR h5 hb⟩;rw[mA hx hn];rw[wN hx,bt]at h4;refine ew ?_ (λb Vz=>hb.block b (h4.lt b Vz).2);grind
theorem nA.stays {w:World}(h:nA w g c l ns i j wr)(hx:l[j]?=some x)(hn:x.1∉ns)(hb:Below wr.heap.size wr w2):
  nA w g c l ns (i+1) (j+1) ((((w2.setCell ⟨g,i*4,none⟩ (.int .i64 x.1)).setCell ⟨g,i*4+1,none⟩ x.2.1).setCell ⟨g,i*4+2,none⟩ x.2.2.1).setCell ⟨g,i*4+3,none⟩ x.2.2.2):=by
 obtain⟨h1,h2,M,h3,h4,h5⟩:=h;have Vy:=gl hx;have h6:=ew h4 (λb Vz=>hb.block b (h4.lt b Vz).2);rw[wN hx,bt]at h6
 obtain⟨m0,m1,m2,m3,R,hR⟩:∃m0 m1 m2 m3 R,M++et x=m0::m1::m2::m3::R:=by
  have:4<=M.length:=Vc
  match M,this with
  |m0::m1::m2::m3::R,_=>grind
 have hRl:R.length=(j-i)*4:=(by have:=dS List.length hR;simp[h3,gw]at this;omega)
 rw[show((kt ns (l.take j)).flatMap et++M++(et x++(l.drop (j+1)).flatMap et))=(kt ns (l.take j)).flatMap et++m0::m1::m2::m3::(R++(l.drop (j+1)).flatMap et)from by
  grind]at h6
 have VH:((kt ns (l.take j)).flatMap et).length=i*4:=by rw[oM,<-h1]
 have h7:=mj (mj (mj (mj h6 (o:=i*4) (.int .i64 x.1) Vc) (o:=i*4+1) x.2.1 Vc) (o:=i*4+2) x.2.2.1 Vc) (o:=i*4+3) x.2.2.2 Vc;rw[Tx _ _ _ _ _ _ _ _ _ _ _ VH]at h7;refine⟨by rw[oL hx hn,aN];grind,Vc,R,Vc,?_,kJ (kJ (kJ (kJ (rR h5 hb) _ _) _ _) _ _) _ _⟩;rw[oL hx hn,cY];simpa [et]using h7
theorem nA.stays4 {w:World}(h:nA w g c l ns i j wr){n:Int}{v1 v2 v3:Value}(hx:l[j]?=some (n,v1,v2,v3))(hn:n∉ns)(hb:Below wr.heap.size wr w2):
  Hid (nA w g c l ns (i+1) (j+1) ((((w2.setCell ⟨g,i*4,none⟩ (.int .i64 n)).setCell ⟨g,i*4+1,none⟩ v1).setCell ⟨g,i*4+2,none⟩ v2).setCell ⟨g,i*4+3,none⟩ v3)):=
 h.stays (x:=(n,v1,v2,v3)) hx hn hb
theorem IY (v:Value)(l:List gF)(nb:Nat)(nv:Value)(ns:List Int)(hrow:w.ownsRow 0 249 4 v l.length (l.flatMap et))(h1:∀x∈l,qp x)(hl:l.length<=1073741824)
  (hb:dX w nb #[nv] 35) (hnr:w.ownsRow 0 3 1 nv ns.length (gB ns)) (hnl:ns.length<=1073741824) (hne1:v.ownBlock≠some nb) (hne2:∀b,nv.ownBlock=some b->v.ownBlock≠some b):
  Calls prog 263 #[v,xY nb] w (QG w v l ns):=by
 have hF:=Ld w v l nb nv ns hrow (λx hx=>(h1 x hx).one) hl hb hnr hnl;have HN:Hid (∀(wr:World) (x:gF),w.grownBy wr v.ownBlock->U8 264 #[.agg #[.int .i64 x.1,x.2.1,x.2.2.1,x.2.2.2],.pointer (some ⟨nb,0,none⟩)] wr λe w'=>e= .returned (.bool (decide (x.1∈ns)))/\Below wr.heap.size wr w'):=λwr x hB=>Lb wr nb nv ns x ((hB.block nb hb.lt (λe=>hne1 e.sy)).J hb) (ew hnr λb e=>hB.block b (hnr.lt b e).2 (λe'=>hne2 b e e'.sy)) hnl
 obtain⟨a,c,rfl⟩:=iz hrow;unfold xY at hF⊢;go_in
 go_wp2_with fail;refine hF.V ?_;rintro e w1 ⟨hR,hB⟩;rcases hR with⟨rfl,Vu⟩|⟨i0,rfl,VJ,VK,Vr⟩;.have HA:Hid (kt ns l=l):=AB Vu;clear Vu HN hF;go_wp2;go_ret;refine⟨_,rfl,rfl,?_,⟨hB.os,hB.tape,hB.output,hB.size,λk hk _=>hB.block k hk⟩⟩;rw[HA.o];exact ew hrow λb e=>hB.block b (hrow.lt b e).2
 .obtain⟨g,rfl,_,Vv,_⟩:=eH hrow Vc;obtain⟨x0,Vw⟩:∃x,l[i0]?=some x:=⟨_,aO VJ⟩;have hw0:IntKind.i64.wrap ((i0:Int)+1)=(i0:Int)+1:=by rw[IntKind.wrap_i64];omega
  have Vt:((i0:Int)== -1)=false:=Vd
  have hcc:∃Vp,w.heap[g]?=some (.cells Vp 249 (0,0))/\Vp.size=c*4/\l.length<=c/\c<=maxLen:=by
   rcases hrow.2 with⟨q,_⟩|⟨g',cap,Vp,q,q1,q2,q3,q4,q5,q6⟩;.cases q
   grind
  have D0:nA w g c l ns i0 (i0+1) w1:=by
   have e1:kt ns (l.take i0)=l.take i0:=AB λx hx=>by
    have⟨k,hk⟩:=bY.1 hx;grind
   have e2:=mA Vw (Vr x0 Vw);refine⟨by grind,Vc,et x0,by rw[gw];omega,?_,⟨hB.os,hB.tape,hB.output,hB.size,λk hk _=>hB.block k hk⟩⟩;rw[e2,e1]
   have e3:(l.take i0).flatMap et++et x0++(l.drop (i0+1)).flatMap et=l.flatMap et:=by
    have:l=l.take i0++x0::l.drop (i0+1):=by rw[<-wN Vw,ca]
    grind
   rw[e3];exact ew hrow λb e=>hB.block b (hrow.lt b e).2
  have VI:Hid (∀(wr:World) (x:gF),w.grownBy wr (some g)->U8 264 #[.agg #[.int .i64 x.1,x.2.1,x.2.2.1,x.2.2.2],.pointer (some ⟨nb,0,none⟩)] wr λe w'=>e= .returned (.bool (decide (x.1∈ns)))/\Below wr.heap.size wr w'):=HN.o;clear HN hF VK Vr Vw hrow hnr hB;go_wp2;go_loopw [5,6] (λiv jv wr=>∃(i j:Nat),j<=l.length/\iv= .int .i64 i/\jv= .int .i64 j/\nA w g c l ns i j wr) (λ_ jv _=>((l.length:Int)-(intOf jv)).toNat)
  case atStart=>grind
  case round=>
   obtain⟨i,j,Vy,rfl,rfl,DA⟩:=hrel;by_cases hlt:j<l.length
   .have⟨x,hx⟩:=gx hlt;have⟨c0,c1,c2,c3,hgw⟩:=DA.cells hx;have⟨⟨a1,n1,k1,o1⟩,⟨a2,n2,k2,o2⟩,a3,o3⟩:=h1 x (aL hx);obtain⟨xn,x1,x2,x3⟩:=x;simp only at o1 o2 o3 c0 c1 c2 c3;subst o1 o2 o3;have HX:Hid (l[j]?=some (xn,.slice a1 n1 k1,.slice a2 n2 k2,.map a3)):=hx;have hij:i<j:=DA.2.1;have VD:IntKind.i64.wrap ((j:Int)+1)=(j:Int)+1:=by rw[IntKind.wrap_i64];omega
    have hw2:IntKind.i64.wrap ((i:Int)+1)=(i:Int)+1:=by rw[IntKind.wrap_i64];omega
    have B1:Below wr.heap.size wr (wr.U5 #[.int .i64 xn,.slice a1 n1 k1,.slice a2 n2 k2,.map a3] 249):=(Below.refl _ _).alloc (aE _) _;have hG:w.grownBy wr (some g):=by obtain⟨_,_,_,_,_,q⟩:=DA;exact q
    have hD:=VI.o (wr.U5 #[.int .i64 xn,.slice a1 n1 k1,.slice a2 n2 k2,.map a3] 249) (xn,.slice a1 n1 k1,.slice a2 n2 k2,.map a3) (lT hG _);by_cases hxt:xn∈ns
    .have hd:decide (xn∈ns)=true:=decide_eq_true hxt;simp only[hd]at hD;have Vs:Hid (xn∈ns):=hxt;clear hx hxt hd;go_wp2_with fail;refine hD.V ?_;rintro e w2 ⟨rfl,b2⟩;go_wp2;go_roundw
     case rel=>exact⟨i,j+1,Vc,rfl,rfl,DA.gone HX.o Vs.o (eQ B1 Vc)⟩
     case measure=>simp[intOf];omega
    .have hd:decide (xn∈ns)=false:=decide_eq_false hxt;simp only[hd]at hD;have Vs:Hid (xn∉ns):=hxt;clear hx hxt hd;go_wp2_with fail;refine hD.V ?_;rintro e w2 ⟨rfl,b2⟩;have b3:Below wr.heap.size wr w2:=eQ B1 Vc;have BV:dX w2 wr.heap.size #[.int .i64 xn,.slice a1 n1 k1,.slice a2 n2 k2,.map a3] 249:=(b2.block _ Vd).J (dX.new wr _ _);have⟨v1,v2⟩:=BV.I;have⟨u0,u1,u2,u3,e0,e1,e2,e3,ef⟩:=DA.room Vy b3;have VB:i<l.length:=Vc;have hgv:wr.heap.size≠g:=Vc;have DS:=DA.stays4 HX.o Vs.o b3;go_wp2;go_roundw
     case rel=>
      refine⟨i+1,j+1,Vc,rfl,rfl,?_⟩;exact DS.o
     case measure=>simp[intOf];omega
   .obtain rfl:j=l.length:=Vc;obtain⟨q1,q2,M,q3,q4,q5⟩:=DA;have HQ:Hid (i=(kt ns l).length):=by show i=_;rw[q1,ch (aE _)]
    clear q1;rw[ch (aE _),cu (aE _)]at q4
    obtain⟨Vp,p1,p2,p3,p4,p5⟩:∃Vp,wr.heap[g]?=some (.cells Vp 249 (0,0))/\Vp.size=c*4/\c<=maxLen/\l.length<=c/\Hid (Vp.toList.take (i*4)=(kt ns l).flatMap et):=by
     rcases q4.2 with⟨q,_⟩|⟨g',cap,Vp,q,r1,r2,r3,r4,r5,r6⟩;.cases q
     .cases q;refine⟨Vp,r2,r5,r4,r3,?_⟩;show _=_;have e1:Vp.toList.take (i*4)=(Vp.toList.take (l.length*4)).take (i*4):=by rw[List.take_take,Nat.min_eq_left Vc]
      have e2:i*4=((kt ns l).flatMap et).length:=by rw[oM,<-HQ.o]
      rw[e1,r6,bj,e2,List.take_left]
    have HCl:∀ty dc,(Builtin.clear_ #[181] ty #[.slice (some ⟨g,i*4,none⟩) (l.length-i) dc]).run prog wr= .ok (.tuple #[]) (wr.setRow g (Vp.toList.take (i*4)++ny (l.length-i)++Vp.toList.drop (i*4+(l.length-i)*4)).toArray):=λty dc=>vQ wr ty g (i*4) (l.length-i) dc Vp Vc p1 Vc
    have VB:i<l.length:=Vc;clear q4;go_wp2;go_ret;have VA:(ny (l.length-i)).length=(l.length-i)*4:=by simp[ny,Builtin.zeroCells]
    refine⟨_,rfl,rfl,?_,jX q5 (.inl rfl)⟩;rw[<-HQ.o];refine⟨by rw[oM,<-HQ.o],.inr ⟨g,c,_,rfl,aP _,setRow_heap _ _ _ _ _ _ p1,Vc,p3,?_,?_⟩⟩;.grind
    .have e1:i*4=(Vp.toList.take (i*4)).length:=by grind
     have e2:∀A B:List Value,A.length=i*4->(A++B).take (i*4)=A:=λA B h=>by rw[<-h,List.take_left]
     rw[List.toList_toArray,e2 _ _ e1.sy];exact p5.o
end
def PM.without (m:PM)(ns:ar):PM:= .mk (m.fs.filter λf=>decide (f.1∉ns)) m.unk
def vw (m:PM)(n:Int):m.without [n]=m.put n []:=by
 show PM.mk _ _=PM.mk (ic n [] true m.fs) m.unk;rw[mX];simp
def re (S:eD)(k:Nat)(T:Option MT)(w:aw)(Z:ax)(db:Nat)(m:PM)(nv:Value)(ns:ar)(h:eM S (k+1) T w Z db m)(hnr:w.ownsRow 0 3 1 nv ns.length (gB ns))(hnl:ns.length<=1073741824)(hnz:∀b,nv.ownBlock=some b->¬Z b):
  Calls prog 184 #[ah db,nv] w (kr S k T w Z db (m.without ns)):=by
 obtain⟨na,nn,nc,rfl⟩:=d5 hnr;obtain⟨sv,uv,l,Y,hy,hs⟩:=h;have⟨B0,KB⟩:=d8 w #[.slice na nn nc] 35;have Vq:=hy.O (λb _ hb=>B0.block b hb);have Vv:=nx hs (λb _ hb=>B0.block b hb);have Vw:=ew hnr λb hb=>B0.block b (hnr.lt b hb).2
 have Vx:=hy.c.row.lt;have hdl:=hy.c.blk.lt;have hD:=IY _ sv l w.heap.size (.slice na nn nc) ns Vq.c.row Vq.c.form Vq.c.len KB Vw hnl (λe=>by have:=(Vx _ e).2;omega) (λb hb e=>hnz b hb (hy.zs b e));obtain⟨sa,sn,sc,rfl⟩:=d5 hy.c.row;have⟨k1,k2⟩:=Vq.c.blk.I;have Vy:=hy.yl;have hsz:w.heap.size<=(w.alloc (am #[.slice na nn nc] 35)).heap.size:=B0.size;clear hs;unfold xY at hD;go_in
 go_wp2_with fail;generalize w.alloc (am #[.slice na nn nc] 35)=w0 at*;refine hD.V ?_;rintro e w1 ⟨v',rfl,hv,Vs,hg⟩;obtain⟨ra,rn,rc,rfl⟩:=d5 Vs;clear k1 k2;have Vt:w1.heap[db]?=w0.heap[db]?:=hg.block db Vq.c.blk.lt (λe=>hy.c.ne e.sy);have Vr:dX w1 db #[.slice sa sn sc,uv] 183:=Vt.J Vq.c.blk;have⟨k1,k2⟩:=Vr.I;go_wp2;go_end0
 have Vp:∀b,b<w0.heap.size->b≠db->(Value.slice sa sn sc).ownBlock≠some b->(w1.setCell (aj db 0) (.slice ra rn rc)).heap[b]?=w0.heap[b]?:=λb hb Vz VA=>by
  rw[dW,dO (λe=>Vz e.sy)];exact hg.block b hb (λe=>VA e.sy)
 have Vu:(Value.slice ra rn rc).ownBlock≠some db:=by rw[hv];exact hy.c.ne
 have s0:fK w Z w0 Z:=(fK.refl w Z).G B0;refine⟨rfl,Z,s0.J ⟨hg.os,hg.tape,hg.output,by simpa using hg.size,λb hb hz=>Vp b hb (λe=>hz (e▸hy.zd)) (λe=>hz (hy.zs b e)),λb hb=> .inl hb⟩,?_⟩;refine⟨.slice ra rn rc,uv,kt ns l,Y,⟨⟨⟨Vr.set 0 _,?_,λx hx=>hy.c.form x (bA.1 hx).1,hy.c.srt.filter _,Vu,aM Lf hy.c.len⟩,?_,hy.zd,λb hb=>hy.zs b (hv▸hb),hy.zu,λb hb=>hy.su b (hv▸hb),hy.ud⟩,hy.yz,?_,hy.yd,λb hb=>hy.ys b (hv▸hb),hy.yu⟩,?_⟩
 .refine ew Vs λb hb=> ?_
  rw[dW,dO (λe=>Vu (by rw[hb,e]))]
 .exact ew Vq.un λb hb=>Vp b (Vq.un.lt b hb).2 (λe=>hy.ud (e▸hb)) (λe=>hy.su b e hb)
 .intro b hb;have h1:=Vy b hb;have h2:=hg.size;simp;omega
 .refine nx ?_ (λb hb hl=>Vp b hl (λe=>hy.yd (e▸hb)) (λe=>hy.ys b e hb));exact Vv.filter λx f A hx=>by rw[xZ,hx.1]
def QH:(prog.info? 5).map (λi=>(i.zero,i.size,i.bytes))=some (some (.int .u8 0),1,1):=Vh
def vR (w:aw)(ty:TypeId)(v:Value)(n:Nat)(xs:ay)(Vq:w.ownsRow 0 5 1 v n xs)(s:au)(hb:n+s.size<=2^47):
  ∃v' w',(Builtin.append_ #[140,9] ty #[v,ag s]).run prog w= .ok v' w'/\w'.ownsRow 0 5 1 v' (n+s.size) (xs++Lib.strCells s)/\w.grownBy w' v.ownBlock/\∀b,v'.ownBlock=some b->v.ownBlock=some b\/w.heap.size<=b:=by
 have⟨i0,Vv,Vt,Vw,VA⟩:=info_parts QH;have hu:prog.underlying 140=some (.slice 5):=underlying140;have Vu:prog.underlying 9=some .string:=underlying9;have VC:n+s.size<=maxLen:=Vj;rcases Vq.2 with⟨rfl,rfl⟩|⟨g,cap,VI,rfl,q1,q2,q3,q4,q5,q6⟩;.have⟨v',w',h1,h2,h3,_⟩:=Lib.run_append_own_string (P:=prog) w w.heap.size 140 9 ty 5 i0 hu Vu Vv Vt Vw VA (ai) 0 xs (by have:=Vq.1;exact⟨this,.inl ⟨rfl,rfl⟩⟩) s VC hb (aE _);exact⟨v',w',h1,ph h2 (aP _),h3,λb hb=> .inr (h2.lt b hb).1⟩
 .have⟨v',w',h1,h2,h3,_⟩:=Lib.run_append_own_string (P:=prog) w 0 140 9 ty 5 i0 hu Vu Vv Vt Vw VA _ n xs Vq s VC hb (aP _);refine⟨v',w',h1,h2,h3,λb VE=> ?_⟩;by_cases hr:n+s.size<=cap;.have:=Lib.run_append_room_string (P:=prog) w 140 9 ty 5 i0 hu Vu Vv Vw g n cap VI q2 s hr Vc;rw[this]at h1;cases h1;exact .inl VE
  .have hlen:xs.length=n*i0.size:=by rw[Vw];exact Vq.1
   have:=Lib.run_append_grow_string (P:=prog) w 140 9 ty 5 i0 _ hu Vu Vv Vt (aj g 0) n cap xs hlen (λj u hj=>(eH Vq (by
    by_cases q:0<n;.exact q
    .have h0:xs.length=0:=by rw[hlen];simp[show n=0 by omega]
     rw[bE h0]at hj;simp at hj)).elim λg' VJ=>by
     obtain⟨e1,_,_,hc⟩:=VJ;cases e1
     rw[Addr.add_lit];simpa using hc w rfl j u hj) s Vc Vc (by rw[VA];exact growslice_fits Vc Vc)
   rw[this]at h1;cases h1;exact .inr (by cases VE;exact aE _)
def BX (S:eD)(k:Nat)(T:Option MT)(w:aw)(Z:ax)(db:Nat)(m:PM)(s:au)(h:eM S (k+1) T w Z db m)(hl:m.unk.size+s.size<=2^47):
  Calls prog 135 #[ah db,ag s] w (kr S k T w Z db (m.O s)):=by
 obtain⟨sv,uv,l,Y,hy,hs⟩:=h;obtain⟨ua,un,uc,rfl⟩:=d5 hy.un;have⟨v',w1,VB,Vq,Vp,Vx⟩:=vR w 140 _ _ _ hy.un s hl;obtain⟨va,vn,vc,rfl⟩:=d5 Vq;have⟨k1,k2⟩:=hy.c.blk.I;have Vy:w1.heap[db]?=w.heap[db]?:=Vp.block db hy.c.blk.lt (λe=>hy.ud e.sy);have Vs:dX w1 db #[sv,.slice ua un uc] 183:=Vy.J hy.c.blk;have⟨j1,j2⟩:=Vs.I
 have HF:Hid (kr S k T w Z db (m.O s) (.returned (.tuple #[])) (w1.setCell (aj db 1) (.slice va vn vc))):=by
  have hdl:=hy.c.blk.lt
  have Vr:∀b,b<w.heap.size->b≠db->(Value.slice ua un uc).ownBlock≠some b->(w1.setCell (aj db 1) (.slice va vn vc)).heap[b]?=w.heap[b]?:=λb hb h1 h2=>by
   rw[dW,dO (λe=>h1 e.sy)];exact Vp.block b hb (λe=>h2 e.sy)
  have VD:(Value.slice va vn vc).ownBlock≠some db:=λe=>(Vx db e).elim hy.ud (λq=>Vc)
  have VF:∀b,(Value.slice va vn vc).ownBlock=some b->¬Y b:=λb e q=>(Vx b e).elim (λe=>hy.yu b e q) (λe=>by have:=hy.yl b q;omega)
  have VG:∀b,sv.ownBlock=some b->(Value.slice va vn vc).ownBlock≠some b:=λb e q=>(Vx b q).elim (hy.su b e) (λq=>by have:=(hy.c.row.lt b e).2;omega)
  have hsz:w.heap.size<=(w1.setCell (aj db 1) (.slice va vn vc)).heap.size:=by simpa using Vp.size
  refine⟨rfl,λb=>Z b\/(Value.slice va vn vc).ownBlock=some b,⟨Vp.os,Vp.tape,Vp.output,hsz,λb hb hz=>Vr b hb (λe=>hz (e▸hy.zd)) (λe=>hz (hy.zu b e)),λb hb=>hb.elim .inl (λe=>(Vx b e).imp (hy.zu b) id)⟩,?_⟩;refine⟨sv,.slice va vn vc,l,Y,⟨⟨⟨Vs.set 1 _,?_,hy.c.form,hy.c.srt,hy.c.ne,hy.c.len⟩,?_,.inl hy.zd,λb e=> .inl (hy.zs b e),λb e=> .inr e,VG,VD⟩,λb q=> .inl (hy.yz b q),λb q=>aI (hy.yl b q) hsz,hy.yd,hy.ys,VF⟩,?_⟩;.exact ew hy.c.row λb e=>Vr b (hy.c.row.lt b e).2 (λq=>hy.c.ne (q▸e)) (hy.su b e)
  .have e1:(m.O s).unk=m.unk++s:=rfl;have e2:Lib.strCells (m.unk++s)=Lib.strCells m.unk++Lib.strCells s:=(by unfold Lib.strCells;rw[ByteArray.data_append,Array.toList_append,bS]);rw[e1,bH,e2];exact ew Vq λb e=>by rw[dW,dO (λq:db=b=>VD (by rw[q];exact e))]
  .exact nx hs λb q hl=>Vr b hl (λe=>hy.yd (e▸q)) (λe=>hy.yu b e q)
 clear hy hs;go_in
 go_wp2_with (at_builtin;refine Lib.wpList_append_run _ rfl _ _ _ _ rfl _ _ rfl rfl _ _ VB ?_)
 go_end0;exact HF.o
def Hh (S:eD)(k:Nat)(T:Option MT)(w:aw)(Z:ax)(db:Nat)(m:PM)(n:Int)(v:LV)(h:eM S (k+1) T w Z db m)(hok:oJ S T n .vals)(hkd:(∀kd,oJ S T n kd->kd= .vals)\/∀f∈m.fs,f.1≠n)(hl:m.fs.length<1073741824)(hZ:∀b,Z b->b<w.heap.size):
  Calls prog 193 #[ah db,aa n,vP v] w (kr S k T w Z db (if v.1=0/\gN v.2 eS=true then m.put n []else m.put n [qq v])):=by
 have⟨B0,KB⟩:=d8 w #[.int .u64 v.1,ag v.2,ai,U7] 55;have⟨k1,k2⟩:=KB.I;have h0:=h.O (λb _ hb=>B0.block b hb);have hC:=xU S k T _ Z db m n v h0 hok hkd hl;have HS:∀{m':PM} {e:Ending} {w':aw},kr S k T (w.U5 #[.int .u64 v.1,ag v.2,ai,U7] 55) Z db m' e w'->kr S k T w Z db m' e w':=λ⟨q1,Z',q2,q3⟩=>⟨q1,Z',((fK.refl w Z).G B0).J q2,q3⟩
 have KN:dX _ (w.heap.size+1) _ _:=dX.new1 w (am #[.int .u64 v.1,ag v.2,ai,U7] 55) #[aa n] 3
 have hD:=re S k T ((w.alloc (am #[.int .u64 v.1,ag v.2,ai,U7] 55)).alloc (am #[aa n] 3)) Z db m (U9 (w.heap.size+1) 1 1) [n] (h0.O (λb _ hb=>Below.l _ _ b hb)) ⟨rfl,.inr ⟨w.heap.size+1,1,#[aa n],rfl,aP _,KN,Vd,by simp[maxLen],rfl,rfl⟩⟩ Vd (λb hb hz=>by
  have:w.heap.size+1=b:=by simpa [Value.ownBlock]using hb
  have:=hZ b hz
  omega)
 rw[vw]at hD;have Vz:∀{m':PM} {e:Ending} {w':aw},kr S k T ((w.U5 #[.int .u64 v.1,ag v.2,ai,U7] 55).U5 #[aa n] 3) Z db m' e w'->kr S k T w Z db m' e w':=λ⟨q1,Z',q2,q3⟩=>⟨q1,Z',(((fK.refl w Z).G B0).alloc _).J q2,q3⟩
 by_cases hz:v.1=0
 .have Vt:(v.1==0)=true:=by simp[hz]
  by_cases hs:gN v.2 eS=true
  .have VH:(v.2.toList== [])=true:=by rw[<-show eS.toList= []from by decide+kernel];exact hs
   rw[dP ⟨hz,hs⟩];clear hz hs hC HS;unfold vP;go_in
   go_wp2_with fail;refine hD.V ?_;rintro e w1 hq;obtain rfl:=hq.1;go_wp2;go_end0;exact Vz hq
  .have VH:(v.2.toList== [])=false:=by rw[<-show eS.toList= []from by decide+kernel];exact cm.2 hs
   rw[dO (λq=>hs q.2)];clear hz hs hD Vz;unfold vP at hC⊢;go_in
   go_wp2_with fail;refine hC.V ?_;rintro e w1 hq;obtain rfl:=hq.1;go_wp2;go_end0;exact HS hq
 .have Vt:(v.1==0)=false:=by simp[hz]
  rw[dO (λq=>hz q.1)];clear hz hD Vz;unfold vP at hC⊢;go_in
  go_wp2_with fail;refine hC.V ?_;rintro e w1 hq;obtain rfl:=hq.1;go_wp2;go_end0;exact HS hq
def eM.forget {S:eD}:∀{k:Nat} {T:Option MT} {w:aw} {Z:ax} {db:Nat} {m:PM},eM S k T w Z db m->eM S k none w Z db m
 |0,_,_,_,_,_,h=>h
 |k+1,T,w,_,_,_,⟨sv,uv,l,Y,hy,hs⟩=>⟨sv,uv,l,Y,hy,hs.imp λx f A _ _ _ h=>by
   obtain⟨h1,h2⟩:=h;refine⟨h1,?_⟩;have hk:∀n kd,oJ S none n kd:=λ_ _ _ _ e=>by cases e
   rcases h2 with⟨_,lv,h⟩|⟨_,ps,B,h⟩|⟨t,_,mb,ps,B,h⟩;.exact .inl ⟨hk _ _,lv,h⟩
   .exact .inr (.inl ⟨hk _ _,ps,B,{h with lone:=(λ⟨_,_,e,_⟩=>by cases e),sub:=h.sub.imp λp v C _ _ _ q=>⟨q.1,eM.forget q.2⟩}⟩)
   .exact .inr (.inr ⟨t,hk _ _,mb,ps,B,h⟩)⟩
end
end Go.Proofs.YtfebdimolnobaaaGreatDoor
