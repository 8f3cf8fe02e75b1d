import Derived.Test.YtfebdimolnobaaaGreatDoorDfF
import Derived.Test.YtfebdimolnobaaaGreatDoorRrD
import Derived.Shelf.SlIter.Collect
set_option maxRecDepth 100000
set_option maxHeartbeats 8000000
set_option linter.all false
namespace Go.Proofs.YtfebdimolnobaaaGreatDoor
open Go.RowKit Go.Proofs.Tryz
section
variable {S:eE} {k db:Nat} {T:Option MT} {w:aw} {Z:ax} {pre post:List gw} {ps1 ps2:aB}
theorem el.clip {m:PM}(h:el S k T w Z db m):el S k T w (λb=>Z b/\b<w.heap.size) db m:=by
 cases k with
 |zero=>exact h
 |succ k=>
  obtain⟨sv,uv,l,Y,a,d⟩:=h;exact⟨sv,uv,l,Y,{a with zd:=⟨a.zd,a.c.blk.lt⟩,zs:=λb c=>⟨a.zs b c,(a.c.row.lt b c).2⟩,zu:=λb c=>⟨a.zu b c,(a.un.lt b c).2⟩,yz:=λb c=>⟨a.yz b c,a.yl b c⟩},d⟩
def M4 (S:eE)(k:Nat)(T:Option MT)(w:aw)(Z:ax)(db p:Nat)(C:ax)(T':Option MT)(M:PM->PM):Prop:=
 (∀b,C b->Z b)/\∀(w':aw) (C':ax) (m':PM),(∀b,Z b->¬C b->b<w.heap.size->w'.heap[b]?=w.heap[b]?)->w.heap.size<=w'.heap.size->(∀b,C' b->C b\/w.heap.size<=b)->el S k T' w' C' p m'->el S (k+1) T w' (λb=>Z b\/C' b) db (M m')
structure AU (S:eE)(k:Nat)(T:Option MT)(w:aw)(Z:ax)(db:Nat)(u:au)(n:Int)(pre:List gw)(x:gw)(post:List gw)(sv uv:Value)(A B:ax)(fp fq:List PF)(ps1:aB)(p:Nat)(ps2:aB)(vs1 vs2:List PV)(C D:ax):Prop where
 y:MZ w Z db sv uv u (pre++x::post) (λb=>A b\/B b)
 len:fp.length=pre.length
 sep:i8 (gO S (el S k) w T) B (pre++post) (fp++fq)
 dis:∀b,A b->¬B b
 xn:x.1=n
 c1:x.2.1=ah
 c3:x.2.2.2= .map none
 row:d5 w A 180 1 x.2.2.1 (ps1++p::ps2).length ((ps1++p::ps2).map rk)
 inC:∀b,C b->A b
 inD:∀b,D b->A b
 own:∀b,x.2.2.1.ownBlock=some b->¬C b/\¬D b
 cd:∀b,C b->¬D b
 vl:vs1.length=ps1.length
 sub:i8 (λp v C=>v=mV v.2.2/\el S k (nR S T n) w C p v.2.2) D (ps1++ps2) (vs1++vs2)
 ok:ot S T n .msgs
 lone:uE T n->(ps1++p::ps2).length=1
 pl:(ps1++p::ps2).length<=1073741824
theorem AU.hole {u:au}{n:Int}{x:gw}{sv uv:Value}{A B:ax}{fp fq:List PF}{p:Nat}{vs1 vs2:List PV}{C D:ax}
  (h:AU S k T w Z db u n pre x post sv uv A B fp fq ps1 p ps2 vs1 vs2 C D):M4 S k T w Z db p C (nR S T n) (λm'=> .mk (fp++(n,vs1++mV m'::vs2)::fq) u):=by
 refine⟨λb a=>h.y.yz b (.inl (h.inC b a)),λw' J m' r g H G=> ?_⟩;obtain⟨d,I,j,K,L⟩:∃d:ax,el S k (nR S T n) w' d p m'/\(∀b,d b->C b\/w.heap.size<=b)/\(∀b,d b->b<w'.heap.size)/\∀b,d b->J b:=⟨_,G.clip,λb a=>H b a.1,λb a=>a.2,λb a=>a.1⟩;refine el.V (Z:=λb=>Z b\/d b) ?_ (λb a=>a.imp id (L b));have M:∀b,b<w.heap.size->d b->A b:=λb a o=>(j b o).elim (h.inC b) (λq=>Te)
 have m:∀b,b<w.heap.size->((A b/\¬C b)\/d b)\/B b->A b\/B b:=λb a q=>q.imp (λq=>q.elim (λq=>q.1) (M b a)) id
 have i:∀b,Z b->b<w.heap.size->¬A b->w'.heap[b]?=w.heap[b]?:=λb U a P=>r b U (λq=>P (h.inC b q)) a
 have t:∀b,B b->w'.heap[b]?=w.heap[b]?:=λb a=>i b (h.y.yz b (.inr a)) (h.y.yl b (.inr a)) (λq=>h.dis b q a)
 have N:∀b,D b->w'.heap[b]?=w.heap[b]?:=λb a=>r b (h.y.yz b (.inl (h.inD b a))) (λq=>h.cd b q a) (h.y.yl b (.inl (h.inD b a)))
 have s:=h.y.c.blk.lt
 refine⟨sv,uv,pre++x::post,λb=>((A b/\¬C b)\/d b)\/B b,⟨⟨h.y.c.O (i db h.y.zd s λq=>h.y.yd (.inl q)) (λb a=>i b (h.y.zs b a) (h.y.c.row.lt b a).2 λq=>h.y.ys b a (.inl q)),dR h.y.un (λb a=>i b (h.y.zu b a) (h.y.un.lt b a).2 λq=>h.y.yu b a (.inl q)),
  .inl h.y.zd,λb a=> .inl (h.y.zs b a),λb a=> .inl (h.y.zu b a),h.y.su,h.y.ud⟩,?_,?_,λq=>h.y.yd (m db s q),λb a q=>h.y.ys b a (m b (h.y.c.row.lt b a).2 q),λb a q=>h.y.yu b a (m b (h.y.un.lt b a).2 q)⟩,?_⟩
 .rintro b ((q|q)|q);.exact .inl (h.y.yz b (.inl q.1))
  .exact .inr q
  .exact .inl (h.y.yz b (.inr q))
 .rintro b ((q|q)|q);.exact aI (h.y.yl b (.inl q.1)) g
  .exact K b q
  .exact aI (h.y.yl b (.inr q)) g
 .refine i8.join (A:=λb=>(A b/\¬C b)\/d b) (B:=B) h.len ?_ ?_ (λb q=> .inl q) (λb q=> .inr q) ?_
  .refine⟨h.xn,?_⟩;rw[h.xn];refine .inr (.inl ⟨h.ok,ps1++p::ps2,λb=>D b\/d b,⟨Tf,h.lone,h.c1,h.c3,⟨dR h.row.1 λb a=>r b (h.y.yz b (.inl (h.row.2 b a))) (h.own b a).1 (h.row.1.lt b a).2,λb a=> .inl ⟨h.row.2 b a,(h.own b a).1⟩⟩,?_,?_,?_,h.pl⟩⟩)
   .rintro b (q|q);.exact .inl ⟨h.inD b q,λc=>h.cd b c q⟩
    .exact .inr q
   .rintro b a (q|q);.exact(h.own b a).2 q
    .exact(j b q).elim (h.own b a).1 (λe=>by have:=(h.row.1.lt b a).2;omega)
   .refine i8.join (A:=d) (B:=D) h.vl ⟨rfl,I⟩ (h.sub.imp λq v E _ _ l F=>⟨F.1,F.2.O λb a _=>N b (l b a)⟩) (λb q=> .inr q) (λb q=> .inl q) ?_;intro b o z;exact(j b o).elim (λc=>h.cd b c z) (λe=>by have:=h.y.yl b (.inl (h.inD b z));omega)
  .exact h.sep.imp λy f E _ _ l R=>R.O (λ_ _ _ _ O Q=>Q.O λb a _=>t b (l b (O b a))) (λb a _=>t b (l b a))
  .rintro b (q|q) a;.exact h.dis b q.1 a
   .exact(j b q).elim (λc=>h.dis b (h.inC b c) a) (λe=>by have:=h.y.yl b (.inr a);omega)
end
section
open Tq
section
variable {S:eE} {k db g:Nat} {T:Option MT} {w w1:aw} {m:PM} {n:Int} {Z1:ax} {pre post:List gw} {x:gw} {uv:Value}
theorem el.fresh {b:Nat}(h:dP w b #[ah,ah] 183):el S (k+1) T w (λx=>x=b) b PM.none:=
 ⟨ah,ah,[],λ_=>False,⟨⟨⟨h,aX _ _ _ _,Tf,List.Pairwise.nil,by simp[Value.ownBlock],Tf⟩,aX _ _ _ _,rfl,by simp[Value.ownBlock],by simp[Value.ownBlock],by simp[Value.ownBlock],by simp[Value.ownBlock]⟩,λ_ q=>q.elim,λ_ q=>q.elim,λq=>q,λ_ _ q=>q,λ_ _ q=>q⟩,trivial⟩
def Ev (S:eE)(k:Nat)(T:Option MT)(w:aw)(Z:ax)(db:Nat)(m:PM)(n:Int):Prop:=
 ∃sv uv l,CO w db sv uv l/\l.length<1073741824/\∀w0 e w1,aj w w0->vU w0 db sv uv l n e w1->
  ∃g c pre x post A B fp fq,e= .returned (.pointer (some (ai g (pre.length*4))))/\vX S k T w1 (λb=>Z b\/b=g) db m n g pre x post (.slice (some (ai g 0)) (pre++x::post).length c) uv A B fp fq/\et w0 Z w1 (λb=>Z b\/b=g)/\(∀b,A b->b<w.heap.size)/\dY (db::sv.ownBlock.toList) w0 w1/\(sv.ownBlock=some g\/w0.heap.size<=g)
theorem el.slot {Z:ax}(h:el S (k+1) T w Z db m)(u:m.fs.length<1073741824):Ev S k T w Z db m n:=by
 obtain⟨sv,uv,l,Y,a,j⟩:=h;refine⟨sv,uv,l,a.c,by rw[j.len];exact u,λy e w1 f d=> ?_⟩;have⟨g,c,pre,x,post,A,B,r,s,t,O,v,p,K⟩:=pZ (a.O λb _ q=>f.block b q) (mF j λb _ q=>f.block b q) d;have i:sv.ownBlock=some g\/y.heap.size<=g:=(by obtain⟨z,_,o,_,_,rfl,_,_,_,_,i⟩:=d;grind);exact⟨g,c,pre,x,post,A,B,r,s,t,O,v,λb q=>a.yl b (p b q),K,i⟩
theorem vX.ofMsgs {sv:Value}{A B:ax}{fp fq:List PF}
  (h:vX S k T w1 Z1 db m n g pre x post sv uv A B fp fq) (r:∀kd,ot S T n kd->kd= .msgs):
  (x.2.1=ah/\x.2.2.2= .map none)/\∃ps D,d5 w1 A 180 1 x.2.2.1 ps.length (ps.map rk)/\(∀b,D b->A b)/\(∀b,x.2.2.1.ownBlock=some b->¬D b)/\i8 (λp v C=>v=mV v.2.2/\el S k (nR S T n) w1 C p v.2.2) D ps (m.get n)/\(uE T n->ps.length<=1)/\(ps= []->x=(n,ah,ah,.map none)):=by
 rcases h.was with⟨d,e,l⟩|⟨e,rfl,s⟩
 .obtain⟨o,i⟩:=l;have j:m.get n=d:=(by unfold PM.get;rw[e];exact qG n d fq fp h.lo);rw[h.xn]at i;rcases i with⟨q,_⟩|⟨_,ps,B,a⟩|⟨t,q,_⟩;.grind
  .exact⟨⟨a.c1,a.c3⟩,ps,B,a.row,a.inA,a.own,by rw[j];exact a.sub,λq=>by rw[a.lone q];omega,λq=>absurd q a.ne⟩
  grind
 .refine⟨⟨rfl,rfl⟩,[],λ_=>False,d5.nil _ _ _ _,λ_ q=>q.elim,λ_ _ q=>q,?_,λ_=>Tf,λ_=>rfl⟩
  have:m.get n= []:=by
   unfold PM.get;rw[e];refine nD n _ λf c=> ?_
   rcases aQ.1 c with c|c;.have:=h.lo f c;omega
   .have:=h.hi f c;omega
  rw[this];trivial
def td (S:eE)(k:Nat)(T:Option MT)(w:aw)(Z:ax)(db:Nat)(T':Option MT)(m0:PM)(M:PM->PM)(e:Ending)(w':aw):Prop:=
 ∃p Z' C,e= .returned (ag p)/\et w Z w' Z'/\el S k T' w' C p m0/\M4 S k T w' Z' db p C T' M/\∀b,C b->b<w'.heap.size
theorem vX.addMsg {c:Nat}{A B:ax}{fp fq:List PF}
  (h:vX S (k+1) T w1 Z1 db m n g pre x post (.slice (some (ai g 0)) (pre++x::post).length c) uv A B fp fq) {w' w9:aw} {gg cap N wb:Nat} {ps:aB} {D:ax} {cs:ay}
  (u:x.2.1=ah) (y:x.2.2.2= .map none) (M:d5 w1 A 180 1 x.2.2.1 ps.length (ps.map rk)) (L:∀b,D b->A b) (q:∀b,x.2.2.1.ownBlock=some b->¬D b) (P:i8 (λp v C=>v=mV v.2.2/\el S (k+1) (nR S T n) w1 C p v.2.2) D ps (m.get n))
  (s:aj w1 w') (d:w'.grownBy w9 x.2.2.1.ownBlock) (E:w9.ownsRow 0 180 1 (Ta gg N cap) N cs) (e:N=ps.length+1) (a:cs=ps.map rk++ [rk wb]) (j:x.2.2.1.ownBlock=some gg\/w1.heap.size<=gg)
  (K:dP w1 wb #[ah,ah] 183) (r:¬Z1 wb) (H:ot S T n .msgs) (f:uE T n->ps.length=0) (i:ps.length<1073741824):
  et w1 Z1 (w9.setCell (ai g (pre.length*4+2)) (Ta gg N cap)) (λb=>Z1 b\/b=gg)/\el S (k+1) (nR S T n) (w9.setCell (ai g (pre.length*4+2)) (Ta gg N cap)) (λb=>b=wb) wb PM.none/\
   M4 S (k+1) T (w9.setCell (ai g (pre.length*4+2)) (Ta gg N cap)) (λb=>(Z1 b\/b=gg)\/b=wb) db wb (λb=>b=wb) (nR S T n) (λm'=>m.put n (m.get n++ [mV m'])):=by
 subst e a;have f:=(h.y.c.row.lt g h.own).2;have G:=h.y.c.blk.lt;have l:∀b,b<w1.heap.size->x.2.2.1.ownBlock≠some b->w9.heap[b]?=w1.heap[b]?:=λb a i=>(d.block b (aI a s.size) (λe=>i e.sy)).J (s.block b a)
 have I:∀b,b<w1.heap.size->¬A b->w9.heap[b]?=w1.heap[b]?:=λb a i=>l b a (λe=>i (M.2 b e))
 have o:¬A g:=λi=>h.y.ys g h.own (.inl i)
 have U:¬A db:=λi=>h.y.yd (.inl i)
 have l:gg<w9.heap.size:=(E.lt gg rfl).2;have F:gg<w1.heap.size->A gg:=λq=>j.elim (M.2 gg) (λe=>Te)
 have t:gg≠g:=λe=>o (e▸F (e▸f))
 have V:=K.lt;have W:wb≠g:=λe=>r (by rw[e];exact h.y.zs g h.own)
 have X:¬A wb:=λq=>r (h.y.yz wb (.inl q))
 have O:∀b,b≠g->(w9.setCell (ai g (pre.length*4+2)) (Ta gg (ps.length+1) cap)).heap[b]?=w9.heap[b]?:=λb q=>by rw[dM,dG (λe=>q e.sy)]
 have Y:=h.y.c.O (w':=w9) (I db G U) (λb a=>by
  have:g=b:=by simpa [Value.ownBlock]using a
  grind)
 have w:=Y.put (j:=2) Te (v:= Ta gg (ps.length+1) cap) (x':=(x.1,ah,Ta gg (ps.length+1) cap,.map none)) rfl ⟨⟨_,_,_,rfl⟩,⟨_,_,_,rfl⟩,_,rfl⟩ (by simp[d8,u,y]);have o:w1.heap.size<=(w9.setCell (ai g (pre.length*4+2)) (Ta gg (ps.length+1) cap)).heap.size:=by simpa using aL s.size d.size
 have y:(w9.setCell (ai g (pre.length*4+2)) (Ta gg (ps.length+1) cap)).heap.size=w9.heap.size:=Tf;have z:(w9.setCell (ai g (pre.length*4+2)) (Ta gg (ps.length+1) cap)).ownsRow 0 180 1 (Ta gg (ps.length+1) cap) (ps.length+1) (ps.map rk++ [rk wb]):=dR E λb a=>O b (λe=>t ((show gg=b by simpa [Value.ownBlock]using a).J e))
 have u:∀b,b<w1.heap.size->b≠g->¬A b->(w9.setCell (ai g (pre.length*4+2)) (Ta gg (ps.length+1) cap)).heap[b]?=w1.heap[b]?:=λb a q i=>(O b q).J (I b a i)
 have Z:∀b,D b->(w9.setCell (ai g (pre.length*4+2)) (Ta gg (ps.length+1) cap)).heap[b]?=w1.heap[b]?:=λb a=>by
  have f:=L b a;have j:=h.y.yl b (.inl f);grind
 have t:=(u wb V W X).J K;have f:=d.os.J s.os;have j:=d.tape.J s.tape;have z:=d.output.J s.output;clear E d s;have d:(w9.setCell (ai g (pre.length*4+2)) (Ta gg (ps.length+1) cap)).os=w1.os:=f;have f:(w9.setCell (ai g (pre.length*4+2)) (Ta gg (ps.length+1) cap)).tape=w1.tape:=j;have j:(w9.setCell (ai g (pre.length*4+2)) (Ta gg (ps.length+1) cap)).output=w1.output:=z;rw[<-y]at l;generalize w9.setCell (ai g (pre.length*4+2)) (Ta gg (ps.length+1) cap)=w10 at*;refine⟨⟨d,f,j,o,λb a R=>u b a (λe=>R (e▸h.y.zs g h.own)) (λi=>R (h.y.yz b (.inl i))),?_⟩,el.fresh t,?_⟩
 .rintro b (a|rfl);.grind
  .by_cases q:b<w1.heap.size;.exact .inl (h.y.yz b (.inl (F q)))
   omega
 .have d:(λm'=>m.put n (m.get n++ [mV m']))=λm'=>PM.mk (fp++(n,m.get n++mV m':: [])::fq) m.unk:=funext λm'=>h.put Tf
  rw[d];have t:∀b,(A b\/b=gg)\/b=wb->b<w1.heap.size->A b\/b=wb:=λb q a=>q.imp (λq=>q.elim id (λe=>e▸F (e▸a))) id
  refine AU.hole (pre:=pre) (x:=(x.1,ah,Ta gg (ps.length+1) cap,.map none)) (post:=post) (sv:= .slice (some (ai g 0)) (pre++x::post).length c) (uv:=uv) (A:=λb=>(A b\/b=gg)\/b=wb) (B:=B) (ps1:=ps) (ps2:= []) (D:=D)
   ⟨⟨⟨w,?_,.inl (.inl h.y.zd),λb a=> .inl (.inl (h.y.zs b a)),λb a=> .inl (.inl (h.y.zu b a)),h.y.su,h.y.ud⟩,?_,?_,?_,?_,?_⟩,h.len,?_,?_,h.xn,rfl,rfl,⟨?_,?_⟩,λb q=> .inr q,λb q=> .inl (.inl (L b q)),?_,?_,P.len.sy,?_,H,?_,by grind⟩
  .exact dR h.y.un λb a=>u b (h.y.un.lt b a).2 (λe=>h.y.su g h.own (e▸a)) (λi=>h.y.yu b a (.inl i))
  .rintro b (((a|a)|a)|a);.exact .inl (.inl (h.y.yz b (.inl a)))
   .omega
   .omega
   .exact .inl (.inl (h.y.yz b (.inr a)))
  .rintro b (((a|rfl)|rfl)|a);.exact aI (h.y.yl b (.inl a)) o
   .omega
   .omega
   .exact aI (h.y.yl b (.inr a)) o
  .rintro(a|a)
   .rcases t db a G with q|q;.grind
    .exact r (q▸h.y.zd)
   .exact h.y.yd (.inr a)
  .rintro b l (a|a)
   .rcases t b a (h.y.c.row.lt b l).2 with q|q;.exact h.y.ys b l (.inl q)
    .exact r (q▸h.y.zs b l)
   .exact h.y.ys b l (.inr a)
  .rintro b l (a|a)
   .rcases t b a (h.y.un.lt b l).2 with q|q;.exact h.y.yu b l (.inl q)
    .exact r (q▸h.y.zu b l)
   .exact h.y.yu b l (.inr a)
  .have J:∀b,B b->w10.heap[b]?=w1.heap[b]?:=λb a=>u b (h.y.yl b (.inr a)) (λe=>h.y.ys g h.own (.inr (e▸a))) (λi=>h.dis b i a)
   exact h.sep.imp λy f C _ _ w l=>l.O (λ_ _ _ _ d i=>i.O λb a _=>J b (w b (d b a))) (λb a _=>J b (w b a))
  .intro b q a;rcases t b q (h.y.yl b (.inr a))with q|q;.exact h.dis b q a
   .exact r (q▸h.y.yz b (.inr a))
  .grind
  .intro b a;have:gg=b:=by simpa [Value.ownBlock]using a
   omega
  .intro b a;have e:gg=b:=by simpa [Value.ownBlock]using a
   grind
  .grind
  .rw[bH,bH];exact P.imp λp v C _ _ w Q=>⟨Q.1,Q.2.O λb a _=>Z b (w b a)⟩
  grind
theorem Pd:(prog.info? 180).map (λi=>(i.zero,i.size,i.bytes))=some (some (.pointer none),1,8):=Tj
theorem nS (S:eE)(k:Nat)(T:Option MT)(w:aw)(Z:ax)(db:Nat)(m:PM)(n:Int)(h:Ev S (k+1) T w Z db m n)(L:ot S T n .msgs)(p:∀kd,ot S T n kd->kd= .msgs)(H:uE T n->m.get n= [])(a:(m.get n).length<1073741824)(b:¬Z w.heap.size):
  Calls prog 190 #[ag db,aa n] w (td S (k+1) T w Z db (nR S T n) PM.none (λm'=>m.put n (m.get n++ [mV m']))):=by
 have⟨i0,Ue,Uf,Ug,Uh⟩:=info_parts Pd;obtain⟨sv,uv,l,F,a,U⟩:=h;have⟨y,G⟩:=eY w #[ah,ah] 183;have V:=tU _ db sv uv l n (F.G y) a;have a:=F.blk.lt;have a:=F.row.lt;go_in
 go_wp2_with fail;generalize w.alloc (ak #[ah,ah] 183)=w0 at*;refine V.V ?_;rintro e w1 M;obtain⟨g,c,pre,x,post,A,B,b,d,rfl,O,P,a,K,f⟩:=U w0 _ w1 y M;clear M U V;have a:=G.lt
 have A:=G.kept K (by
  grind)
 have⟨⟨X,Y⟩,ps,D,j,b,x,E,a,_⟩:=O.ofMsgs p;have⟨B,D,a,F,c⟩:=O.cells rfl;have⟨s,v,u,C⟩:=dO j.1;have t:ps.length<1073741824:=by have:=E.len;omega
 have Q:=j.1;rw[C]at a Q;have i:uE T n->ps.length=0:=λq=>by rw[E.len,H q];rfl
 have c:Hid (∀(w' d:aw) (f a N:Nat) (cs:ay),aj w1 w'->w'.grownBy d (Value.slice s v u).ownBlock->d.ownsRow 0 180 1 (Ta f N a) N cs->N=ps.length+1->cs=ps.map rk++ [rk w.heap.size]->((Value.slice s v u).ownBlock=some f\/w1.heap.size<=f)->
   td S (k+1) T w Z db (nR S T n) PM.none (λm'=>m.put n (m.get n++ [mV m'])) (.returned (ag w.heap.size)) (d.setCell (ai g (pre.length*4+2)) (Ta f N a))):=by
  intro w' d f a N cs r o z I l J;rw[<-C]at o J
  have⟨G,R,H⟩:=O.addMsg X Y j b x E r o z I l J A (by
   grind) L i t
  refine⟨_,_,_,rfl,?_,R,H,λb q=>by rw[q];exact R.lt.1⟩;have l:et w Z w0 Z:=(et.refl w Z).G y;have i:=(l.J P).J G;exact⟨i.os,i.tape,i.output,i.size,i.block,λb l=>l.elim (i.grow b) (λe=> .inr Te)⟩
 have b:Hid (∀(w' d:aw),aj w1 w'->w'.grownBy d (Value.slice s v u).ownBlock->d.heap[g]?=w1.heap[g]?):=λw' d r o=>by
  have I:=(O.y.c.row.lt g rfl).2;exact(o.block g (aI I r.size) (λe=>O.y.ys g rfl (.inl (j.2 g (by grind))))).J (r.block g I)
 have z:aj w1 (w1.S6 #[ag w.heap.size] 180):=(Below.refl _ _).alloc (aD _) _;clear B D F X Y C j p;go_wp2_with (at_builtin;refine wpList_append_lies _ rfl _ _ 245 rfl 0 180 i0 _ 1 8 underlying245 Ue Uf Ug Uh rfl Te (.slice s v u) ps.length (ps.map rk) rfl (Q.alloc _) (ai w1.heap.size 0) 1 1 [_] rfl rfl (aY (t:=180) (fr:=(0,0)) (heap_alloc_new w1 _)) Tm Te Tl Te Te _ rfl ?_;intro f a d g P i W;have⟨j,l,o,p,q⟩:=O.cells (b.o _ d z P))
 go_ret;exact c.o _ d f a _ _ z P g rfl rfl (i.imp id (λe=>by rw[e];exact z.size))
end
def xw:∀{pre Tu post Tr:List gw} {x x':gw},(pre++x::post).Pairwise (λa b=>a.1<b.1)->pre++x::post=Tu++x'::Tr->x.1=x'.1->pre=Tu/\x=x'/\post=Tr
 | [],[],_,_,_,_,_,e,_=>by
  simp only[be,List.cons.injEq]at e
  exact⟨rfl,e⟩
 | [],y::p,_,_,_,x',hs,e,hx=>by
  simp only[be,bo,List.cons.injEq]at e hs;rw[bU]at hs;have:=hs.1 x' (by rw[e.2];simp)
  omega
 |y::p,[],_,_,x,_,hs,e,hx=>by
  simp only[be,bo,List.cons.injEq]at e hs;rw[bU]at hs;have:=hs.1 x Tf;rw[e.1]at this
  omega
 |y::p,z::q,_,_,_,_,hs,e,hx=>by
  simp only[bo,List.cons.injEq]at e hs;rw[bU]at hs;have⟨c,d,f⟩:=xw hs.2 e.2 hx;exact⟨by rw[e.1,c],d,f⟩
def vX.again {S:eE}{k:Nat}{T:Option MT}{w1:aw}{Z1:ax}{db:Nat}{m:PM}{n:Int}{g c:Nat}{pre:List gw}{x:gw}{post:List gw}{uv:Value}{A B:ax}{fp fq:List PF}
  (h:vX S k T w1 Z1 db m n g pre x post (.slice (some (ai g 0)) (pre++x::post).length c) uv A B fp fq) (d:(pre++x::post).length<1073741824):Ev S k T w1 Z1 db m n:=by
 refine⟨_,uv,_,h.y.c,d,λV e w2 o H=> ?_⟩;obtain⟨R,Q,D,x',z,rfl,v,N,M,a,I⟩:=H;rcases M with⟨l,t⟩|⟨l,_⟩
 .obtain⟨rfl,rfl,rfl⟩:=xw h.y.c.srt l (h.xn.J N.sy);simp only[Value.slice.injEq,Option.some.injEq,Addr.mk.injEq]at t;obtain⟨⟨rfl,_⟩,_,rfl⟩:=t;have u:∀b,b<w1.heap.size->b≠db->b≠g->w2.heap[b]?=w1.heap[b]?:=λb d E F=>(a.block b (aI d o.size) (by simp[Value.ownBlock,E,F])).J (o.block b d)
  have s:∀b,A b\/B b->w2.heap[b]?=w1.heap[b]?:=λb q=>u b (h.y.yl b q) (λe=>h.y.yd (e▸q)) (λe=>h.y.ys g rfl (e▸q))
  have r:∀{y:gw} {f:PF} {C:ax},(∀b,C b->A b\/B b)->gO S (el S k) w1 T y f C->gO S (el S k) w2 T y f C:=λj J=>J.O (λ_ _ _ _ G L=>L.O λb q _=>s b (j b (G b q))) (λb q _=>s b (j b q))
  refine⟨g,c,pre,x,post,A,B,fp,fq,rfl,⟨rfl,⟨⟨v,dR h.y.un λb q=>u b (h.y.un.lt b q).2 (λe=>h.y.ud (e▸q)) (λe=>h.y.su g rfl (e▸q)),.inl h.y.zd,λb q=> .inl (h.y.zs b q),λb q=> .inl (h.y.zu b q),h.y.su,h.y.ud⟩,
   λb q=> .inl (h.y.yz b q),λb q=>aI (h.y.yl b q) (aL o.size a.size),h.y.yd,h.y.ys,h.y.yu⟩,h.len,h.sep.imp λy f C _ _ j i=>r (λb q=> .inr (j b q)) i,h.dis,h.xn,h.lo,h.hi,?_⟩,?_,λb q=>h.y.yl b (.inl q),a,I⟩
  .exact h.was.imp (λ⟨p,O,P⟩=>⟨p,O,r (λb q=> .inl q) P⟩) id
  .refine⟨a.os,a.tape,a.output,a.size,λb d w=>a.block b d ?_,λb q=> .inl (q.elim id λe=>e▸h.y.zs g rfl)⟩;simp only[aR,Value.ownBlock,Option.toList_some,cp,or_false,not_or];exact⟨λe=>w (e▸h.y.zd),λe=>w (e▸h.y.zs g rfl)⟩
 .have i:=v.srt;rw[cB,bU]at i;have K:x∈D++z:=by rw[<-l];simp
  have U:=h.xn;rcases aQ.1 K with q|q;.have:=i.2.2 x q x' Tf;omega
  .have:=i.2.1.1 x q;omega
def xy (S:eE)(k:Nat)(T:Option MT)(w:aw)(Z:ax)(db:Nat)(m:PM)(n:Int)(h:el S (k+1+1) T w Z db m)(f:ot S T n .msgs)(a:∀kd,ot S T n kd->kd= .msgs)(y:uE T n)(c:m.fs.length<1073741823)(r:∀b,Z b->b<w.heap.size):
  Calls prog 191 #[ag db,aa n] w (td S (k+1) T w Z db (nR S T n) ((m.get n).headD PV.none).2.2 (λm'=>m.put n [mV m'])):=by
 have⟨sv,uv,l,d,c,V⟩:=h.slot (n:=n) Te;have W:=tU w db sv uv l n d c;go_in
 go_wp2_with fail;refine W.V ?_;rintro e w1 I;obtain⟨g,c,pre,x,post,A,B,s,L,rfl,O,E,d,K,i⟩:=V w _ w1 (Below.refl _ _) I;clear I V W;have⟨⟨F,G⟩,ps,D,d,J,l,i,c,t⟩:=O.ofMsgs a;have⟨N,P,Q,R,j⟩:=O.cells rfl;have H:=c y;have c:=(O.y.c.row.lt g rfl).2;rcases ps with _|⟨p,ps⟩
 .have c:=t rfl;have j:m.get n= []:=br i.len.sy
  have hlen:(pre++x::post).length<1073741824:=by
   have o:=O.len;have U:=O.sep.len;rcases O.was with⟨_,e,_⟩|⟨e,_⟩;.have:=dK List.length e;simp at this U⊢;omega
   .have:=dK List.length e;simp at this U⊢;omega
  have u:=nS S k T w1 (λb=>Z b\/b=g) db m n (O.again hlen) f a (λ_=>j) (by rw[j];simp) (by
   rintro(q|q);.have:=r _ q;have:=E.size;omega
   .omega)
  rw[c]at Q;have o:Hid (∀e w',td S (k+1) T w1 (λb=>Z b\/b=g) db (nR S T n) PM.none (λm'=>m.put n (m.get n++ [mV m'])) e w'->(∃p,e= .returned (ag p)/\td S (k+1) T w Z db (nR S T n) ((m.get n).headD PV.none).2.2 (λm'=>m.put n [mV m']) e w')):=(by rintro e w' ⟨p,r,C,rfl,z,v,g,x⟩;rw[j]at g⊢;exact⟨p,rfl,p,r,C,rfl,E.J z,v,g,x⟩);clear N P R F G c d a t j;go_wp2_with fail;refine u.V ?_;rintro e w2 X;obtain⟨p,rfl,c⟩:=o.o _ _ X;clear X;go_wp2;go_ret;exact c
 .obtain rfl:ps= []:=by simp at H;exact H
  obtain⟨v,Y⟩:∃v,m.get n= [v]:=by
   have:=i.len
   match hm:m.get n,this with
   | [v],_=>exact⟨v,rfl⟩
  rw[Y]at i;obtain⟨C,D',⟨e,c⟩,_,u,_,_⟩:=i
  have o:Hid (td S (k+1) T w Z db (nR S T n) ((m.get n).headD PV.none).2.2 (λm'=>m.put n [mV m']) (.returned (ag p)) w1):=by
   rw[Y];refine⟨p,_,C,rfl,E,c,?_,λb q=>O.y.yl b (.inl (J b (u b q)))⟩;have c:(λm'=>m.put n [mV m'])=λm'=>PM.mk (s++(n,[]++mV m':: [])::L) m.unk:=funext λm'=>O.put Tf
   rw[c];exact AU.hole (ps1:= []) (ps2:= []) (D:=λ_=>False) ⟨O.y,O.len,O.sep,O.dis,O.xn,F,G,d,λb q=>J b (u b q),λ_ q=>q.elim,λb q=>⟨λz=>l b q (u b z),λq=>q⟩,λ_ _ q=>q,rfl,trivial,f,λ_=>rfl,Tf⟩
  have⟨e,c,f,L⟩:=dO d.1;have s:=d.1;rw[L]at Q s;obtain⟨r,rfl,_,e,M⟩:=dV s Tf;have e:w1.cell? (ai r 0)=some (ag p):=M w1 rfl 0 _ rfl
  obtain rfl:c=1:=by
   rcases s.2 with⟨q,_⟩|⟨_,_,_,q,_⟩;.cases q
   .injection q
  clear N P R F G L d a t M;go_wp2;go_ret;exact o.o
end
def kU:ay->List PV->ay
 |mv::ms,v::vs=> .int .u64 v.1::ae v.2.1::mv::ae v.2.2.unk::kU ms vs
 |_,_=> []
def lW:ay->List PF->ay
 |vv::r,f::fs=>aa f.1::vv::lW r fs
 |_,_=> []
def uK:∀{a:ay} {l:List PV} {b:ay} {r:List PV},a.length=l.length->kU (a++b) (l++r)=kU a l++kU b r
 | [],[],_,_,_=>Tk
 | [],_::_,_,_,h=>by grind
 |_::_,[],_,_,h=>by grind
 |mv::a,v::l,b,r,h=>by simp[kU,uK (a:=a) (l:=l) (b:=b) (r:=r) (by grind)]
def uL:∀{a:ay} {l:List PF} {b:ay} {r:List PF},a.length=l.length->lW (a++b) (l++r)=lW a l++lW b r
 | [],[],_,_,_=>Tk
 | [],_::_,_,_,h=>by grind
 |_::_,[],_,_,h=>by grind
 |mv::a,v::l,b,r,h=>by simp[lW,uL (a:=a) (l:=l) (b:=b) (r:=r) (by grind)]
abbrev EE:=Value->PM->(ax)->Prop
def iw (P:EE)(w:aw)(A:ax)(vv:Value)(l:List PV):Prop:=
 ∃ms Y,d5 w A 55 4 vv l.length (kU ms l)/\(∀b,vv.ownBlock=some b->¬Y b)/\(∀b,Y b->A b)/\i8 (λa v C=>P a v.2.2 C) Y ms l
def lR:Nat->aw->EE
 |0,_,_,_,_=>False
 |k+1,w,v,m,Z=>∃Tt Y,d5 w Z 58 2 v m.fs.length (lW Tt m.fs)/\(∀b,v.ownBlock=some b->¬Y b)/\(∀b,Y b->Z b)/\i8 (λa f A=>iw (lR k w) w A a f.2) Y Tt m.fs
def iw.O {P Q:EE}{w w':aw}{A:ax}{vv:Value}{l:List PV}(h:iw P w A vv l)(j:∀b,A b->b<w.heap.size->w'.heap[b]?=w.heap[b]?)
  (a:∀mv m C,(∀b,C b->A b)->P mv m C->Q mv m C):iw Q w' A vv l:=by
 obtain⟨k,Y,d,e,c,f⟩:=h;exact⟨k,Y,d.O j,e,c,f.imp λmv v C _ _ g h=>a mv _ C (λb i=>c b (g b i)) h⟩
def lR.O:∀{k:Nat} {w w':aw} {v:Value} {m:PM} {Z:ax},lR k w v m Z->(∀b,Z b->b<w.heap.size->w'.heap[b]?=w.heap[b]?)->lR k w' v m Z
 |0,_,_,_,_,_,h,_=>h
 |_+1,_,_,_,_,_,⟨Tt,Y,h1,h2,h3,h4⟩,hk=>⟨Tt,Y,h1.O hk,h2,h3,h4.imp λ_ _ _ _ _ d h=>
   h.O (λb a c=>hk b (h3 b (d b a)) c) (λ_ _ _ e f=>f.O λb a c=>hk b (h3 b (d b (e b a))) c)⟩
def lR.none (k:Nat)(w:aw)(Z:ax):lR (k+1) w (.slice .none 0 0) PM.none Z:=⟨[],λ_=>False,d5.nil _ _ _ _,(by grind),(by grind),trivial⟩
def lR.form {k:Nat}{w:aw}{v:Value}{m:PM}{Z:ax}(h:lR k w v m Z):∃a c,v= .slice a m.fs.length c:=by
 cases k with
 |zero=>exact h.elim
 |succ k=>
  obtain⟨d,Y,b,_⟩:=h;obtain⟨a,n,c,rfl⟩:=dO b.1;rw[d9 b.1];grind
def iw.form {P:EE}{w:aw}{A:ax}{vv:Value}{l:List PV}(h:iw P w A vv l):∃a c,vv= .slice a l.length c:=by
 obtain⟨d,Y,b,_⟩:=h;obtain⟨a,n,c,rfl⟩:=dO b.1;rw[d9 b.1];grind
def Nf {k:Nat}{w:aw}{A:ax}{vv:Value}{lv:List LV}(h:d5 w A 55 4 vv lv.length (lv.flatMap lV)):iw (lR (k+1) w) w A vv (lv.map qF):=by
 have e:∀lv:List LV,lv.flatMap lV=kU (lv.map λ_=>ah) (lv.map qF):=λlv=>by
  induction lv with
  |nil=>rfl
  |cons x lv ih=>rw[aW,ih];rfl
 refine⟨lv.map λ_=>ah,λ_=>False,?_,λb _ h=>h,λb h=>h.elim,?_⟩;.grind
 .have:∀lv:List LV,i8 (λa (v:PV) C=>lR (k+1) w a v.2.2 C) (λ_=>False) (lv.map λ_=>ah) (lv.map qF):=λlv=>by
   induction lv with
   |nil=>trivial
   |cons x lv ih=>exact⟨λ_=>False,λ_=>False,lR.none k w _,ih,λb h=>h,λb h=>h,λb h=>h.elim⟩
  grind
def QV (k:Nat)(w:aw)(Z:ax)(m:PM)(e:Ending)(w':aw):Prop:=
 ∃v Z',e= .returned (.agg #[v,ae m.unk])/\lR (k+1) w' v m Z'/\(∀b,Z' b->b<w'.heap.size/\(Z b\/w.heap.size<=b))/\aj w w'
def rY (k:Nat)(w:aw)(A:ax)(l:List PV)(e:Ending)(w':aw):Prop:=
 ∃v Z',e= .returned v/\iw (lR (k+1) w') w' Z' v l/\(∀b,Z' b->b<w'.heap.size/\(A b\/w.heap.size<=b))/\aj w w'
def vx (S:eE)(k:Nat)(T:Option MT)(w0:aw)(B:ax)(wr:aw)(u:Value)(done:List PV)(ps:aB)(rest:List PV):Prop:=
 ∃ms Y,∃B1 B2:ax,i8 (λp v C=>v=mV v.2.2/\el S k T w0 C p v.2.2) B2 ps rest/\(∀b,B1 b->B b)/\(∀b,B2 b->B b)/\(∀b,B1 b->¬B2 b)/\
  wr.ownsRow w0.heap.size 55 4 u done.length (kU ms done)/\(∀b,u.ownBlock=some b->¬Y b)/\i8 (λa v C=>lR (k+1) wr a v.2.2 C) Y ms done/\(∀b,Y b->b<wr.heap.size/\(B1 b\/w0.heap.size<=b))
def vx.start {S:eE}{k:Nat}{T:Option MT}{w0:aw}{B:ax}{wr:aw}{ps:aB}{l:List PV}(h:i8 (λp v C=>v=mV v.2.2/\el S k T w0 C p v.2.2) B ps l):vx S k T w0 B wr (ah) [] ps l:=
 ⟨[],λ_=>False,λ_=>False,B,h,λ_ q=>q.elim,λ_ q=>q,λ_ q=>q.elim,aX _ _ _ _,(λ_ q=>by cases q),trivial,λ_ q=>q.elim⟩
def vx.done {S:eE}{k:Nat}{T:Option MT}{w0:aw}{B:ax}{wr:aw}{u:Value}{l:List PV}(h:vx S k T w0 B wr u l [] []):
  ∃Z',iw (lR (k+1) wr) wr Z' u l/\∀b,Z' b->b<wr.heap.size/\(B b\/w0.heap.size<=b):=by
 obtain⟨f,Y,g,i,_,j,_,_,c,e,d,m⟩:=h;refine⟨λb=>Y b\/u.ownBlock=some b,⟨f,Y,⟨ownsRow_base_a c (aM _),λb a=> .inr a⟩,e,λb a=> .inl a,d⟩,?_⟩;rintro b (a|a);.grind
 .exact⟨(c.lt b a).2,.inr (c.lt b a).1⟩
def vx.step {S:eE}{k:Nat}{T:Option MT}{w0:aw}{B:ax}{wr w1 w2:aw}{u u' mv:Value}{done rest:List PV}{ps:aB}{v:PV}{A B2 B2' B1 Y Z':ax}{ms:ay}
  (E:∀b,B b->b<w0.heap.size) (L:w0.heap.size<=wr.heap.size)
  (F:i8 (λp v C=>v=mV v.2.2/\el S k T w0 C p v.2.2) B2' ps rest) (M:∀b,A b->B2 b) (f:∀b,B2' b->B2 b) (y:∀b,A b->¬B2' b)
  (K:∀b,B1 b->B b) (i:∀b,B2 b->B b) (x:∀b,B1 b->¬B2 b) (t:wr.ownsRow w0.heap.size 55 4 u done.length (kU ms done)) (H:∀b,u.ownBlock=some b->¬Y b)
  (n:i8 (λmv v C=>lR (k+1) wr mv v.2.2 C) Y ms done) (r:∀b,Y b->b<wr.heap.size/\(B1 b\/w0.heap.size<=b))
  (c:aj wr w1) (hm:lR (k+1) w1 mv v.2.2 Z') (N:∀b,Z' b->b<w1.heap.size/\(A b\/wr.heap.size<=b))
  (s:w1.grownBy w2 u.ownBlock) (j:w2.ownsRow w0.heap.size 55 4 u' (done.length+1) (kU ms done++kU [mv] [v])) (m:u'.ownBlock=u.ownBlock\/∃g,u'.ownBlock=some g/\w1.heap.size<=g):
  vx S k T w0 B w2 u' (done++ [v]) ps rest:=by
 have hlen:ms.length=done.length:=n.len
 have o:∀b,Y b->¬Z' b:=λb a I=>by
  grind
 have w:∀b,u.ownBlock=some b->¬(Y b\/Z' b):=λb a h=>by
  rcases h with h|h;.grind
  .have q:=t.lt b a;grind
 have l:∀b,(Y b\/Z' b)->b<w1.heap.size->w2.heap[b]?=w1.heap[b]?:=λb a d=>s.block b d (λe=>w b e.sy a)
 refine⟨ms++ [mv],λb=>Y b\/Z' b,λb=>B1 b\/A b,B2',F,?_,λb a=>i b (f b a),?_,?_,?_,?_,?_⟩;.grind
 .grind
 .rw[uK hlen];grind
 .intro b a h;rcases m with e|⟨g,e,D⟩;.grind
  .rw[e]at a;cases a;rcases h with h|h;.have:=(r _ h).1;have:=c.size;omega
   grind
 .refine i8.append (A:=Y) (B:=Z') ?_ ?_ (λb h=> .inl h) (λb h=> .inr h) o
  .refine n.imp λmv v C _ _ z h=>h.O λb a d=> ?_
   exact(l b (.inl (z b a)) (aI d c.size)).J (c.block b d)
  .exact⟨Z',λ_=>False,hm.O λb a d=>l b (.inr a) d,trivial,λb h=>h,λb h=>h.elim,λb _ h=>h⟩
 .have G:=s.size;rintro b (a|a);.have q:=r b a;have:=c.size;grind
  grind
def mZ:Nat->PM->Nat
 |0,_=>0
 |k+1,m=>1+(m.fs.map λf=>1+(f.2.map λv=>mZ k v.2.2).sum).sum
def m8 (k:Nat)(l:List PV):Nat:=(l.map λv=>mZ k v.2.2).sum
def sr (k:Nat)(fs:List PF):Nat:=(fs.map λf=>1+m8 k f.2).sum
def lz (k:Nat)(m:PM):mZ (k+1) m=1+sr k m.fs:=rfl
def oI (k:Nat)(f:PF)(fs:List PF):sr k (f::fs)=1+m8 k f.2+sr k fs:=rfl
def mW (k:Nat)(v:PV)(l:List PV):m8 k (v::l)=mZ k v.2.2+m8 k l:=rfl
def wi (k:Nat)(a b:List PF):sr k (a++b)=sr k a+sr k b:=by unfold sr;rw[bM,List.sum_append]
def pi (k:Nat)(a b:List PV):m8 k (a++b)=m8 k a+m8 k b:=by unfold m8;rw[bM,List.sum_append]
def oJ (k:Nat):mZ k PM.none<=1:=by cases k<;>simp[mZ,PM.none,PM.fs]
def LT {k:Nat}{m m':PM}(h:m.fs=m'.fs):mZ k m=mZ k m':=by cases k<;>simp[mZ,h]
def LU (k:Nat)(n:Int)(l:List PV):∀(fs:List PF) (done:Bool),sr k (gY n l done fs)+m8 k (io fs n)<=sr k fs+(if done then 0 else 1+m8 k l)
 | [],done=>by
  cases done<;>simp[gY,io,sr,m8]
 |x::r,done=>by
  rw[gY,wi,wi,io,oI];by_cases hx:x.1=n;.have ih:=LU k n l r true;have a:decide (n<=x.1)=true:=Tg;rw[a,dj,dH hx,dH hx];simp only[if_true]at ih;cases done<;>simp[sr]at ih⊢<;>omega
  .rw[dG hx,dG hx];cases a:decide (n<=x.1);.have ih:=LU k n l r done;rw[dd];simp only[dl,aN,if_false];rw[oI];have e:sr k []=0:=rfl;omega
   .have ih:=LU k n l r true;rw[dj];simp only[if_true]at ih;have e:sr k []=0:=rfl;have b:=oI k x [];have c:sr k [(n,l)]=1+m8 k l:=rfl;grind
def tE (k:Nat)(m:PM)(n:Int)(l:List PV):mZ (k+1) (m.put n l)+m8 k (m.get n)<=mZ (k+1) m+(1+m8 k l):=by
 have h:=LU k n l m.fs l.isEmpty;rw[lz,lz];have a:(if l.isEmpty then 0 else 1+m8 k l)<=1+m8 k l:=by split<;>omega
 show 1+sr k (gY n l l.isEmpty m.fs)+m8 k (io m.fs n)<=_;omega
def DM (k:Nat)(m:PM)(n:Int):mZ k (m.put n [])<=mZ k m:=by
 cases k with
 |zero=>exact aD _
 |succ k=>
  have h:=LU k n [] m.fs true;rw[lz,lz];show 1+sr k (gY n [] true m.fs)<=_;grind
def Fj (k:Nat)(t:au)(v:PV):∀(l:List PV) (done:Bool),m8 k (gq t v done l)<=m8 k l+(if done then 0 else mZ k v.2.2)
 | [],done=>by cases done<;>simp[gq,m8]
 |x::r,done=>by
  rw[gq,pi,pi,mW];generalize(kL t (fJ v) (fJ x)||lP (fJ v) (fJ x))=c;have e:m8 k []=0:=rfl;have a:=mW k v [];have b:=mW k x [];have d:=Fj k t v r done;have f:=Fj k t v r true;grind
def LW (k:Nat)(f:fB):∀(l:List fB) (m:PM),mZ k (iG f l m)<=mZ k m/\(iG f l m).get f.num=m.get f.num
 | [],m=>⟨aD _,rfl⟩
 |o::l,m=>by
  rw[iG];split;.rename_i c;have⟨a,b⟩:=LW k f l (m.put o.num []);refine⟨aL a (DM k m o.num),b.J (PM.get_put_ne _ _ _ _ ?_)⟩;grind
  .exact LW k f l m
def Rb (k:Nat)(m:PM):mZ k (fY m)<=mZ k m+4:=by
 have b:∀(m:PM) (n:Int),mZ k (fM m n)<=mZ k m+2:=λm n=>by
  unfold fM;split
  .cases k with
   |zero=>simp[mZ]
   |succ k=>
    have h:=tE k m n [PV.none];have a:=oJ k;have c:m8 k [PV.none]=mZ k PM.none:=Tk;omega
  .omega
 have a:mZ k (fY m)=mZ k (fM (fM m 1) 2):=LT rfl;grind
def Qc {k:Nat}{f:fB}{m:PM}(h:¬(f.isRep||f.isMap)=true):mZ k (eP f m).2.2<=m8 k (m.get f.num)+1:=by
 unfold eP;rw[dG h]
 cases m.get f.num with
 |nil=>have:=oJ k;simp[PV.none];omega
 |cons v l=>simp[mW];omega
def LX (S:eE)(d:MT)(f:fB)(m:PM)(v:PV)(k:Nat)(c:Nat)(p:mZ k v.2.2<=mZ k (eP f m).2.2+c):mZ (k+1) (g9 S d f m v)<=mZ (k+1) m+6+c:=by
 have i:=oJ k;have j:(f.isRep||f.isMap)=true->mZ k (eP f m).2.2<=1:=λq=>by unfold eP;rw[dH q];exact i
 unfold g9;split;.rename_i g;have a:=tE k m f.num (iF f.key (m.get f.num) (v.1,v.2.1,fY v.2.2));have b:=Fj k f.key (v.1,v.2.1,fY v.2.2) (m.get f.num) false;have e:=Rb k v.2.2;have h:=j (by rw[g,dj]);unfold iF at*;grind
 .rename_i g;split;.rename_i l;have a:=tE k m f.num (m.get f.num++ [v]);have b:=pi k (m.get f.num) [v];have e:m8 k [v]=mZ k v.2.2:=Tk;grind
  .rename_i l;split;.have:=DM (k+1) m f.num;omega
   .have⟨a,b⟩:=LW (k+1) f d.fs m;have e:=tE k (iG f d.fs m) f.num [v];have h:m8 k [v]=mZ k v.2.2:=Tk;have n:=Qc (k:=k) (f:=f) (m:=m) (by simp_all);grind
def LY (b:au)(kd e k:Nat):∀(F:Nat) (l:List PV) (a:Nat) (l':List PV),gy b kd e F l a= .ok l'->m8 k l'<=m8 k l+(e-a)
 |0,l,a,l',h=>by
  cases h
  omega
 |F+1,l,a,l',h=>by
  rw[gy]at h;have j:=oJ k;split at h
  .rename_i m;split at h
   .cases hv:j8 b a e with
    |error x=>simp_all
    |ok f=>
     obtain⟨n,z⟩:=f;rw[hv]at h;have⟨_,_,g,i⟩:=jr hv;have ih:=LY b kd e k F _ z l' h;rw[pi]at ih;have c:m8 k [(jc kd n,eS,PM.none)]=mZ k PM.none:=Tk;omega
   .have d:4<=(if ed kd=5 then 4 else 8):=by split<;>omega
    simp only at h;generalize(if ed kd=5 then 4 else 8)=z at h d;split at h;.have ih:=LY b kd e k F _ _ l' h;rw[pi]at ih;have c:m8 k [(jc kd (vi (b.extract a (a+z))),eS,PM.none)]=mZ k PM.none:=Tk;omega
    .cases h
  simp_all
def yx (S:eE)(b:au):∀(F k:Nat) (d:MT) (m:PM) (a e deep:Nat) (m':PM),fj S b F d m a e deep= .ok m'->mZ k m'<=mZ k m+8*(e-a)
 |0,k,d,m,a,e,deep,m',h=>by
  cases h
  omega
 |F+1,0,d,m,a,e,deep,m',h=>by simp[mZ]
 |F+1,k+1,d,m,a,e,deep,m',h=>by
  rw[fj]at h;split at h
  .cases hr:jj b a e with
   |error x=>simp_all
   |ok r=>
    rw[hr]at h;have⟨t,u,w,y,z,_⟩:=sU hr;have c:∀s,mZ (k+1) (m.O s)=mZ (k+1) m:=λs=>LT rfl
    simp only at h;split at h;.have ih:=yx S b F (k+1) d _ _ e deep m' h;grind
    .rename_i f q;split at h
     .split at h
      .rename_i sub g;split at h;.cases h
       .cases hs:fj S b F sub (eP f m).2.2 r.fr r.e (deep+1)with
        |error x=>simp_all
        |ok o=>
         rw[hs]at h;have i:=yx S b F k sub _ _ _ _ o hs;have j:=yx S b F (k+1) d _ _ e deep m' h;have n:=LX S d f m ((eP f m).1,(eP f m).2.1,o) k (8*(r.e-r.fr)) i;omega
      .cases hv:rg S b f r with
       |error x=>simp_all
       |ok v=>
        rw[hv]at h;have j:=yx S b F (k+1) d _ _ e deep m' h;have p:v.2.2=PM.none:=(by unfold rg at hv;grind);have n:=LX S d f m v k 1 (by rw[p];have:=oJ k;omega);omega
     .split at h
      .cases hp:ln S b f (m.get f.num) r.fr r.e with
       |error x=>simp_all
       |ok l=>
        rw[hp]at h;have i:=LY b _ _ k _ _ _ l hp;have j:=yx S b F (k+1) d _ _ e deep m' h;have n:=tE k m f.num l;omega
      .have ih:=yx S b F (k+1) d _ _ e deep m' h;grind
  simp_all
def Rc (S:eE)(nm b:au)(k:Nat)(m:PM)(h:kO S nm b= .ok m):mZ k m<=8*b.size+1:=by
 unfold kO at h;split at h;.cases h
 .have a:=yx S b _ k _ _ _ _ _ m h;have c:=oJ k;omega
end Go.Proofs.YtfebdimolnobaaaGreatDoor
