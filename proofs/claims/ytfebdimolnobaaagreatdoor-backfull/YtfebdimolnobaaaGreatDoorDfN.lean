import Derived.Test.YtfebdimolnobaaaGreatDoorDfH
import Derived.Test.YtfebdimolnobaaaGreatDoorBuG
set_option maxRecDepth 100000
set_option maxHeartbeats 8000000
set_option linter.all false
namespace Go.Proofs.YtfebdimolnobaaaGreatDoor
open Go.RowKit Go.Proofs.Tryz
section
open VH
section
variable {S:eF} {k db g:Nat} {T:Option MT} {w w1:aw} {m:PM} {n:Int} {Z1:ax} {pre post:List gH} {x:gH} {uv:Value}
theorem eQ.fresh {b:Nat}(h:dZ w b #[ai,ai] 183):eQ S (k+1) T w (λx=>x=b) b PM.none:=
 ⟨ai,ai,[],λ_=>False,⟨⟨⟨h,br _ _ _ _,Vw,List.Pairwise.nil,by simp[Value.ownBlock],Vw⟩,br _ _ _ _,rfl,by simp[Value.ownBlock],by simp[Value.ownBlock],by simp[Value.ownBlock],by simp[Value.ownBlock]⟩,λ_ q=>q.elim,λ_ q=>q.elim,λq=>q,λ_ _ q=>q,λ_ _ q=>q⟩,trivial⟩
def FJ (S:eF)(k:Nat)(T:Option MT)(w:aw)(Z:ax)(db:Nat)(m:PM)(n:Int):Prop:=
 ∃sv uv l,DR w db sv uv l/\l.length<2199023255000/\∀w0 e w1,ak w w0->wS w0 db sv uv l n e w1->
  ∃g c pre x post A B fp fq,e= .returned (.pointer (some (aj g (pre.length*4))))/\wU S k T w1 (λb=>Z b\/b=g) db m n g pre x post (.slice (some (aj g 0)) (pre++x::post).length c) uv A B fp fq/\fP w0 Z w1 (λb=>Z b\/b=g)/\(∀b,A b->b<w.heap.size)/\ee (db::sv.ownBlock.toList) w0 w1/\(sv.ownBlock=some g\/w0.heap.size<=g)
theorem eQ.slot {Z:ax}(h:eQ S (k+1) T w Z db m)(u:m.fs.length<2199023255000):FJ S k T w Z db m n:=by
 obtain⟨sv,uv,l,Y,a,j⟩:=h;refine⟨sv,uv,l,a.c,by rw[j.len];exact u,λy e w1 f d=> ?_⟩;have⟨g,c,pre,x,post,A,B,r,s,t,O,v,p,K⟩:=qt (a.O λb _ q=>f.block b q) (nA j λb _ q=>f.block b q) d;have i:sv.ownBlock=some g\/y.heap.size<=g:=(by obtain⟨z,_,o,_,_,rfl,_,_,_,_,i⟩:=d;grind);exact⟨g,c,pre,x,post,A,B,r,s,t,O,v,λb q=>a.yl b (p b q),K,i⟩
theorem wU.ofMsgs {sv:Value}{A B:ax}{fp fq:List PF}
  (h:wU S k T w1 Z1 db m n g pre x post sv uv A B fp fq) (r:∀kd,oO S T n kd->kd= .msgs):
  (x.2.1=ai/\x.2.2.2= .map none)/\∃ps D,eP w1 A 180 1 x.2.2.1 ps.length (ps.map rK)/\(∀b,D b->A b)/\(∀b,x.2.2.1.ownBlock=some b->¬D b)/\j0 (λp v C=>v=mV v.2.2/\eQ S k (ou S T n) w1 C p v.2.2) D ps (m.get n)/\(vA T n->ps.length<=1)/\(ps= []->x=(n,ai,ai,.map none)):=by
 rcases h.was with⟨d,e,l⟩|⟨e,rfl,s⟩
 .obtain⟨o,i⟩:=l;have j:m.get n=d:=(by unfold PM.get;rw[e];exact rh n d fq fp h.lo);rw[h.xn]at i;rcases i with⟨q,_⟩|⟨_,ps,B,a⟩|⟨t,q,_⟩;.grind
  .exact⟨⟨a.c1,a.c3⟩,ps,B,a.row,a.inA,a.own,by rw[j];exact a.sub,λq=>by rw[a.lone q];omega,λq=>absurd q a.ne⟩
  grind
 .refine⟨⟨rfl,rfl⟩,[],λ_=>False,eP.nil _ _ _ _,λ_ q=>q.elim,λ_ _ q=>q,?_,λ_=>Vw,λ_=>rfl⟩
  have:m.get n= []:=by
   unfold PM.get;rw[e];refine nX n _ λf c=> ?_
   rcases aW.1 c with c|c;.have:=h.lo f c;omega
   .have:=h.hi f c;omega
  rw[this];trivial
def tt (S:eF)(k:Nat)(T:Option MT)(w:aw)(Z:ax)(db:Nat)(T':Option MT)(m0:PM)(M:PM->PM)(e:Ending)(w':aw):Prop:=
 ∃p Z' C,e= .returned (ah p)/\fP w Z w' Z'/\eQ S k T' w' C p m0/\OC S k T w' Z' db p C T' M/\∀b,C b->b<w'.heap.size
theorem wU.addMsg {c:Nat}{A B:ax}{fp fq:List PF}
  (h:wU S (k+1) T w1 Z1 db m n g pre x post (.slice (some (aj g 0)) (pre++x::post).length c) uv A B fp fq) {w' w9:aw} {gg cap N wb:Nat} {ps:aB} {D:ax} {cs:ay}
  (u:x.2.1=ai) (w:x.2.2.2= .map none) (L:eP w1 A 180 1 x.2.2.1 ps.length (ps.map rK)) (P:∀b,D b->A b) (q:∀b,x.2.2.1.ownBlock=some b->¬D b) (M:j0 (λp v C=>v=mV v.2.2/\eQ S (k+1) (ou S T n) w1 C p v.2.2) D ps (m.get n))
  (s:ak w1 w') (d:w'.grownBy w9 x.2.2.1.ownBlock) (E:w9.ownsRow 0 180 1 (Vr gg N cap) N cs) (e:N=ps.length+1) (a:cs=ps.map rK++ [rK wb]) (j:x.2.2.1.ownBlock=some gg\/w1.heap.size<=gg)
  (K:dZ w1 wb #[ai,ai] 183) (r:¬Z1 wb) (H:oO S T n .msgs) (f:vA T n->ps.length=0) (i:ps.length<2199023255000):
  fP w1 Z1 (w9.setCell (aj g (pre.length*4+2)) (Vr gg N cap)) (λb=>Z1 b\/b=gg)/\eQ S (k+1) (ou S T n) (w9.setCell (aj g (pre.length*4+2)) (Vr gg N cap)) (λb=>b=wb) wb PM.none/\
   OC S (k+1) T (w9.setCell (aj g (pre.length*4+2)) (Vr gg N cap)) (λb=>(Z1 b\/b=gg)\/b=wb) db wb (λb=>b=wb) (ou S T n) (λm'=>m.put n (m.get n++ [mV m'])):=by
 subst e a;have f:=(h.y.c.row.lt g h.own).2;have G:=h.y.c.blk.lt;have X:∀b,b<w1.heap.size->x.2.2.1.ownBlock≠some b->w9.heap[b]?=w1.heap[b]?:=λb a i=>(d.block b (aI a s.size) (λe=>i e.sy)).J (s.block b a)
 have J:∀b,b<w1.heap.size->¬A b->w9.heap[b]?=w1.heap[b]?:=λb a i=>X b a (λe=>i (L.2 b e))
 have l:¬A g:=λi=>h.y.ys g h.own (.inl i)
 have o:¬A db:=λi=>h.y.yd (.inl i)
 have U:gg<w9.heap.size:=(E.lt gg rfl).2;have F:gg<w1.heap.size->A gg:=λq=>j.elim (L.2 gg) (λe=>Vv)
 have V:gg≠g:=λe=>l (e▸F (e▸f))
 have f:=K.lt;have l:wb≠g:=λe=>r (by rw[e];exact h.y.zs g h.own)
 have y:¬A wb:=λq=>r (h.y.yz wb (.inl q))
 have I:∀b,b≠g->(w9.setCell (aj g (pre.length*4+2)) (Vr gg (ps.length+1) cap)).heap[b]?=w9.heap[b]?:=λb q=>by rw[dY,dQ (λe=>q e.sy)]
 have t:=h.y.c.O (w':=w9) (J db G o) (λb a=>by
  have:g=b:=by simpa [Value.ownBlock]using a
  grind)
 have W:=t.put (j:=2) Vv (v:= Vr gg (ps.length+1) cap) (x':=(x.1,ai,Vr gg (ps.length+1) cap,.map none)) rfl ⟨⟨_,_,_,rfl⟩,⟨_,_,_,rfl⟩,_,rfl⟩ (by simp[eC,u,w]);have o:w1.heap.size<=(w9.setCell (aj g (pre.length*4+2)) (Vr gg (ps.length+1) cap)).heap.size:=by simpa using aM s.size d.size
 have u:(w9.setCell (aj g (pre.length*4+2)) (Vr gg (ps.length+1) cap)).heap.size=w9.heap.size:=Vw;have z:(w9.setCell (aj g (pre.length*4+2)) (Vr gg (ps.length+1) cap)).ownsRow 0 180 1 (Vr gg (ps.length+1) cap) (ps.length+1) (ps.map rK++ [rK wb]):=eD E λb a=>I b (λe=>V ((show gg=b by simpa [Value.ownBlock]using a).J e))
 have t:∀b,b<w1.heap.size->b≠g->¬A b->(w9.setCell (aj g (pre.length*4+2)) (Vr gg (ps.length+1) cap)).heap[b]?=w1.heap[b]?:=λb a q i=>(I b q).J (J b a i)
 have z:∀b,D b->(w9.setCell (aj g (pre.length*4+2)) (Vr gg (ps.length+1) cap)).heap[b]?=w1.heap[b]?:=λb a=>by
  have j:=P b a;have w:=h.y.yl b (.inl j);grind
 have w:=(t wb f l y).J K;have f:=d.os.J s.os;have j:=d.tape.J s.tape;have l:=d.output.J s.output;clear E d s;have Y:(w9.setCell (aj g (pre.length*4+2)) (Vr gg (ps.length+1) cap)).os=w1.os:=f;have Z:(w9.setCell (aj g (pre.length*4+2)) (Vr gg (ps.length+1) cap)).tape=w1.tape:=j;have d:(w9.setCell (aj g (pre.length*4+2)) (Vr gg (ps.length+1) cap)).output=w1.output:=l;rw[<-u]at U;generalize w9.setCell (aj g (pre.length*4+2)) (Vr gg (ps.length+1) cap)=w10 at*;refine⟨⟨Y,Z,d,o,λb a R=>t b a (λe=>R (e▸h.y.zs g h.own)) (λi=>R (h.y.yz b (.inl i))),?_⟩,eQ.fresh w,?_⟩
 .rintro b (a|rfl);.grind
  .by_cases q:b<w1.heap.size;.exact .inl (h.y.yz b (.inl (F q)))
   omega
 .have d:(λm'=>m.put n (m.get n++ [mV m']))=λm'=>PM.mk (fp++(n,m.get n++mV m':: [])::fq) m.unk:=funext λm'=>h.put Vw
  rw[d];have u:∀b,(A b\/b=gg)\/b=wb->b<w1.heap.size->A b\/b=wb:=λb q a=>q.imp (λq=>q.elim id (λe=>e▸F (e▸a))) id
  refine Cc.hole (pre:=pre) (x:=(x.1,ai,Vr gg (ps.length+1) cap,.map none)) (post:=post) (sv:= .slice (some (aj g 0)) (pre++x::post).length c) (uv:=uv) (A:=λb=>(A b\/b=gg)\/b=wb) (B:=B) (ps1:=ps) (ps2:= []) (D:=D)
   ⟨⟨⟨W,?_,.inl (.inl h.y.zd),λb a=> .inl (.inl (h.y.zs b a)),λb a=> .inl (.inl (h.y.zu b a)),h.y.su,h.y.ud⟩,?_,?_,?_,?_,?_⟩,h.len,?_,?_,h.xn,rfl,rfl,⟨?_,?_⟩,λb q=> .inr q,λb q=> .inl (.inl (P b q)),?_,?_,M.len.sy,?_,H,?_,by grind⟩
  .exact eD h.y.un λb a=>t b (h.y.un.lt b a).2 (λe=>h.y.su g h.own (e▸a)) (λi=>h.y.yu b a (.inl i))
  .rintro b (((a|a)|a)|a);.exact .inl (.inl (h.y.yz b (.inl a)))
   .omega
   .omega
   .exact .inl (.inl (h.y.yz b (.inr a)))
  .rintro b (((a|rfl)|rfl)|a);.exact aI (h.y.yl b (.inl a)) o
   .omega
   .omega
   .exact aI (h.y.yl b (.inr a)) o
  .rintro(a|a)
   .rcases u db a G with q|q;.grind
    .exact r (q▸h.y.zd)
   .exact h.y.yd (.inr a)
  .rintro b l (a|a)
   .rcases u b a (h.y.c.row.lt b l).2 with q|q;.exact h.y.ys b l (.inl q)
    .exact r (q▸h.y.zs b l)
   .exact h.y.ys b l (.inr a)
  .rintro b l (a|a)
   .rcases u b a (h.y.un.lt b l).2 with q|q;.exact h.y.yu b l (.inl q)
    .exact r (q▸h.y.zu b l)
   .exact h.y.yu b l (.inr a)
  .have O:∀b,B b->w10.heap[b]?=w1.heap[b]?:=λb a=>t b (h.y.yl b (.inr a)) (λe=>h.y.ys g h.own (.inr (e▸a))) (λi=>h.dis b i a)
   exact h.sep.imp λy f C _ _ w l=>l.O (λ_ _ _ _ d i=>i.O λb a _=>O b (w b (d b a))) (λb a _=>O b (w b a))
  .intro b q a;rcases u b q (h.y.yl b (.inr a))with q|q;.exact h.dis b q a
   .exact r (q▸h.y.yz b (.inr a))
  .grind
  .intro b a;have:gg=b:=by simpa [Value.ownBlock]using a
   omega
  .intro b a;have e:gg=b:=by simpa [Value.ownBlock]using a
   grind
  .grind
  .rw[bV,bV];exact M.imp λp v C _ _ w Q=>⟨Q.1,Q.2.O λb a _=>z b (w b a)⟩
  grind
theorem QW:(prog.info? 180).map (λi=>(i.zero,i.size,i.bytes))=some (some (.pointer none),1,8):=VA
theorem ow (S:eF)(k:Nat)(T:Option MT)(w:aw)(Z:ax)(db:Nat)(m:PM)(n:Int)(h:FJ S (k+1) T w Z db m n)(L:oO S T n .msgs)(p:∀kd,oO S T n kd->kd= .msgs)(H:vA T n->m.get n= [])(a:(m.get n).length<2199023255000)(b:¬Z w.heap.size):
  Calls prog 190 #[ah db,aa n] w (tt S (k+1) T w Z db (ou S T n) PM.none (λm'=>m.put n (m.get n++ [mV m']))):=by
 have⟨i0,WF,WG,WH,WJ⟩:=info_parts QW;obtain⟨sv,uv,l,F,a,U⟩:=h;have⟨y,G⟩:=ec w #[ai,ai] 183;have V:=uF _ db sv uv l n (F.G y) a;have a:=F.blk.lt;have a:=F.row.lt;go_in
 go_wp2_with fail;generalize w.alloc (am #[ai,ai] 183)=w0 at*;refine V.V ?_;rintro e w1 Q;obtain⟨g,c,pre,x,post,A,B,b,d,rfl,O,M,a,K,f⟩:=U w0 _ w1 y Q;clear Q U V;have a:=G.lt
 have t:=G.kept K (by
  grind)
 have⟨⟨X,Y⟩,i,D,j,l,B,C,a,_⟩:=O.ofMsgs p;have⟨D,F,a,G,b⟩:=O.cells rfl;have⟨s,v,u,E⟩:=d7 j.1;have A:i.length<2199023255000:=by have:=C.len;omega
 have J:=j.1;rw[E]at a J;have x:vA T n->i.length=0:=λq=>by rw[C.len,H q];rfl
 have c:Hid (∀(w' d:aw) (f a N:Nat) (cs:ay),ak w1 w'->w'.grownBy d (Value.slice s v u).ownBlock->d.ownsRow 0 180 1 (Vr f N a) N cs->N=i.length+1->cs=i.map rK++ [rK w.heap.size]->((Value.slice s v u).ownBlock=some f\/w1.heap.size<=f)->
   tt S (k+1) T w Z db (ou S T n) PM.none (λm'=>m.put n (m.get n++ [mV m'])) (.returned (ah w.heap.size)) (d.setCell (aj g (pre.length*4+2)) (Vr f N a))):=by
  intro w' d f a N cs r o b K z P;rw[<-E]at o P
  have⟨H,R,I⟩:=O.addMsg X Y j l B C r o b K z P t (by
   grind) L x A
  refine⟨_,_,_,rfl,?_,R,I,λb q=>by rw[q];exact R.lt.1⟩;have l:fP w Z w0 Z:=(fP.refl w Z).G y;have s1:=(l.J M).J H;exact⟨s1.os,s1.tape,s1.output,s1.size,s1.block,λb l=>l.elim (s1.grow b) (λe=> .inr Vv)⟩
 have b:Hid (∀(w' d:aw),ak w1 w'->w'.grownBy d (Value.slice s v u).ownBlock->d.heap[g]?=w1.heap[g]?):=λw' d r o=>by
  have M:=(O.y.c.row.lt g rfl).2;exact(o.block g (aI M r.size) (λe=>O.y.ys g rfl (.inl (j.2 g (by grind))))).J (r.block g M)
 have z:ak w1 (w1.Vn #[ah w.heap.size] 180):=(Below.refl _ _).alloc (aE _) _;clear D F G X Y E j p;go_wp2_with (at_builtin;refine wpList_append_lies _ rfl _ _ 245 rfl 0 180 i0 _ 1 8 underlying245 WF WG WH WJ rfl Vv (.slice s v u) i.length (i.map rK) rfl (J.alloc _) (aj w1.heap.size 0) 1 1 [_] rfl rfl (bz (t:=180) (fr:=(0,0)) (heap_alloc_new w1 _)) VD Vv VC Vv Vv _ rfl ?_;intro f a d g I j W;have⟨l,o,p,q,r⟩:=O.cells (b.o _ d z I))
 go_ret;exact c.o _ d f a _ _ z I g rfl rfl (j.imp id (λe=>by rw[e];exact z.size))
end
def xX:∀{pre VL post VI:List gH} {x x':gH},(pre++x::post).Pairwise (λa b=>a.1<b.1)->pre++x::post=VL++x'::VI->x.1=x'.1->pre=VL/\x=x'/\post=VI
 | [],[],_,_,_,_,_,e,_=>by
  simp only[aX,List.cons.injEq]at e
  exact⟨rfl,e⟩
 | [],y::p,_,_,_,x',hs,e,hx=>by
  simp only[aX,bo,List.cons.injEq]at e hs;rw[bu]at hs;have:=hs.1 x' (by rw[e.2];simp)
  omega
 |y::p,[],_,_,x,_,hs,e,hx=>by
  simp only[aX,bo,List.cons.injEq]at e hs;rw[bu]at hs;have:=hs.1 x Vw;rw[e.1]at this
  omega
 |y::p,z::q,_,_,_,_,hs,e,hx=>by
  simp only[bo,List.cons.injEq]at e hs;rw[bu]at hs;have⟨c,d,f⟩:=xX hs.2 e.2 hx;exact⟨by rw[e.1,c],d,f⟩
def wU.again {S:eF}{k:Nat}{T:Option MT}{w1:aw}{Z1:ax}{db:Nat}{m:PM}{n:Int}{g c:Nat}{pre:List gH}{x:gH}{post:List gH}{uv:Value}{A B:ax}{fp fq:List PF}
  (h:wU S k T w1 Z1 db m n g pre x post (.slice (some (aj g 0)) (pre++x::post).length c) uv A B fp fq) (d:(pre++x::post).length<2199023255000):FJ S k T w1 Z1 db m n:=by
 refine⟨_,uv,_,h.y.c,d,λV e w2 o H=> ?_⟩;obtain⟨R,Q,D,x',z,rfl,v,N,M,a,I⟩:=H;rcases M with⟨l,t⟩|⟨l,_⟩
 .obtain⟨rfl,rfl,rfl⟩:=xX h.y.c.srt l (h.xn.J N.sy);simp only[Value.slice.injEq,Option.some.injEq,Addr.mk.injEq]at t;obtain⟨⟨rfl,_⟩,_,rfl⟩:=t;have u:∀b,b<w1.heap.size->b≠db->b≠g->w2.heap[b]?=w1.heap[b]?:=λb d E F=>(a.block b (aI d o.size) (by simp[Value.ownBlock,E,F])).J (o.block b d)
  have r:∀b,A b\/B b->w2.heap[b]?=w1.heap[b]?:=λb q=>u b (h.y.yl b q) (λe=>h.y.yd (e▸q)) (λe=>h.y.ys g rfl (e▸q))
  have s:∀{y:gH} {f:PF} {C:ax},(∀b,C b->A b\/B b)->gY S (eQ S k) w1 T y f C->gY S (eQ S k) w2 T y f C:=λj J=>J.O (λ_ _ _ _ G L=>L.O λb q _=>r b (j b (G b q))) (λb q _=>r b (j b q))
  refine⟨g,c,pre,x,post,A,B,fp,fq,rfl,⟨rfl,⟨⟨v,eD h.y.un λb q=>u b (h.y.un.lt b q).2 (λe=>h.y.ud (e▸q)) (λe=>h.y.su g rfl (e▸q)),.inl h.y.zd,λb q=> .inl (h.y.zs b q),λb q=> .inl (h.y.zu b q),h.y.su,h.y.ud⟩,
   λb q=> .inl (h.y.yz b q),λb q=>aI (h.y.yl b q) (aM o.size a.size),h.y.yd,h.y.ys,h.y.yu⟩,h.len,h.sep.imp λy f C _ _ j i=>s (λb q=> .inr (j b q)) i,h.dis,h.xn,h.lo,h.hi,?_⟩,?_,λb q=>h.y.yl b (.inl q),a,I⟩
  .exact h.was.imp (λ⟨p,O,P⟩=>⟨p,O,s (λb q=> .inl q) P⟩) id
  .refine⟨a.os,a.tape,a.output,a.size,λb d w=>a.block b d ?_,λb q=> .inl (q.elim id λe=>e▸h.y.zs g rfl)⟩;simp only[aR,Value.ownBlock,Option.toList_some,bW,or_false,not_or];exact⟨λe=>w (e▸h.y.zd),λe=>w (e▸h.y.zs g rfl)⟩
 .have i:=v.srt;rw[cl,bu]at i;have K:x∈D++z:=by rw[<-l];simp
  have U:=h.xn;rcases aW.1 K with q|q;.have:=i.2.2 x q x' Vw;omega
  .have:=i.2.1.1 x q;omega
def xY (S:eF)(k:Nat)(T:Option MT)(w:aw)(Z:ax)(db:Nat)(m:PM)(n:Int)(h:eQ S (k+1+1) T w Z db m)(f:oO S T n .msgs)(a:∀kd,oO S T n kd->kd= .msgs)(y:vA T n)(c:m.fs.length<2199023254999)(r:∀b,Z b->b<w.heap.size):
  Calls prog 191 #[ah db,aa n] w (tt S (k+1) T w Z db (ou S T n) ((m.get n).headD PV.none).2.2 (λm'=>m.put n [mV m'])):=by
 have⟨sv,uv,l,d,c,W⟩:=h.slot (n:=n) Vv;have X:=uF w db sv uv l n d c;go_in
 go_wp2_with fail;refine X.V ?_;rintro e w1 L;obtain⟨g,c,pre,x,post,A,B,s,I,rfl,O,F,d,K,i⟩:=W w _ w1 (Below.refl _ _) L;clear L W X;have⟨⟨G,H⟩,z,D,d,M,l,i,c,t⟩:=O.ofMsgs a;have⟨P,Q,R,U,j⟩:=O.cells rfl;have J:=c y;have c:=(O.y.c.row.lt g rfl).2;rcases z with _|⟨p,z⟩
 .have c:=t rfl;have j:m.get n= []:=bF i.len.sy
  have hlen:(pre++x::post).length<2199023255000:=by
   have o:=O.len;have V:=O.sep.len;rcases O.was with⟨_,e,_⟩|⟨e,_⟩;.have:=dV List.length e;simp at this V⊢;omega
   .have:=dV List.length e;simp at this V⊢;omega
  have u:=ow S k T w1 (λb=>Z b\/b=g) db m n (O.again hlen) f a (λ_=>j) (by rw[j];simp) (by
   rintro(q|q);.have:=r _ q;have:=F.size;omega
   .omega)
  rw[c]at R;have o:Hid (∀e w',tt S (k+1) T w1 (λb=>Z b\/b=g) db (ou S T n) PM.none (λm'=>m.put n (m.get n++ [mV m'])) e w'->(∃p,e= .returned (ah p)/\tt S (k+1) T w Z db (ou S T n) ((m.get n).headD PV.none).2.2 (λm'=>m.put n [mV m']) e w')):=(by rintro e w' ⟨p,r,C,rfl,E,v,g,x⟩;rw[j]at g⊢;exact⟨p,rfl,p,r,C,rfl,F.J E,v,g,x⟩);clear P Q U G H c d a t j;go_wp2_with fail;refine u.V ?_;rintro e w2 Y;obtain⟨p,rfl,c⟩:=o.o _ _ Y;clear Y;go_wp2;go_ret;exact c
 .obtain rfl:z= []:=by simp at J;exact J
  obtain⟨v,c⟩:∃v,m.get n= [v]:=by
   have:=i.len
   match hm:m.get n,this with
   | [v],_=>exact⟨v,rfl⟩
  rw[c]at i;obtain⟨C,j,⟨g,e⟩,_,u,_,_⟩:=i
  have o:Hid (tt S (k+1) T w Z db (ou S T n) ((m.get n).headD PV.none).2.2 (λm'=>m.put n [mV m']) (.returned (ah p)) w1):=by
   rw[c];refine⟨p,_,C,rfl,F,e,?_,λb q=>O.y.yl b (.inl (M b (u b q)))⟩;have c:(λm'=>m.put n [mV m'])=λm'=>PM.mk (s++(n,[]++mV m':: [])::I) m.unk:=funext λm'=>O.put Vw
   rw[c];exact Cc.hole (ps1:= []) (ps2:= []) (D:=λ_=>False) ⟨O.y,O.len,O.sep,O.dis,O.xn,G,H,d,λb q=>M b (u b q),λ_ q=>q.elim,λb q=>⟨λE=>l b q (u b E),λq=>q⟩,λ_ _ q=>q,rfl,trivial,f,λ_=>rfl,Vw⟩
  have⟨e,c,f,N⟩:=d7 d.1;have s:=d.1;rw[N]at R s;obtain⟨r,rfl,_,e,I⟩:=eJ s Vw;have e:w1.cell? (aj r 0)=some (ah p):=I w1 rfl 0 _ rfl
  obtain rfl:c=1:=by
   rcases s.2 with⟨q,_⟩|⟨_,_,_,q,_⟩;.cases q
   .injection q
  clear P Q U G H N d a t I;go_wp2;go_ret;exact o.o
def Dl (n:Int):UInt8:=UInt8.ofNat n.toNat
def yC {n:Int}(a:0<=n)(h1:n<256):((Dl n).toNat:Int)=n:=by
 unfold Dl;rw[UInt8.toNat_ofNat'];omega
def uT:Nat->Int->ap
 |0,v=> [Dl v]
 |f+1,v=>if v<128 then [Dl v]else Dl (v%128+128)::uT f (v/128)
def vi (v:Int):ap:=uT 9 v
def ph:Nat->Int->ap
 |0,_=> []
 |n+1,v=>Dl (v%256)::ph n (v/256)
def iI:∀(n:Nat) (v:Int),(ph n v).length=n
 |0,_=>rfl
 |n+1,v=>by simp[ph,iI n]
def nY:∀(f:Nat) (v:Int),(uT f v).length<=f+1/\0<(uT f v).length
 |0,_=>by simp[uT]
 |f+1,v=>by
  rw[uT];have:=nY f (v/128);split<;>simp<;>omega
def Ra {v:Int}(a:0<=v):bits .or .u8 (v%256) 128=v%128+128:=by
 obtain⟨n,rfl⟩:=bG a;have h:∀k:Fin 256,bits .or .u8 (k.val:Int) 128=((k.val%128+128:Nat):Int):=Vz;rw[show(n:Int)%256=((n%256:Nat):Int)by omega,h ⟨n%256,Vv⟩];simp only;omega
def ja (B b:Nat)(l x:ap)(w:aw)(e:Ending)(w':aw):Prop:=e= .returned (.tuple #[])/\fJ w' B b (eG b) (l++x)/\Wr B w w'
section
variable {B b:Nat} {l:ap} {w:aw}
def fJ.lt (h:fJ w B b (eG b) l):b<w.heap.size:=dZ.lt h.2.choose_spec.1
def L1 (c:Int)(h:fJ w B b (eG b) l)(a:0<=c)(h1:c<256)(hlen:l.length+1<=2^47)(hBw:B<=w.heap.size):
  Vq 391 #[eG b,.int .u8 c] w λe w'=>e= .returned .nilIface/\fJ w' B b (eG b) (l++ [Dl c])/\Wr B w w':=by
 have:=En B b l (Dl c) w h hlen hBw
 rwa [yC a h1]at this
def oX (v:Int)(h:fJ w B b (eG b) l)(p:0<=v)(h1:v<2^64)(hlen:l.length+(vi v).length<=2^47)(hBw:B<=w.heap.size):
  Calls prog 315 #[eG b,.int .u64 v] w (ja B b l (vi v) w):=by
 have o:=h.lt;go_in
 go_wp2;go_loopw [1] (λuv wr=>∃(u:Int) (f:Nat) (a:ap),uv= .int .u64 u/\0<=u/\u<2^64/\u<128^(f+1)/\Hid (a++uT f u=l++vi v)/\fJ wr B b (eG b) a/\Wr B w wr) (λuv _=>(intOf uv).toNat)
 case atStart=>exact⟨v,9,l,rfl,p,h1,Vv,rfl,h,Wr.refl _ _⟩
 case round=>
  obtain⟨u,f,a,rfl,u0,u1,u2,c,n,i⟩:=hrel;have d:a.length+(uT f u).length<=2^47:=(by have:=dV List.length c.o;simp only[aN]at this;omega);have s:=i.bel.size;by_cases VJ:u<128
  .have q:decide (128<=u)=false:=by simpa using VJ
   have j:uT f u= [Dl u]:=by cases f<;>simp[uT,VJ]
   have t:u%256=u:=Vv;rw[j]at c d;rw[List.length_singleton]at d;go_wp2_with fail;refine(L1 u n u0 Vv d Vv).V ?_;rintro e w2 ⟨rfl,k,m⟩;go_wp2;go_end0;exact⟨rfl,by rw[<-c.o];exact k,i.J m⟩
  .have q:decide (128<=u)=true:=by simpa using VJ
   obtain⟨f,rfl⟩:∃g,f=g+1:=⟨f-1,by
    cases f with
    |zero=>simp at u2;omega
    |succ f=>rfl⟩
   have j:uT (f+1) u=Dl (u%128+128)::uT f (u/128):=by rw[uT,dQ VJ]
   have r:=Ra u0;rw[j]at c d;simp only[bw]at d;go_wp2_with fail;refine(L1 (u%128+128) n Vv Vv Vv Vv).V ?_;rintro e w2 ⟨rfl,k,m⟩;go_wp2;refine⟨⟨u/128,f,a++ [Dl (u%128+128)],?_,Vv,Vv,?_,?_,k,i.J m⟩,?_⟩;.rfl
   .rw[Int.pow_succ]at u2;omega
   .show a++ [Dl (u%128+128)]++uT f (u/128)=l++vi v;rw[bj];exact c.o
   .simp[intOf];omega
def Eo (v:Int)(n:Nat)(h:fJ w B b (eG b) l)(m:0<=v)(h1:v<2^64)(t:n<=8)(hlen:l.length+n<=2^47)(hBw:B<=w.heap.size):
  Calls prog 392 #[eG b,.int .u64 v,aa n] w (ja B b l (ph n v) w):=by
 go_in
 go_wp2;go_loopw [1,7] (λuv f wr=>∃(u:Int) (i j:Nat) (a:ap),uv= .int .u64 u/\f=aa i/\0<=u/\u<2^64/\i+j=n/\Hid (a++ph j u=l++ph n v)/\fJ wr B b (eG b) a/\Wr B w wr) (λ_ f _=>n-(intOf f).toNat)
 case atStart=>exact⟨v,0,n,l,rfl,rfl,m,h1,Vv,rfl,h,Wr.refl _ _⟩
 case round=>
  obtain⟨u,i,j,a,rfl,rfl,u0,u1,k,c,g,d⟩:=hrel;have r:a.length+j<=2^47:=(by have:=dV List.length c.o;simp only[aN,iI]at this;omega);have o:=d.bel.size
  cases j with
  |zero=>
   obtain rfl:i=n:=Vv;clear k;go_wp2;go_end0
   exact⟨rfl,by rw[<-c.o,ph,bV];exact g,d⟩
  |succ j=>
   have s:(i:Int)<n:=Vv;go_wp2_with fail;refine(L1 (u%256) g Vv Vv Vv Vv).V ?_;rintro e w2 ⟨rfl,p,q⟩;go_wp2;refine⟨⟨u/256,i+1,j,a++ [Dl (u%256)],rfl,rfl,Vv,Vv,Vv,((bj _ _ _).J c.o:_=_),p,d.J q⟩,?_⟩;simp[intOf];omega
def L2 (v:Int)(h:fJ w B b (eG b) l)(a:0<=v)(h1:v<2^64)(hlen:l.length+(ph 4 v).length<=2^47)(hBw:B<=w.heap.size):
  Calls prog 319 #[eG b,.int .u64 v] w (ja B b l (ph 4 v) w):=by
 rw[iI]at hlen;go_in
 go_wp2_with fail;refine(Eo v 4 h a h1 Vv hlen hBw).V ?_;rintro e w2 ⟨rfl,q⟩;go_wp2;go_end0;exact⟨rfl,q⟩
def Ia (v:Int)(h:fJ w B b (eG b) l)(a:0<=v)(h1:v<2^64)(hlen:l.length+(ph 8 v).length<=2^47)(hBw:B<=w.heap.size):
  Calls prog 320 #[eG b,.int .u64 v] w (ja B b l (ph 8 v) w):=by
 rw[iI]at hlen;go_in
 go_wp2_with fail;refine(Eo v 8 h a h1 Vv hlen hBw).V ?_;rintro e w2 ⟨rfl,q⟩;go_wp2;go_end0;exact⟨rfl,q⟩
def qC (n:Nat)(h:fJ w B b (eG b) l)(c:n<=2^47)(hlen:l.length+(vi n).length<=2^47)(hBw:B<=w.heap.size):
  Calls prog 232 #[eG b,aa n] w (ja B b l (vi n) w):=by
 have d:IntKind.u64.wrap (n:Int)=n:=gU Vv Vv;have a:(n:Int)%2^64=n:=Vv;go_in
 go_wp2_with fail;refine(oX (n:Int) h Vv Vv hlen hBw).V ?_;rintro e w2 ⟨rfl,q⟩;go_wp2;go_end0;exact⟨rfl,q⟩
def uU (s:au)(h:fJ w B b (eG b) l)(hlen:l.length+s.data.toList.length<=2^47)(hBw:B<=w.heap.size):
  Calls prog 154 #[eG b,ag s] w (ja B b l s.data.toList w):=by
 go_in
 go_wp2_with fail;refine(Aa B b l s w h hlen hBw).V ?_;rintro e w2 ⟨rfl,q⟩;go_wp2;go_end0;exact⟨rfl,q⟩
def fI (x:ap):ap:=vi x.length++x
def Ib (s:au)(h:fJ w B b (eG b) l)(hlen:l.length+(fI s.data.toList).length<=2^47)(hBw:B<=w.heap.size):
  Calls prog 318 #[eG b,ag s] w (ja B b l (fI s.data.toList) w):=by
 unfold fI at*;have a:s.data.toList.length=s.size:=Vw;rw[aN]at hlen;rw[a]at hlen⊢;go_in
 go_wp2_with fail;refine(qC s.size h Vv Vv hBw).V ?_;rintro e w2 ⟨rfl,f,c⟩;have:=c.bel.size;go_wp2_with fail;refine(uU s f (by rw[a,aN];omega) Vv).V ?_;rintro e w3 ⟨rfl,d,g⟩;go_wp2;go_end0;exact⟨rfl,by rw[bj]at d;exact d,c.J g⟩
def AO (h:fJ w B b (eG b) l)(hBw:B<=w.heap.size):
  Calls prog 98 #[eG b] w λe w'=>e= .returned (ag ⟨l.toArray⟩)/\Below B w w':=by
 go_in
 go_wp2_with fail;refine(L0 B b l w h hBw).V ?_;rintro e w2 ⟨rfl,q⟩;go_wp2;go_ret;exact⟨rfl,q⟩
def vK (n:Nat)(c:n<=2^47)(hBw:B<=w.heap.size):
  Calls prog 96 #[aa n] w λe w'=>∃b,e= .returned (eG b)/\w.heap.size<=b/\fJ w' B b (eG b) []/\Below B w w':=by
 have K:=dZ.new w #[.pointer none,ai] 285;have a:Below B w (w.alloc (.cells #[.pointer none,ai] 285)):=(Below.refl _ _).alloc hBw _;have d:w.heap.size+1=(w.alloc (.cells #[.pointer none,ai] 285)).heap.size:=Vw;go_in
 go_wp2_with fail;refine(Q9 B w.heap.size n _ hBw K Vv c).V ?_;rintro e w2 ⟨rfl,f,g⟩;go_wp2;go_ret;exact⟨_,rfl,aE _,f,a.J g⟩
end
end
end Go.Proofs.YtfebdimolnobaaaGreatDoor
