import Derived.Test.YtfebdimolnobaaaGreatDoorDfB
set_option maxRecDepth 100000
set_option maxHeartbeats 8000000
set_option linter.all false
namespace Go.Proofs.YtfebdimolnobaaaGreatDoor
open Go.RowKit Go.Proofs.Tryz
section
open VH
section
variable {S:eF} {k db:Nat} {T:Option MT} {w w1 w':aw} {m:PM} {uv:Value} {n:Int} {pre post:List gH} {x:gH} {Z1:ax} {src:Option Nat}
theorem qt {Z:ax}{sv:Value}{l:List gH}{Y:ax}(d:OB w Z db sv uv m.unk l Y)(z:j0 (gY S (eQ S k) w T) Y l m.fs)
  {e:Ending} (h:wS w db sv uv l n e w1):
  ∃g c pre x post A B fp fq,e= .returned (.pointer (some (aj g (pre.length*4))))/\wU S k T w1 (λb=>Z b\/b=g) db m n g pre x post (.slice (some (aj g 0)) (pre++x::post).length c) uv A B fp fq/\fP w Z w1 (λb=>Z b\/b=g)/\(∀b,A b->Y b)/\ee (db::sv.ownBlock.toList) w w1:=by
 obtain⟨g,c,pre,x,post,rfl,U,D,H,o,j⟩:=h
 have L:∀b,Y b->w1.heap[b]?=w.heap[b]?:=λb a=>o.block b (d.yl b a) (λi=>by
  simp only[aR,dq]at i;rcases i with rfl|i;.exact d.yd a
  .exact d.ys b i a)
 have E:∀b,uv.ownBlock=some b->w1.heap[b]?=w.heap[b]?:=λb a=>o.block b (d.un.lt b a).2 (λi=>by
  simp only[aR,dq]at i;rcases i with rfl|i;.exact d.ud a
  .exact d.su b i a)
 have q:¬Y g:=λa=>by
  rcases j with j|j;.exact d.ys g j a
  .have:=d.yl g a;omega
 have u:uv.ownBlock≠some g:=λa=>by
  rcases j with j|j;.exact d.su g j a
  .have:=(d.un.lt g a).2;omega
 have F:∀b,(Value.slice (some (aj g 0)) (pre++x::post).length c).ownBlock=some b->b=g:=λb a=>by simpa [Value.ownBlock]using a.sy
 have O:fP w Z w1 (λb=>Z b\/b=g):=⟨o.os,o.tape,o.output,o.size,λb a V=>o.block b a (λi=>by
   simp only[aR,dq]at i;rcases i with rfl|i;.exact V d.zd
   .exact V (d.zs b i)),λb a=>by
   rcases a with a|rfl;.exact .inl a
   .rcases j with j|j;.exact .inl (d.zs _ j)
    .exact .inr j⟩
 have G:∀{y:gH} {f:PF} {C:ax},(∀b,C b->Y b)->gY S (eQ S k) w T y f C->gY S (eQ S k) w1 T y f C:=λs v=>v.O (λ_ _ _ _ i j=>j.O λb a _=>L b (s b (i b a))) (λb a _=>L b (s b a))
 have p:=U.srt;rw[cl,bu]at p
 have P:∀{fp:List PF},fp.map (·.1)=pre.map (·.1)->∀f∈fp,f.1<n:=fun{fp} e f t=>by
  have:f.1∈pre.map (·.1):=e▸aS.2 ⟨f,t,rfl⟩;have⟨y,d,I⟩:=aS.1 this;rw[<-I,<-D];exact p.2.2 y d x Vw
 have Q:∀{fq:List PF},fq.map (·.1)=post.map (·.1)->∀f∈fq,n<f.1:=fun{fq} e f t=>by
  have:f.1∈post.map (·.1):=e▸aS.2 ⟨f,t,rfl⟩;have⟨y,d,I⟩:=aS.1 this;rw[<-I,<-D];exact p.2.1.1 y d
 have R:∀(A B:ax),(∀b,A b->Y b)->(∀b,B b->Y b)->OB w1 (λb=>Z b\/b=g) db (.slice (some (aj g 0)) (pre++x::post).length c) uv m.unk (pre++x::post) (λb=>A b\/B b):=λA B i j=>by
  have r:∀b,A b\/B b->Y b:=λb a=>a.elim (i b) (j b)
  exact⟨⟨U,eD d.un E,.inl d.zd,λb a=> .inr (F b a),λb a=> .inl (d.zu b a),λb a=>by rw[F b a];exact u,d.ud⟩,
   λb a=> .inl (d.yz b (r b a)),λb a=>tr (d.yl b (r b a)) (L b (r b a)),λa=>d.yd (r db a),λb a E=>by rw[F b a]at E;exact q (r g E),λb a E=>d.yu b a (r b E)⟩
 rcases H with⟨rfl,d⟩|⟨rfl,i⟩
 .have⟨fp,f,fq,j,hlen,A,B,W,X,M,d,p⟩:=z.split;have t:f=(n,f.2):=by rw[<-D,W.1]
  have u:=X.nums;rw[bI,bI]at u;have⟨J,K⟩:=List.append_inj u (by simpa using hlen);refine⟨g,c,pre,x,post,A,B,fp,fq,rfl,⟨rfl,R A B M d,hlen,X.imp λy q C _ _ s v=>G (λb a=>d b (s b a)) v,p,D,P J,Q K,.inl ⟨f.2,by rw[j];rw[<-t],by rw[<-t];exact G M W⟩⟩,O,M,o⟩
 .have u:=z.nums;have a:=z.len;have H:m.fs=m.fs.take pre.length++m.fs.drop pre.length:=(bY _ _).sy;rw[H,bI,bI]at u;have N:(m.fs.take pre.length).length=pre.length:=by rw[bN,<-a,aN];omega
  have⟨J,K⟩:=List.append_inj u (by simpa using N);rw[H]at z;refine⟨g,c,pre,x,post,λ_=>False,Y,m.fs.take pre.length,m.fs.drop pre.length,rfl,⟨rfl,R _ Y (λ_ h=>h.elim) (λ_ h=>h),N,z.imp λy q C _ _ s v=>G s v,λ_ h=>h.elim,D,P J,Q K,.inr ⟨H,i,λ_ h=>h⟩⟩,O,λ_ h=>h.elim,o⟩
theorem Lh (pre post:List gH)(x x':gH)(j:Nat)(a:j<4)(v:Value)(h:(eC x).set j v=eC x'):((pre++x::post).flatMap eC).set (pre.length*4+j) v=(pre++x'::post).flatMap eC:=by
 have b:(pre.flatMap eC).length=pre.length*4:=by
  clear h
  induction pre with
  |nil=>rfl
  |cons y l ih=>rw[bt,aN,ih,gz,bw];omega
 rw[da,da,List.set_append_right _ _ Vv,b,Nat.add_sub_cancel_left,bt,bt,<-h,List.set_append_left _ _ (by rw[gz];exact a)]
theorem DR.put {g c:Nat}{x':gH}(h:DR w db (.slice (some (aj g 0)) (pre++x::post).length c) uv (pre++x::post)){j:Nat}(n:j<4){v:Value}(k:x'.1=x.1)(m:qs x')(p:(eC x).set j v=eC x'):
  DR (w.setCell (aj g (pre.length*4+j)) v) db (.slice (some (aj g 0)) (pre++x::post).length c) uv (pre++x'::post):=by
 have l:g≠db:=λe=>h.ne (by rw[e];rfl)
 have hlen:(pre++x'::post).length=(pre++x::post).length:=Vw;refine⟨h.blk.other _ _ l,?_,?_,?_,h.ne,by rw[hlen];exact h.len⟩;.have:=mo h.row (o:=pre.length*4+j) v Vx;rw[Lh pre post x x' j n v p]at this;rw[hlen];exact this
 .intro y d;simp only[aW,aR]at d;rcases d with d|rfl|d;.exact h.form y (by simp[d])
  .exact m
  .exact h.form y (by simp[d])
 .have:=h.srt;rw[cl,bu]at this⊢;refine⟨this.1,⟨λy d=>by rw[k];exact this.2.1.1 y d,this.2.1.2⟩,λa i b f=> ?_⟩;rcases aR.1 f with rfl|f;.rw[k];exact this.2.2 a i x Vw
  .exact this.2.2 a i b (by simp[f])
theorem wU.cells {g c:Nat}{A B:ax}{fp fq:List PF}
  (h:wU S k T w1 Z1 db m n g pre x post (.slice (some (aj g 0)) (pre++x::post).length c) uv A B fp fq) (b:w'.heap[g]?=w1.heap[g]?):
  w'.cell? (aj g (pre.length*4))=some (aa n)/\w'.cell? (aj g (pre.length*4+1))=some x.2.1/\w'.cell? (aj g (pre.length*4+2))=some x.2.2.1/\w'.cell? (aj g (pre.length*4+3))=some x.2.2.2/\∀o,w'.frozen? (aj g o)=false:=by
 have p:(pre++x::post)[pre.length]?=some x:=Vw;have⟨q,e,_,l⟩:=sl h.y.c.row p;cases e;have⟨a,d,f,i⟩:=l w' b;rw[h.xn]at a;refine⟨a,d,f,i,?_⟩;have⟨cs,j⟩:=kU h.y.c.row h.own;exact(dZ.I (b.J j)).2
theorem wU.vals {g c:Nat}{A B:ax}{fp fq:List PF}
  (h:wU S k T w1 Z1 db m n g pre x post (.slice (some (aj g 0)) (pre++x::post).length c) uv A B fp fq) {w9:aw} {gg cap N:Nat} {lv:List LV} {cs:ay} (f:∀b,src=some b->A b) (y:lv≠ []) (p:ak w1 w') (a:w'.grownBy w9 src)
  (w:w9.ownsRow 0 55 4 (Vr gg N cap) N cs) (K:N=lv.length) (q:cs=lv.flatMap mU) (i:src=some gg\/w1.heap.size<=gg) (r:oO S T n .vals) (s:x.2.2.1=ai) (t:x.2.2.2= .map none):
  ∃Z',fP w1 Z1 (w9.setCell (aj g (pre.length*4+1)) (Vr gg N cap)) Z'/\eQ S (k+1) T (w9.setCell (aj g (pre.length*4+1)) (Vr gg N cap)) Z' db (m.put n (lv.map re)):=by
 subst K q;have F:=(h.y.c.row.lt g h.own).2;have G:=h.y.c.blk.lt;have o:∀b,b<w1.heap.size->¬A b->w9.heap[b]?=w1.heap[b]?:=λb d l=>(a.block b (aI d p.size) (λe=>l (f b e.sy))).J (p.block b d)
 have u:¬A g:=λl=>h.y.ys g h.own (.inl l)
 have H:¬A db:=λl=>h.y.yd (.inl l)
 have C:gg<w9.heap.size:=(w.lt gg rfl).2
 have D:gg≠g:=λe=>by
  rcases i with i|i;.exact u (f g (e▸i))
  .omega
 have I:=h.y.c.O (w':=w9) (o db G H) (λb d=>by
  have:g=b:=by simpa [Value.ownBlock]using d
  subst this
  exact o _ F u)
 have E:=I.put (j:=1) Vv (v:= Vr gg lv.length cap) (x':=(x.1,Vr gg lv.length cap,ai,.map none)) rfl ⟨⟨_,_,_,rfl⟩,⟨_,_,_,rfl⟩,_,rfl⟩ (by simp[eC,s,t]);refine⟨λb=>Z1 b\/b=gg,⟨?_,?_,?_,?_,?_,?_⟩,h.close E (A':=λb=>b=gg) ⟨h.xn,.inl ⟨by rw[h.xn];exact r,lv,y,rfl,⟨?_,?_⟩,rfl,rfl⟩⟩ (by simpa using y) ?_ ?_ ?_⟩;.exact a.os.J p.os
 .exact a.tape.J p.tape
 .exact a.output.J p.output
 .simpa using aM p.size a.size
 .intro b d z;rw[dY,dQ (λe=>z (by rw[<-e];exact h.y.zs g h.own))];exact o b d (λl=>z (h.y.yz b (.inl l)))
 .rintro b (d|rfl);.exact .inl d
  .rcases i with i|i;.exact .inl (h.y.yz _ (.inl (f _ i)))
   .exact .inr i
 .refine eD w λb d=> ?_
  obtain rfl:gg=b:=by simpa [Value.ownBlock]using d
  rw[dY,dQ (λe=>D e.sy)]
 .intro b d;simpa [Value.ownBlock]using d.sy
 .rintro b rfl _ L;rcases i with i|i;.exact f _ i
  .omega
 .rintro b rfl;simpa using C
 .intro b _ d J l;rw[dY,dQ (λe=>J e.sy)];exact o b d l
end
section
variable {db k:Nat} {l pre post:List gH} {Y:ax} {S:eF} {T:Option MT}
theorem OB.O {w w':aw}{Z:ax}{sv uv:Value}{u:au}(a:OB w Z db sv uv u l Y)(d:∀b,Z b->b<w.heap.size->w'.heap[b]?=w.heap[b]?):OB w' Z db sv uv u l Y:=
 {a with toDrB:=a.toDrB.O d,yl:=λb c=>tr (a.yl b c) (d b (a.yz b c) (a.yl b c))}
theorem nA {w w':aw}{fs:List PF}(i:j0 (gY S (eQ S k) w T) Y l fs)(e:∀b,Y b->b<w.heap.size->w'.heap[b]?=w.heap[b]?):j0 (gY S (eQ S k) w' T) Y l fs:=
 i.imp λ_ _ _ _ _ d h=>h.O (λ_ _ _ _ f g=>g.O λb a c=>e b (d b (f b a)) c) (λb a c=>e b (d b a) c)
theorem wU.ofVals {w1:aw}{Z1:ax}{m:PM}{n:Int}{g:Nat}{x:gH}{sv uv:Value}{A B:ax}{fp fq:List PF}
  (h:wU S k T w1 Z1 db m n g pre x post sv uv A B fp fq) (i:(∀kd,oO S T n kd->kd= .vals)\/∀f∈m.fs,f.1≠n):
  (x.2.2.1=ai/\x.2.2.2= .map none)/\((x.2.1=ai/\m.get n= [])\/∃gv cc lv,lv≠ []/\x.2.1= Vr gv lv.length cc/\A gv/\m.get n=lv.map re/\w1.ownsRow 0 55 4 (Vr gv lv.length cc) lv.length (lv.flatMap mU)):=by
 rcases h.was with⟨a,e,s⟩|⟨e,rfl,_⟩
 .obtain⟨w,o⟩:=s;have r:(n,a)∈m.fs:=by rw[e];simp
  have p:m.get n=a:=(by unfold PM.get;rw[e];exact rh n a fq fp h.lo);rw[h.xn]at o;have j:=i.resolve_right (λq=>q _ r rfl);rcases o with⟨_,lv,b⟩|⟨q,_⟩|⟨t,q,_⟩
  .refine⟨⟨b.c2,b.c3⟩,.inr ?_⟩;have d:=b.row;rcases d.1.2 with⟨_,u⟩|⟨gv,cc,v,l,_⟩;.exact absurd (bF u) b.ne
   .rw[l]at d;exact⟨gv,cc,lv,b.ne,l,d.2 gv rfl,p.J b.pm,d.1⟩
  .exact absurd (j _ q) Vw
  .exact absurd (j _ q) Vw
 .refine⟨⟨rfl,rfl⟩,.inl ⟨rfl,?_⟩⟩;unfold PM.get;rw[e];refine nX n _ λf c=> ?_
  rcases aW.1 c with c|c;.have:=h.lo f c;omega
  .have:=h.hi f c;omega
def kD (S:eF)(k:Nat)(T:Option MT)(w:aw)(Z:ax)(db:Nat)(m:PM)(e:Ending)(w':aw):Prop:=e= .returned (.tuple #[])/\∃Z',fP w Z w' Z'/\eQ S (k+1) T w' Z' db m
theorem Cb (S:eF)(k:Nat)(T:Option MT)(w:aw)(Z:ax)(db:Nat)(m:PM)(n:Int)(v:LV)(h:eQ S (k+1) T w Z db m)(L:oO S T n .vals)(H:(∀kd,oO S T n kd->kd= .vals)\/∀f∈m.fs,f.1≠n)(c:m.fs.length<2199023255000):
  Calls prog 195 #[ah db,aa n,wN v] w (kD S k T w Z db (m.put n [re v])):=by
 have⟨i0,V,W,X,VX⟩:=info_parts Tryz.infoV;obtain⟨sv,uv,l,Y,y,o⟩:=h;have⟨z,a⟩:=ec w #[.int .u64 v.1,ag v.2,ai,Vp] 55;have b:=y.c.blk.lt;have d:=y.c.row.lt;have Q:=y.O (λb _ F=>z.block b F);have i:=nA o (λb _ F=>z.block b F);have e:=uF _ db sv uv l n Q.c (by rw[o.len];exact c);have c:∀b,Y b->b<w.heap.size:=y.yl;unfold wN;go_in
 go_wp2_with fail;generalize w.alloc (am #[.int .u64 v.1,ag v.2,ai,Vp] 55)=w0 at*;refine e.V ?_;rintro e w1 l;obtain⟨g,c,pre,x,post,A,B,p,q,rfl,O,s,j,K⟩:=qt Q i l
 have R:=a.kept K (by
  simp only[aR,dq,not_or]
  exact⟨Vv,λe=>by have:=(d _ e).2;omega⟩)
 have⟨a,c⟩:=R.I;have⟨⟨x,y⟩,t⟩:=O.ofVals H;have⟨a,c,d,i,j⟩:=O.cells rfl;have U:=(O.y.c.row.lt g rfl).2;have a:w.heap.size<w1.heap.size:=R.lt
 have d:∀(w' i:aw) (a:Option Nat),ak w1 w'->w'.grownBy i a->(∀b,a=some b->A b)->i.heap[g]?=w1.heap[g]?:=λw' i a u G o=>
  (G.block g (aI U u.size) (λe=>O.y.ys g rfl (.inl (o g e.sy)))).J (u.block g U)
 have M:Hid (∀(w' i:aw) (a:Option Nat),ak w1 w'->w'.grownBy i a->(∀b,a=some b->A b)->i.heap[g]?=w1.heap[g]?):=d
 have N:Hid (∀(w' i:aw) (a:Option Nat) (j d:Nat) (cs:ay),ak w1 w'->w'.grownBy i a->(∀b,a=some b->A b)->i.ownsRow 0 55 4 (Vr j 1 d) 1 cs->cs=mU v->(a=some j\/j=w1.heap.size+1)->
   kD S k T w Z db (m.put n [re v]) (.returned (.tuple #[])) (i.setCell (aj g (pre.length*4+1)) (Vr j 1 d))):=by
  intro w' i a j d cs u G o l g p;have⟨a,q,r⟩:=O.vals (lv:= [v]) o Vw u G l rfl (by simp[g]) (p.imp id (λe=>Vv)) L x y;refine⟨rfl,a,?_,r⟩;have a:fP w Z w0 Z:=(fP.refl w Z).G z;exact(a.J s).J q
 rcases t with⟨J,g⟩|⟨s,E,lv,o,J,a,l,P⟩
 .rw[J]at c;have p:ak w1 (w1.drew.alloc (am #[.int .u64 v.1,ag v.2,ai,Vp] 55)):=((Below.refl _ _).drew).alloc (aE _) _;go_upto_region 2 with fail
  go_region_law (first|(refine step_append_lies _ VB _ _ _ VB 0 55 i0 _ 4 64 underlying56 V W X VX rfl Vv (ai) 0 [] VB (br _ _ _ _) (aj w1.heap.size 0) 1 1 [_,_,_,_] VB VB (bz (t:=55) (fr:=(0,0)) (heap_alloc_new w1.drew _)) VD Vv VC Vv Vv (w1.heap.size+1) Vw ?_;intro j d i C r D g;have⟨x,y,z,A,B⟩:=O.cells (M.o _ i _ p r (λb e=>by cases e))))
  all_goals
   go_end0;exact N.o _ i _ j d _ p r (λb e=>by cases e) C rfl D
 .rw[J]at c;have p:ak w1 (w1.drew.alloc (am #[.int .u64 v.1,ag v.2,ai,Vp] 55)):=((Below.refl _ _).drew).alloc (aE _) _
  have I:w1.ownsRow 0 55 4 (Vr s 0 E) 0 []:=by
   refine⟨rfl,.inr ?_⟩;rcases P.2 with⟨q,_⟩|⟨F,d,c,q,G,l,H,o,u,J⟩;.cases q
   .cases q;exact⟨s,E,c,rfl,aP _,l,aP _,o,u,Vw⟩
  have c:=(P.lt s rfl).2;go_upto_region 2 with fail
  go_region_law (first|(refine step_append_lies _ VB _ _ _ VB 0 55 i0 _ 4 64 underlying56 V W X VX rfl Vv (Vr s 0 E) 0 [] VB (I.drew.alloc _) (aj w1.heap.size 0) 1 1 [_,_,_,_] VB VB (bz (t:=55) (fr:=(0,0)) (heap_alloc_new w1.drew _)) VD Vv VC Vv Vv (w1.heap.size+1) Vw ?_;intro j d i C r D g;have⟨x,y,z,A,B⟩:=O.cells (M.o _ i _ p r (λb e=>by cases e;exact a))))
  all_goals
   go_end0;exact N.o _ i _ j d _ p r (λb e=>by cases e;exact a) C rfl D
end
end
section
variable {S:eF} {k db:Nat} {T:Option MT} {w:aw} {Z:ax} {pre post:List gH} {ps1 ps2:aB}
theorem eQ.clip {m:PM}(h:eQ S k T w Z db m):eQ S k T w (λb=>Z b/\b<w.heap.size) db m:=by
 cases k with
 |zero=>exact h
 |succ k=>
  obtain⟨sv,uv,l,Y,a,d⟩:=h;exact⟨sv,uv,l,Y,{a with zd:=⟨a.zd,a.c.blk.lt⟩,zs:=λb c=>⟨a.zs b c,(a.c.row.lt b c).2⟩,zu:=λb c=>⟨a.zu b c,(a.un.lt b c).2⟩,yz:=λb c=>⟨a.yz b c,a.yl b c⟩},d⟩
def OC (S:eF)(k:Nat)(T:Option MT)(w:aw)(Z:ax)(db p:Nat)(C:ax)(T':Option MT)(M:PM->PM):Prop:=
 (∀b,C b->Z b)/\∀(w':aw) (C':ax) (m':PM),(∀b,Z b->¬C b->b<w.heap.size->w'.heap[b]?=w.heap[b]?)->w.heap.size<=w'.heap.size->(∀b,C' b->C b\/w.heap.size<=b)->eQ S k T' w' C' p m'->eQ S (k+1) T w' (λb=>Z b\/C' b) db (M m')
structure Cc (S:eF)(k:Nat)(T:Option MT)(w:aw)(Z:ax)(db:Nat)(u:au)(n:Int)(pre:List gH)(x:gH)(post:List gH)(sv uv:Value)(A B:ax)(fp fq:List PF)(ps1:aB)(p:Nat)(ps2:aB)(vs1 vs2:List PV)(C D:ax):Prop where
 y:OB w Z db sv uv u (pre++x::post) (λb=>A b\/B b)
 len:fp.length=pre.length
 sep:j0 (gY S (eQ S k) w T) B (pre++post) (fp++fq)
 dis:∀b,A b->¬B b
 xn:x.1=n
 c1:x.2.1=ai
 c3:x.2.2.2= .map none
 row:eP w A 180 1 x.2.2.1 (ps1++p::ps2).length ((ps1++p::ps2).map rK)
 inC:∀b,C b->A b
 inD:∀b,D b->A b
 own:∀b,x.2.2.1.ownBlock=some b->¬C b/\¬D b
 cd:∀b,C b->¬D b
 vl:vs1.length=ps1.length
 sub:j0 (λp v C=>v=mV v.2.2/\eQ S k (ou S T n) w C p v.2.2) D (ps1++ps2) (vs1++vs2)
 ok:oO S T n .msgs
 lone:vA T n->(ps1++p::ps2).length=1
 pl:(ps1++p::ps2).length<=2199023255000
theorem Cc.hole {u:au}{n:Int}{x:gH}{sv uv:Value}{A B:ax}{fp fq:List PF}{p:Nat}{vs1 vs2:List PV}{C D:ax}
  (h:Cc S k T w Z db u n pre x post sv uv A B fp fq ps1 p ps2 vs1 vs2 C D):OC S k T w Z db p C (ou S T n) (λm'=> .mk (fp++(n,vs1++mV m'::vs2)::fq) u):=by
 refine⟨λb a=>h.y.yz b (.inl (h.inC b a)),λw' J m' r g H G=> ?_⟩;obtain⟨d,I,j,K,L⟩:∃d:ax,eQ S k (ou S T n) w' d p m'/\(∀b,d b->C b\/w.heap.size<=b)/\(∀b,d b->b<w'.heap.size)/\∀b,d b->J b:=⟨_,G.clip,λb a=>H b a.1,λb a=>a.2,λb a=>a.1⟩;refine eQ.V (Z:=λb=>Z b\/d b) ?_ (λb a=>a.imp id (L b));have M:∀b,b<w.heap.size->d b->A b:=λb a o=>(j b o).elim (h.inC b) (λq=>Vv)
 have m:∀b,b<w.heap.size->((A b/\¬C b)\/d b)\/B b->A b\/B b:=λb a q=>q.imp (λq=>q.elim (λq=>q.1) (M b a)) id
 have i:∀b,Z b->b<w.heap.size->¬A b->w'.heap[b]?=w.heap[b]?:=λb U a P=>r b U (λq=>P (h.inC b q)) a
 have t:∀b,B b->w'.heap[b]?=w.heap[b]?:=λb a=>i b (h.y.yz b (.inr a)) (h.y.yl b (.inr a)) (λq=>h.dis b q a)
 have N:∀b,D b->w'.heap[b]?=w.heap[b]?:=λb a=>r b (h.y.yz b (.inl (h.inD b a))) (λq=>h.cd b q a) (h.y.yl b (.inl (h.inD b a)))
 have s:=h.y.c.blk.lt
 refine⟨sv,uv,pre++x::post,λb=>((A b/\¬C b)\/d b)\/B b,⟨⟨h.y.c.O (i db h.y.zd s λq=>h.y.yd (.inl q)) (λb a=>i b (h.y.zs b a) (h.y.c.row.lt b a).2 λq=>h.y.ys b a (.inl q)),eD h.y.un (λb a=>i b (h.y.zu b a) (h.y.un.lt b a).2 λq=>h.y.yu b a (.inl q)),
  .inl h.y.zd,λb a=> .inl (h.y.zs b a),λb a=> .inl (h.y.zu b a),h.y.su,h.y.ud⟩,?_,?_,λq=>h.y.yd (m db s q),λb a q=>h.y.ys b a (m b (h.y.c.row.lt b a).2 q),λb a q=>h.y.yu b a (m b (h.y.un.lt b a).2 q)⟩,?_⟩
 .rintro b ((q|q)|q);.exact .inl (h.y.yz b (.inl q.1))
  .exact .inr q
  .exact .inl (h.y.yz b (.inr q))
 .rintro b ((q|q)|q);.exact aI (h.y.yl b (.inl q.1)) g
  .exact K b q
  .exact aI (h.y.yl b (.inr q)) g
 .refine j0.join (A:=λb=>(A b/\¬C b)\/d b) (B:=B) h.len ?_ ?_ (λb q=> .inl q) (λb q=> .inr q) ?_
  .refine⟨h.xn,?_⟩;rw[h.xn];refine .inr (.inl ⟨h.ok,ps1++p::ps2,λb=>D b\/d b,⟨Vw,h.lone,h.c1,h.c3,⟨eD h.row.1 λb a=>r b (h.y.yz b (.inl (h.row.2 b a))) (h.own b a).1 (h.row.1.lt b a).2,λb a=> .inl ⟨h.row.2 b a,(h.own b a).1⟩⟩,?_,?_,?_,h.pl⟩⟩)
   .rintro b (q|q);.exact .inl ⟨h.inD b q,λc=>h.cd b c q⟩
    .exact .inr q
   .rintro b a (q|q);.exact(h.own b a).2 q
    .exact(j b q).elim (h.own b a).1 (λe=>by have:=(h.row.1.lt b a).2;omega)
   .refine j0.join (A:=d) (B:=D) h.vl ⟨rfl,I⟩ (h.sub.imp λq v E _ _ l F=>⟨F.1,F.2.O λb a _=>N b (l b a)⟩) (λb q=> .inr q) (λb q=> .inl q) ?_;intro b o z;exact(j b o).elim (λc=>h.cd b c z) (λe=>by have:=h.y.yl b (.inl (h.inD b z));omega)
  .exact h.sep.imp λy f E _ _ l R=>R.O (λ_ _ _ _ O Q=>Q.O λb a _=>t b (l b (O b a))) (λb a _=>t b (l b a))
  .rintro b (q|q) a;.exact h.dis b q.1 a
   .exact(j b q).elim (λc=>h.dis b (h.inC b c) a) (λe=>by have:=h.y.yl b (.inr a);omega)
end
end Go.Proofs.YtfebdimolnobaaaGreatDoor
