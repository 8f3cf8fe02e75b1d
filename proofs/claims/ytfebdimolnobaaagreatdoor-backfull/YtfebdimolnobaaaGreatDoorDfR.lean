import Derived.Test.YtfebdimolnobaaaGreatDoorDfP
import Derived.Test.YtfebdimolnobaaaGreatDoorPyA
import Derived.Test.YtfebdimolnobaaaGreatDoorPxC
set_option maxRecDepth 100000
set_option maxHeartbeats 8000000
set_option linter.all false
namespace Go.Proofs.YtfebdimolnobaaaGreatDoor
open Go.RowKit Go.Proofs.Tryz
section
open VH
def fP.clip {w w':aw}{Z Z':ax}(h:fP w Z w' Z'):fP w Z w' (λb=>Z' b/\b<w'.heap.size):=⟨h.os,h.tape,h.output,h.size,h.block,λb q=>h.grow b q.1⟩
def fP.less {a b:aw}{S S' T:ax}(h:fP a S b T)(c:∀x,S x->S' x\/a.heap.size<=x):fP a S' b T:=
 ⟨h.os,h.tape,h.output,h.size,λi d q=>h.block i d (λe=>(c i e).elim q (λe=>Vv)),λi q=>(h.grow i q).elim (c i) .inr⟩
def sq {t:au}{n:Int}{f:fw}(h:ed (qv t).fs n=some f):n=1/\f=⟨oh,t,eS,lM,1⟩:=by
 unfold qv at h;simp only[ed]at h;grind
def eQ.toKey {S:eF}{f:fw}{k:Nat}{w:aw}{Z:ax}{db:Nat}{m:PM}(h:eQ S k (some (eR f)) w Z db m):eQ S k (some (qv f.key)) w Z db m:=by
 cases k with
 |zero=>exact h
 |succ k=>
  obtain⟨sv,uv,l,Y,u,s⟩:=h;refine⟨sv,uv,l,Y,u,s.imp λx g A _ _ _ h=>⟨h.1,?_⟩⟩
  have i:∀n a,ed (qv f.key).fs n=some a->ed (eR f).fs n=some a:=λn a q=>by
   obtain⟨rfl,rfl⟩:=sq q;rfl
  have r:∀n e,oO S (some (eR f)) n e->oO S (some (qv f.key)) n e:=λn e q d a b c=>by
   cases b;exact q (eR f) a rfl (i n a c)
  rcases h.2 with⟨q,lv,h⟩|⟨q,j,B,h⟩|⟨t,q,y,j,B,h⟩;.grind
  .refine .inr (.inl ⟨r _ _ q,j,B,{h with lone:=(λ⟨d,a,b,c,o⟩=>by cases b;exact h.lone ⟨_,a,rfl,i _ _ c,o⟩),sub:=h.sub.imp λp v C _ _ _ q=>⟨q.1,?_⟩}⟩)
   cases hff:ed (qv f.key).fs x.1 with
   |none=>
    have:ou S (some (qv f.key)) x.1=none:=by unfold ou;grind
    rw[this]
    exact q.2.forget
   |some a=>
    have:ou S (some (qv f.key)) x.1=ou S (some (eR f)) x.1:=by unfold ou;grind
    grind
  grind
structure Lq (S:eF)(k:Nat)(t:au)(m:PM)(n:Int)(w2 w3:aw)(db g c N:Nat)(uv:Value)(pre post:List gH)(A:ax)(mb:Nat)(ps:aB)(C:ax):Prop where
 dc:DR w3 db (Vr g N c) uv (pre++(n,ai,ai,.map (some mb))::post)
 k3:∀b,b<w2.heap.size->b≠g->w3.heap[b]?=w2.heap[b]?
 s3:w2.heap.size<=w3.heap.size
 os:w3.os=w2.os/\w3.tape=w2.tape/\w3.output=w2.output
 map:j8 w3 mb ((m.get n).map λv=>kr t (fS v)) ps
 hm:A mb\/w2.heap.size<=mb
 mC:¬C mb
 CA:∀b,C b->A b
 key:∀v∈m.get n,Fi t (fS v)
 srt:(m.get n).Pairwise (λa b=>lI (kr t (fS a)) (kr t (fS b)))
 sub:j0 (λp v C=>v=mV v.2.2/\eQ S k none w2 C p v.2.2) C ps (m.get n)
 c3:w3.cell? (aj g (pre.length*4+3))=some (.map (some mb))
def vF (S:eF)(k:Nat)(T:Option MT)(w:aw)(Z E:ax)(db eb:Nat)(m em:PM)(n:Int)(t:au)(sg:Bool)(h:eQ S (k+1+1) T w Z db m)(v:eQ S (k+1) (some (qv t)) w E eb em)(c:S.msg t=none)(r:∀b,E b->¬Z b)(a:∀b,Z b->b<w.heap.size)(p:∀b,E b->b<w.heap.size)
  (hok:oO S T n (.ents t)) (j:∀kd,oO S T n kd->kd= .ents t) (i:sg=fk jp t) (F:Fi t (fS (mV (gD em)))) (R:(gD em).get 1≠ []) (M:m.fs.length<2199023255000) (hgl:(m.get n).length<2199023255000) (g:em.fs.length<2199023254998):
  Calls prog 187 #[ah db,aa n,.bool sg,ah eb] w λe w'=>e= .returned (.tuple #[])/\∃Z',fP w (λb=>Z b\/E b) w' Z'/\eQ S (k+1+1) T w' Z' db (m.put n (jX t (m.get n) (mV (gD em)))):=by
 have s:pQ S ⟨oh,t,eS,lM,1⟩= .vals:=(by unfold pQ fw.isMap fC;have a:gQ lM xD=false:=BT;simp[a,fw.isMap,c])
 have l:oO S (some (qv t)) 1 .vals:=λd f a c=>by
  cases a;obtain⟨_,rfl⟩:=sq c;grind
 have o:oO S (some (qv t)) 2 .vals:=λd f a c=>by
  cases a;have:=(sq c).1;omega
 have WN:∀kd,oO S (some (qv t)) 1 kd->kd= .vals:=λkd q=>by rw[q (qv t) ⟨oh,t,eS,lM,1⟩ rfl rfl,s]
 subst i;have c:=DV S k (some (qv t)) w E eb em v l o g p
 have V:(gD em).fs.length<2199023255000:=by
  have e:(gD em).fs=(fV (fV em 1) 2).fs:=rfl
  have a:∀(m:PM) (n:Int),(fV m n).fs.length<=m.fs.length+1:=λm n=>by
   unfold fV;split;.exact PM.put_len m n _
   .omega
  grind
 obtain⟨I,d⟩:=Vu (gD em);rw[d]at c F R V⊢;clear d;go_in
 go_wp2_with fail;refine c.V ?_;rintro e w1 ⟨rfl,g,d,f⟩;obtain⟨i,s,o,C⟩:∃i,fP w E w1 i/\eQ S (k+1) (some (qv t)) w1 i eb I/\∀b,i b->b<w1.heap.size:=⟨_,d.clip,f.clip,λb q=>q.2⟩;clear d f c;have y:∀b,i b->¬Z b:=λb d f=>(s.grow b d).elim (λq=>r b q f) (λq=>by grind)
 have a:eQ S (k+1+1) T w1 Z db m:=h.O λb q M=>s.block b M (λe=>r b e q)
 obtain⟨sv,uv,l,g,c,r⟩:=a.slot (n:=n) M;have u:=uF w1 db sv uv l n g c;go_wp2_with fail;refine u.V ?_;rintro e w2 l;obtain⟨g,c,pre,x,post,A,B,G,H,rfl,O,z,D,K,J⟩:=r w1 _ w2 (Below.refl _ _) l;clear l r u h a;have a:=z.grow g (.inr rfl)
 have u:∀b,i b->¬(Z b\/b=g):=λb q=>by
  grind
 have Wq:eQ S (k+1) (some (qv t)) w2 i eb I:=o.O λb q M=>z.block b M (y b q)
 have WQ:∀b,i b->b<w2.heap.size:=λb q=>aI (C b q) z.size
 obtain⟨Y,c1,c2,X,cf⟩:=O.cells rfl;have y:=(O.y.c.row.lt g rfl).2
 have Ws:fP w (λb=>Z b\/E b) w2 (λb=>(Z b\/b=g)\/i b):=
  ⟨z.os.J s.os,z.tape.J s.tape,z.output.J s.output,aM s.size z.size,λb J q=>(z.block b (aI J s.size) (λe=>q (.inl e))).J (s.block b J (λe=>q (.inr e))),λb q=>by
   rcases q with(q|rfl)|q;.grind
   .exact a.imp .inl (λe=>aM s.size e)
   .exact(s.grow b q).imp .inr id⟩
 clear v o s z p K;obtain⟨⟨z,B⟩,l⟩:=O.ofEnts j;have a:((pre++x::post).flatMap eC).length=(pre++x::post).length*4:=oT _;rcases l with⟨W,s,Xc⟩|⟨r,a,C,W,K,L,N,Q,G,H,D⟩
 focus
  rw[W]at X;have p:∃r a C,Lq S (k+1) t m n w2 ((w2.setCell (aj g (pre.length*4+3)) (.map (some w2.heap.size))).alloc (.map #[] 0)) db g c (pre++x::post).length uv pre post A r a C/\r=w2.heap.size:=(by have l:=O.y.c.put (j:=3) Vv (v:= .map (some w2.heap.size)) (x':=(x.1,ai,ai,.map (some w2.heap.size))) rfl ⟨⟨_,_,_,rfl⟩,⟨_,_,_,rfl⟩,_,rfl⟩ (by simp[eC,z,B]);rw[O.xn]at l;have U:(w2.setCell (aj g (pre.length*4+3)) (.map (some w2.heap.size))).heap.size=w2.heap.size:=Vw;have j:=l.G ((Below.refl _ _).alloc (aE _) (.map #[] 0));have l:=j8.made (w2.setCell (aj g (pre.length*4+3)) (.map (some w2.heap.size)));rw[U]at l;refine⟨_,[],λ_=>False,⟨j,λb J q=>(Below.l _ _ b Vv).J (by rw[dY,dQ (λe=>q e.sy)]),Vw,⟨rfl,rfl,rfl⟩,by grind,.inr (aE _),λq=>q,λ_ q=>q.elim,by grind,by rw[s];exact List.Pairwise.nil,by rw[s];trivial,?_⟩,rfl⟩;have l:(pre++(n,Value.slice none 0 0,Value.slice none 0 0,Value.map (some w2.heap.size))::post)[pre.length]?=some (n,ai,ai,.map (some w2.heap.size)):=Vw;obtain⟨P,e,_,o⟩:=sl (c:=c) (by have:=j.row;simpa using this) l;grind);have j:=run_eql_map_nil (P:=prog) w2 247 386 180 none underlying247;have WT:= @run_makeMap prog;have WU:∀o,(w2.alloc (.map #[] 0)).frozen? (aj g o)=false:=λo=>by rw[World.frozen?_of_block (Below.l _ _ g y)];grind
  have o:(w2.alloc (.map #[] 0)).cell? (aj g (pre.length*4+3))=some (.map none):=by rw[bE (Below.l _ _ g y)];exact X
  clear W s Xc;go_upto_region 4 with fail
  generalize(w2.setCell (aj g (pre.length*4+3)) (.map (some w2.heap.size))).alloc (.map #[] 0)=w3 at*;obtain⟨r,a,C,p,s⟩:=p;clear s Y c1 c2 X cf WT WU o
 rotate_left
 focus
  rw[W]at X;have p:Lq S (k+1) t m n w2 w2 db g c (pre++x::post).length uv pre post A r a C:=(by have o:x=(n,ai,ai,.map (some r)):=(by obtain⟨s,a2,a3,a4⟩:=x;have:=O.xn;simp only at this z B W;rw[this,z,B,W]);refine⟨?_,λ_ _ _=>rfl,aE _,⟨rfl,rfl,rfl⟩,K,.inl N,Q,L,G,H,D,X⟩;rw[<-o];exact O.y.c);have j:=run_eql_map_nil (P:=prog) w2 247 386 180 (some r) underlying247;clear K L N Q G H D W;go_upto_region 4 with fail
  obtain⟨w3,j⟩:∃w3,w3=w2:=⟨_,rfl⟩;rw[<-j];have o:Lq S (k+1) t m n w2 w3 db g c (pre++x::post).length uv pre post A r a C:=by grind
  clear p;have p:=o;clear o Y c1 c2 X cf j
 all_goals
  have H:eQ S (k+1) (some (qv t)) w3.drew i eb I:=Wq.O (λb q M=>p.k3 b M (λe=>u b q (.inr e)));obtain⟨c,x,A,j,a,z⟩:=H.slot (n:=1) V;have WX:=uF w3.drew eb c x A 1 j a;obtain⟨D,s,U,Xe⟩:=p.map;have B:=s.lt;have o:¬i r:=λq=>p.hm.elim (λa=>u r q (O.y.yz r (.inl a))) (λa=>by grind)
  have WY:¬i g:=λq=>u g q (.inr rfl)
  have C:=aI y p.s3;have a:∀b,i b->b<w3.heap.size:=λb q=>aI (WQ b q) p.s3
  have WZ:w3.drew.cell? (aj g (pre.length*4+3))=some (.map (some r)):=p.c3
  have P:Hid (∀(a:aw) (e:Ending) (w1:aw),Below w3.drew.heap.size w3.drew a->wS a eb c x A 1 e w1->∃u Y L Q lv j,e= .returned (.pointer (some (aj u (Y.length*4))))/\w1.cell? (aj u ((Y:List gH).length*4+1))=some (Vr Q (lv+1) j)/\w1.cell? (aj Q 0)=some (.int .u64 L.1)/\w1.cell? (aj Q 1)=some (ag L.2)/\w1.cell? (aj Q 2)=some (ai)/\w1.cell? (aj Q 3)=some (Vp)/\
    fS (mV I)=re L/\eQ S (k+1) none w1 (λb=>i b\/b=u) eb I/\fP a i w1 (λb=>i b\/b=u)):=by
   intro a e y J W;obtain⟨u,ce,Y,x',x,A',X,N,V,rfl,c,G,A,K4,K⟩:=z a e y J W;obtain⟨⟨a,x⟩,l⟩:=c.ofVals (.inl WN);obtain⟨Q,j,lv,N,V,a,A,x⟩:=l.resolve_left (λq=>R q.2);obtain⟨a,A,l,N,W⟩:=c.cells rfl;rw[V]at A
   cases lv with
   |nil=>grind
   |cons L lv=>
    obtain⟨l,e,_,_,a⟩:=eJ x Vw;cases e;refine⟨u,Y,L,Q,lv.length,j,rfl,A,a y rfl 0 _ rfl,a y rfl 1 _ rfl,a y rfl 2 _ rfl,a y rfl 3 _ rfl,?_,(c.shut R).forget,G⟩;show((I.get 1).headD PV.none)=re L;grind
  clear z H Wq
  have a:zW (kr t (fS (mV I))):=⟨by
   unfold kr;have:=F.lo;simp only
   split<;>omega,by
   unfold kr;have:=F.hi;have:=F.lo;simp only
   split<;>omega,by have:=F.sz;unfold maxLen;show(fS (mV I)).2.1.size<=_;omega⟩
  obtain⟨c,x⟩:=QZ a;have R:((m.get n).map λv=>kr t (fS v)).length<maxLen:=by rw[bO];unfold maxLen;omega
  have Wd:Hid (∀(y V w6:aw) (u:Nat),eQ S (k+1) none y (λb=>i b\/b=u) eb I->fP w3.drew i y (λb=>i b\/b=u)->ak y V->w6.ownsMap prog 386 gO r (((m.get n).map λv=>kr t (fS v)).length+1) (D.put c (oM (some eb)))->V.grownBy w6 (some r)->
    ∃Z',fP w (λb=>Z b\/E b) w6 Z'/\eQ S (k+1+1) T w6 Z' db (m.put n (jX t (m.get n) (mV I)))):=by
   intro y V w6 u z G H a N;have K:=G.grow u (.inr rfl);have c:w3.heap.size<=y.heap.size:=G.size;have l:∀b,b=u->i b\/w3.heap.size<=b:=λb e=>by rw[e];exact K
   have W:r≠u:=λe=>(l r e).elim o (λq=>Vv)
   have We:=z.clip
   have K:∀b,b<w3.heap.size->¬(i b\/b=u)->b≠r->w6.heap[b]?=w3.heap[b]?:=λb J d f=>
    ((N.block b (aI (aI J c) H.size) (λe=>f (by grind))).J (H.block b (aI J c))).J (G.block b J (λq=>d (.inl q)))
   have X:eQ S (k+1) none w6 (λb=>(i b\/b=u)/\b<y.heap.size) eb I:=We.O λb q M=>(N.block b (aI M H.size) (λe=>by
    grind)).J (H.block b M)
   have I:∀b,((i b\/b=u)/\b<y.heap.size)->¬(Z b\/b=g):=by
    rintro b ⟨q,_⟩ M;rcases q with q|q;.grind
    .rcases l b q with q|q;.grind
     .have:=Ws.size;have:=p.s3;grind
   have M:¬((i r\/r=u)/\r<y.heap.size):=λq=>q.1.elim o W
   obtain⟨W,f2⟩:=O.ents (E:=λb=>(i b\/b=u)/\b<y.heap.size) (w3:=w3) (w6:=w6) p.dc p.k3 p.s3 (λb J d f=>K b J (λq=>d ⟨q,aI J c⟩) f) (aM c (aM H.size N.size)) ⟨N.os.J (H.os.J (G.os.J p.os.1)),N.tape.J (H.tape.J (G.tape.J p.os.2.1)),N.output.J (H.output.J (G.output.J p.os.2.2))⟩
    ⟨w3,s⟩ U Xe a x p.hm p.mC p.CA I M (λb q=>aI q.2 (aM H.size N.size)) a.lt p.key F p.srt p.sub X hok hgl
   refine⟨_,Ws.J (W.less ?_),f2⟩;rintro b (q|⟨q|q,_⟩);.grind
   .grind
   .exact(l b q).imp .inr (λq=>aM p.s3 q)
  have i:=λL:LV=>OF (v:=L) (sg:=fk jp t)
  go_region_with
   (first
    |(go_at_call 266;refine WX.V ?_;rintro e y f;obtain⟨u,Y,L,Q,lv,j,rfl,A,l,p,q,v,c,z,G⟩:=P.o w3.drew e y (Below.refl _ _) f;have d:y.cell? (aj g (pre.length*4+3))=some (.map (some r)):=(bE (G.block g C WY)).J WZ)
    |(go_at_call 267;refine(i L y (by have:=F.lo;rw[c]at this;exact this) (by have:=F.hi;rw[c]at this;exact this)).V ?_;rintro e V ⟨rfl,H⟩;obtain⟨w6,f,a,N⟩:=((lg s ((H.block r (aI B G.size)).J (G.block r B o))):V.ownsMap prog 386 gO r _ D).update FM underlying247 R (key:=kV (FQ (fk jp t) L)) (val:=ah eb) (by rw[c]at x;exact x) (lO (some eb));have j:V.cell? (aj g (pre.length*4+3))=some (.map (some r)):=(bE (H.block g (aI C G.size))).J d))
  all_goals
   go_end0;exact⟨rfl,Wd.o y V w6 u z G H a N⟩
end
structure eU (w:aw)(Z:ax)(rb:Nat)(w':aw)(Z':ax):Prop where
 os:w'.os=w.os
 tape:w'.tape=w.tape
 output:w'.output=w.output
 size:w.heap.size<=w'.heap.size
 block:∀b,b<w.heap.size->¬Z b->b≠rb->w'.heap[b]?=w.heap[b]?
 grow:∀b,Z' b->Z b\/w.heap.size<=b
section
variable {a b c:aw} {Z Y X:ax} {rb n:Nat}
def eU.J (h:eU a Z rb b Y)(k:eU b Y rb c X):eU a Z rb c X:=
 ⟨k.os.J h.os,k.tape.J h.tape,k.output.J h.output,aM h.size k.size,λi d f g=>(k.block i (aI d h.size) (λe=>(h.grow i e).elim f (λe=>Vv)) g).J (h.block i d f g),
  λi q=>(k.grow i q).elim (h.grow i) (λe=> .inr (aM h.size e))⟩
def eU.oS (h:fP a Z b Y):eU a Z rb b Y:=⟨h.os,h.tape,h.output,h.size,λi d q _=>h.block i d q,h.grow⟩
def eU.oK (h:ee [rb] a b):eU a Z rb b Z:=⟨h.os,h.tape,h.output,h.size,λi d _ q=>h.block i d (by simpa using q),λ_ q=> .inl q⟩
def eU.oB (h:Below a.heap.size a b):eU a Z rb b Z:= .oK (.oB h)
def eU.refl (a:aw)(Z:ax)(rb:Nat):eU a Z rb a Z:= .oB (Below.refl _ _)
def eU.not (h:eU a Z rb b Y)(hb:n<a.heap.size)(hn:¬Z n):¬Y n:=λq=>(h.grow n q).elim hn (λe=>Vv)
def eU.G {B:Nat}(h:eU a Z rb b Y)(e:B<=a.heap.size)(d:∀x,Z x->B<=x)(g:B<=rb):Below B a b:=
 ⟨h.os,h.tape,h.output,h.size,λi f=>h.block i Vv (λq=>by have:=d i q;omega) Vv⟩
def eU.clip (h:eU a Z rb b Y):eU a Z rb b (λx=>Y x/\x<b.heap.size):=⟨h.os,h.tape,h.output,h.size,h.block,λx q=>h.grow x q.1⟩
end
structure FG (S:eF)(mp:an)(d:MT)(f:fw)(g:GF):Prop where
 eq:g.f=f
 form:g.form=0\/g.form=1\/g.form=2\/g.form=3\/g.form=4
 map:f.isMap=decide (g.form=4)
 rep:f.isRep=decide (g.form=2)
 sin:gQ f.how eS=decide (g.form=0)
 riv:g.riv=lx d f
 lone:g.form≠3->g.riv= []
 rlen:g.riv.length<=2199023255000
 base:jC mp f.ty=S.base f.ty
 nest:S.base f.ty=16<->(S.msg f.ty).isSome=true
 key:g.form=4->jC mp f.key=S.base f.key/\S.base f.key<=14/\S.msg f.key=none/\iM (S.base f.key)=fk jp f.key
structure lJ (S:eF)(mp:an)(d:MT)(gs:List GF):Prop where
 srt:gs.Pairwise (λx y=>x.f.num<=y.f.num)
 len:gs.length<=2001
 no:∀n,ed d.fs n=none->iL gs n=none
 yes:∀n f,ed d.fs n=some f->∃g,iL gs n=some g/\FG S mp d f g
structure tz (w:aw)(B:Nat)(S:eF)(mp:an):Prop where
 u:UOK w
 u1:2<B
 u2:3<B
 le:B<=w.heap.size
 md:∀t d,S.msg t=some d->∃mb gs,zJ mp t=some mb/\jk w (λb=>b<B) mp mb d.name gs/\lJ S mp d gs
def tz.on {w w':aw}{B:Nat}{S:eF}{mp:an}(h:tz w B S mp)(e:Below B w w'):tz w' B S mp:=
 ⟨h.u.O (e.block _ h.u1) (e.block _ h.u2),h.u1,h.u2,aM h.le e.size,λt d q=>by
  have⟨k,f,g,i,j⟩:=h.md t d q
  exact⟨k,f,g,i.O (λb q _=>e.block b q),j⟩⟩
structure Fj (S:eF):Prop where
 good:Ay S
 name:∀d∈S.ms,gQ d.name eS=false
def iE (S:eF)(k:Nat)(d:MT)(w:aw)(Z:ax)(rb db:Nat)(s:au)(deep:Nat)(R:Fx (PM×Nat))(en:Ending)(w':aw):Prop:=
 match R with
 | .error x=>en=d5 x.1 x.2/\∃Z',eU w Z rb w' Z'
 | .ok x=>en= .returned (.tuple #[])/\∃Z',eU w Z rb w' Z'/\eQ S (k+1) (some d) w' Z' db x.1/\ei w' rb s x.2 deep
def iE.pre {S:eF}{k:Nat}{d:MT}{w w1:aw}{Z Z1:ax}{rb db:Nat}{s:au}{deep:Nat}{R:Fx (PM×Nat)}{en:Ending}{w':aw}(h:eU w Z rb w1 Z1)(e:iE S k d w1 Z1 rb db s deep R en w'):iE S k d w Z rb db s deep R en w':=by
 unfold iE at*;split at e;.exact⟨e.1,e.2.imp λ_ q=>h.J q⟩
 .obtain⟨g,f,i,j⟩:=e;exact⟨g,f,h.J i,j⟩
def pR (e:Nat):Fx PM->Fx (PM×Nat)
 | .error x=> .error x
 | .ok m=> .ok (m,e)
def kz (S:eF)(b:au)(F:Nat)(d:MT)(f:fw)(m:PM)(deep:Nat):Fx pO->Fx (PM×Nat)
 | .error x=> .error x
 | .ok r=>pR r.e (zT S b F d f m r deep)
def rT (f:fw):∀(l:List fw) (m:PM),iW f l m=m.without ((l.filter λo=>gQ o.how f.how&&i9 o.how&&decide (o.num≠f.num)).map (·.num))
 | [],m=>by
  cases m;simp only[iW,PM.without,PM.fs,PM.unk,List.filter_nil,cF];congr 1
  exact(dd.2 Vw).sy
 |o::l,m=>by
  rw[iW,rT f l];rw[cm];split
  .rw[bC,<-vC];unfold PM.without;simp only[PM.fs,PM.unk,List.filter_filter];congr 1;refine List.filter_congr λx _=> ?_
   rw[<-Bool.decide_and];congr 1;simp[aR,not_or,and_comm]
  .rfl
def yi (d:MT)(f:fw)(m:PM):iW f d.fs m=m.without (lx d f):=rT f d.fs m
def jr (m:PM):m.without []=m:=by
 cases m;simp only[PM.without,PM.fs,PM.unk];congr 1;exact dd.2 Vw
def qw (n:Int)(ns:ar)(h:n∉ns):∀l:List PF,gT (l.filter λf=>decide (f.1∉ns)) n=gT l n
 | []=>rfl
 |x::l=>by
  rw[cm,gT];by_cases q:x.1∈ns
  .have:decide (x.1∉ns)=false:=by simp[q]
   rw[this,dQ Vw,dQ (λe:x.1=n=>h (by rw[<-e];exact q)),qw n ns h l]
  .have:decide (x.1∉ns)=true:=by simp[q]
   rw[this,dR rfl,gT,qw n ns h l]
def vG {m:PM}{n:Int}{ns:ar}(h:n∉ns):(m.without ns).get n=m.get n:=qw n ns h m.fs
def Hm (d:MT)(f:fw):f.num∉lx d f:=λh=>by
 unfold lx at h;have⟨o,g,e⟩:=aS.1 h;have:=(bA.1 g).2;simp only[aQ,dS]at this;exact this.2 e
def WM.without {S:eF}{a:Nat}{d:MT}{m:PM}(h:WM S a d m)(f:fw):WM S a d (m.without (lx d f)):=by
 rw[<-yi];exact h.dropF f d.fs
section
open VH
section
variable {w:aw} {s b:au} {deep num:Int} {z k:Nat} {r:pO} {S:eF} {mp:an} {d:MT} {f:fw} {g:GF} {m:PM}
theorem Hp (w:aw)(P:ax)(mp:an)(g:GF)(fb:Nat)(h:fi w P mp g fb)(t:g.form=4):
  Calls prog 188 #[ah fb] w λe w'=>∃pv,e= .returned (.agg #[aa (jC mp g.f.key),pv])/\ak w w':=by
 have⟨pv,D,p,_,_,d⟩:=h.blk;rw[dR t]at d;obtain⟨o,rfl,r⟩:=d;have⟨j,k⟩:=ec w #[aa 0,.pointer none] 216;have m:=p.alloc (am #[aa 0,.pointer none] 216);have⟨i,x⟩:=m.I;have c:=qW (w.alloc (am #[aa 0,.pointer none] 216)) P mp o eS _ 1 (r.msg.O (λb _ u=>j.block b u)) (uz g.f.key g.f.ty) Vw;rw[DM]at c;unfold ii at i;go_in
 go_wp2_with fail;refine c.V ?_;rintro e w2 ⟨⟨E,rfl,s⟩,rfl⟩;have⟨n,y,f,_,_,a⟩:=s.blk;have l:eK mp (lN oh g.f.key 1)=jC mp g.f.key:=by unfold eK;rw[dQ (by simp[lN])];rfl
 rw[l]at f;rw[dQ (by simp[lN])]at a;obtain⟨q,v⟩:∃q,n= .pointer q:=(by subst a;unfold ii;split<;>exact⟨_,rfl⟩);subst v;have⟨z,A⟩:=f.I;have⟨B,C⟩:=k.I;clear i x a;go_wp2;refine dU (ew results188 _ _ rfl (dZ.new w _ _) underlying216 VA) rfl ?_;exact⟨_,rfl,(Below.refl _ _).alloc (aE _) _⟩
theorem pV.part {α:Type}{rb:Nat}{r:Fx (α×Nat)}{V:α->Value}{e:Ending}{w':aw}(h:pV w rb s deep r V e w'):
  (∃x,r= .error x/\e=d5 x.1 x.2/\ee [rb] w w')\/∃x,r= .ok x/\e= .returned (V x.1)/\ee [rb] w w'/\ei w' rb s x.2 deep:=by
 obtain⟨b,a⟩:=h
 cases r with
 |error x=>exact .inl ⟨x,rfl,a,b⟩
 |ok x=>exact .inr ⟨x,rfl,a.1,b,a.2⟩
theorem qx {a:Nat}{kind:Int}(h:fN s a num kind z= .ok r):z<r.e/\r.fr<=r.e/\r.e<=s.size/\0<=r.n/\r.n<2^64/\z<=r.fr:=by
 have g:∀(k:Nat) (y:Int×Nat),k<=8->1<=k->ju s z k= .ok y->z<y.2/\y.2<=s.size/\0<=y.1/\y.1<2^64:=λk y i j q=>by
  unfold ju at q;split at q;.cases q;have:=uC (s:=s.extract z (z+k)) (by rw[bf];omega);exact⟨Vx,by simpa,this.1,this.2⟩
  .cases q
 unfold fN at h;split at h
 .cases hv:iV s z s.size with
  |error x=>rw[hv]at h;cases h
  |ok x=>
   rw[hv]at h;cases h;have⟨d,b,c,f⟩:=jm (m:=x.1) (z:=x.2) hv;exact⟨c,Vx,f,d,b,aE _⟩
 .split at h
  .cases hv:ju s z 8 with
   |error x=>rw[hv]at h;cases h
   |ok x=>
    rw[hv]at h;cases h;have⟨d,b,c,f⟩:=g 8 x Vv Vv hv;exact⟨d,Vx,b,c,f,aE _⟩
  .split at h
   .cases hv:ju s z 4 with
    |error x=>rw[hv]at h;cases h
    |ok x=>
     rw[hv]at h;cases h;have⟨d,b,c,f⟩:=g 4 x Vv Vv hv;exact⟨d,Vx,b,c,f,aE _⟩
   .cases hv:ft s z with
    |error x=>rw[hv]at h;cases h
    |ok x=>
     rw[hv]at h;cases h;have⟨d,b,c⟩:=jw (z:=x.1) (e:=x.2) hv;exact⟨Vx,b,c,Vw,Vw,Vx⟩
theorem nE {a:Nat}(b:k=0\/k=1\/k=2\/k=5)(h:fN s a num k z= .ok r):r.kind=k:=by
 rcases b with rfl|rfl|rfl|rfl;.rw[Fz]at h;cases hv:iV s z s.size<;>rw[hv]at h<;>cases h;rfl
 .rw[FA]at h;cases hv:ju s z 8<;>rw[hv]at h<;>cases h;rfl
 .rw[uD]at h;cases hv:ft s z<;>rw[hv]at h<;>cases h;rfl
 .rw[FB]at h;cases hv:ju s z 4<;>rw[hv]at h<;>cases h;rfl
theorem DY (k:Nat):eM k=0\/eM k=1\/eM k=2\/eM k=5:=by
 unfold eM;split;.exact .inl rfl
 .split;.exact .inr (.inl rfl)
  .split;.exact .inr (.inr (.inr rfl))
   .split;.exact .inl rfl
    .exact .inr (.inr (.inl rfl))
theorem DZ {x:LV×Nat}(e:k<=15)(h:gG s z k= .ok x):z<x.2/\x.2<=s.size/\0<=x.1.1/\x.1.1<2^64:=by
 rw[xW s 0 0 z k e]at h
 cases hr:fN s 0 0 (eM k) z with
 |error y=>rw[hr]at h;cases h
 |ok r=>
  rw[hr]at h;have⟨a,_,b,c,d,_⟩:=qx hr;simp only[DP]at h
  cases hv:zS s k r with
  |error y=>rw[hv]at h;cases h
  |ok v=>
   rw[hv]at h;cases h;refine⟨a,b,?_⟩;unfold zS at hv;split at hv
   .split at hv;.cases hv;simp
    .cases hv
   .split at hv;.cases hv;simp
    .cases hv;exact i8 c d
theorem Hq {F deep a e:Nat}(c:FG S mp d f g)(n:g.form=2)(j:S.base f.ty<=15)(k:e<=b.size):
  kz S b F d f m deep (fN (b.extract 0 e) a num (eM (S.base f.ty)) z)=match gG (b.extract 0 e) z (S.base f.ty)with| .error x=> .error x| .ok x=> .ok (m.put f.num (m.get f.num++ [re x.1]),x.2):=by
 rw[xW (b.extract 0 e) a num z _ j]
 cases hr:fN (b.extract 0 e) a num (eM (S.base f.ty)) z with
 |error x=>rfl
 |ok r=>
  have l:=nE (DY _) hr;have⟨_,_,i,_⟩:=qx hr;rw[gK k]at i;have h:f.isMap=false:=by rw[c.map,n];rfl
  have o:f.isRep=true:=by rw[c.rep,n];rfl
  have p:fC S f=none:=by
   unfold fC;rw[h]
   cases hq:S.msg f.ty with
   |none=>rfl
   |some x=>have:=c.nest.2 (by rw[hq];rfl);omega
  simp only[kz,zT,DP];rw[dR (by unfold fX;rw[h];exact l)];unfold qr ot;rw[p];simp only;rw[DQ rfl j l i k]
  cases zS (b.extract 0 e) (S.base f.ty) r with
  |error x=>rfl
  |ok v=>
   simp only[Hi,pR,ie,h,o,if_true,aU,if_false];rfl
theorem D3 {F deep a e:Nat}(h:FG S mp d f g)(i:g.form=2)(k:eM (S.base f.ty)≠2):
  kz S b F d f m deep (fN (b.extract 0 e) a num 2 z)=match ft (b.extract 0 e) z with| .error x=> .error x| .ok y=>(match fY b (S.base f.ty) y.2 (y.2-y.1) (m.get f.num) y.1 with| .error x=> .error x| .ok l=> .ok (m.put f.num l,y.2)):=by
 have c:fN (b.extract 0 e) a num 2 z=_:=uD (b.extract 0 e) a num z;rw[c];have j:f.isMap=false:=by rw[h.map,i];rfl
 cases ft (b.extract 0 e) z with
 |error x=>rfl
 |ok y=>
  simp only[kz,zT];rw[dQ (by unfold fX;rw[j];exact λq=>k q.sy)];unfold mL;cases fY b (S.base f.ty) y.2 (y.2-y.1) (m.get f.num) y.1<;>rfl
def NP (m:PM):Prop:=m.fs.Pairwise (λa b=>a.1<b.1)
theorem AF {n:Int}:∀{fs:List PF},fs.Pairwise (λa b=>a.1<b.1)->∃fp fq,(∀x∈fp,x.1<n)/\(∀x∈fq,n<x.1)/\(fs=fp++fq\/∃old,fs=fp++(n,old)::fq)
 | [],_=>⟨[],[],Vw,Vw,.inl rfl⟩
 |x::l,h=>by
  rw[bu]at h;by_cases h1:x.1<n;.have⟨fp,fq,d,f,g⟩:=AF (n:=n) h.2;refine⟨x::fp,fq,λy c=>(aR.1 c).elim (λe=>by rw[e];exact h1) (d y),f,g.imp (λe=>by rw[e];rfl) (λ⟨o,e⟩=>⟨o,by rw[e];rfl⟩)⟩
  .by_cases h2:x.1=n;.exact⟨[],l,Vw,λy c=>by have:=h.1 y c;omega,.inr ⟨x.2,by rw[<-h2];rfl⟩⟩
   .exact⟨[],x::l,Vw,λy c=>(aR.1 c).elim (λe=>by rw[e];omega) (λq=>by have:=h.1 y q;omega),.inl rfl⟩
theorem tB (h:NP m)(n:Int):∃fp fq,(∀x∈fp,x.1<n)/\(∀x∈fq,n<x.1)/\(∀vs,m.put n vs= .mk (fp++((if vs.isEmpty then []else [(n,vs)])++fq)) m.unk)/\(m.fs=fp++fq\/∃old,m.fs=fp++(n,old)::fq):=by
 have⟨fp,fq,b,c,d⟩:=AF (n:=n) h
 have f:∀x∈fp++fq,x.1≠n:=λx a=>by
  rcases aW.1 a with a|a;.have:=b x a;omega
  .have:=c x a;omega
 refine⟨fp,fq,b,c,λvs=> ?_,d⟩;unfold PM.put
 cases hv:vs.isEmpty with
 |true=>
  rw[mZ];simp only[if_true,aX];rcases d with e|⟨old,e⟩;.rw[e,m8 n _ f]
  .rw[e,cN,cm,dQ Vw,<-cN,m8 n _ f]
 |false=>
  simp only[aU,if_false];rcases d with e|⟨old,e⟩;.rw[e,tq n vs fq c fp b];rfl
  .rw[e,wT n vs old fq c fp b];rfl
theorem Hr (h:NP m)(n:Int)(vs us:List PV):(m.put n vs).put n us=m.put n us:=by
 have⟨b,c,d,e,g,_⟩:=tB h n;rw[g vs,g us];unfold PM.put;simp only[PM.fs,PM.unk]
 have f:∀x∈b++c,x.1≠n:=λx a=>by
  rcases aW.1 a with a|a;.have:=d x a;omega
  .have:=e x a;omega
 cases us.isEmpty with
 |true=>
  rw[mZ]
  cases vs.isEmpty with
  |true=>simp only[if_true,aX];rw[m8 n _ f]
  |false=>
   simp only[aU,if_false,if_true,aX,bo]
   rw[cN,cm,dQ Vw,<-cN,m8 n _ f]
 |false=>
  cases vs.isEmpty with
  |true=>simp only[aU,if_false,if_true,aX,bo];rw[tq n us c e b d]
  |false=>simp only[aU,if_false,aX,bo];rw[wT n us vs c e b d]
theorem D4 (h:NP m)(n:Int)(vs:List PV):(m.put n vs).get n=vs:=by
 have⟨c,d,b,e,f,_⟩:=tB h n;rw[f vs];unfold PM.get;simp only[PM.fs]
 cases hv:vs.isEmpty with
 |true=>
  simp only[if_true,aX]
  rw[nX n _ λx a=>by
   rcases aW.1 a with a|a;.have:=b x a;omega
   .have:=e x a;omega]
  exact(List.isEmpty_iff.1 hv).sy
 |false=>
  simp only[aU,if_false,bo,aX];exact rh n vs d c b
theorem Hs (h:NP m)(p:∀f∈m.fs,f.2≠ [])(n:Int):m.put n (m.get n)=m:=by
 have⟨j,k,g,l,i,o⟩:=tB h n;have d:m= .mk m.fs m.unk:=by cases m;rfl
 rcases o with e|⟨a,e⟩
 .have c:m.get n= []:=by
   unfold PM.get;rw[e]
   exact nX n _ λx b=>by
    rcases aW.1 b with b|b;.have:=g x b;omega
    .have:=l x b;omega
  rw[c,i]
  conv=>rhs;rw[d,e]
  rfl
 .have c:m.get n=a:=(by unfold PM.get;rw[e];exact rh n a k j g);have:=p (n,a) (by rw[e];simp);rw[c,i]
  conv=>rhs;rw[d,e]
  cases a with
  |nil=>exact absurd rfl this
  |cons _ _=>rfl
theorem eQ.srt {T:Option MT}{Z:ax}{db:Nat}(h:eQ S (k+1) T w Z db m):NP m/\∀f∈m.fs,f.2≠ []:=by
 obtain⟨sv,uv,l,Y,e,b⟩:=h;refine⟨?_,b.filled⟩;have c:=e.c.srt;have d:=b.nums;unfold NP;have a:(l.map (·.1)).Pairwise (·< ·):=cw.2 c;rw[<-d]at a;exact cw.1 a
end
section
variable {S:eF} {d:MT} {f:fw} {mp:an} {g:GF} {w:aw}
structure pE (w:aw)(B:Nat)(S:eF)(mp:an)(k:Nat)(d:MT)(Z:ax)(rb db:Nat)(b:au)(e a z deep:Nat)(m:PM):Prop where
 cx:tz w B S mp
 hr:ei w rb (b.extract 0 e) z deep
 hd:eQ S (k+1) (some d) w Z db m
 hZ:∀x,Z x->B<=x/\x<w.heap.size
 rB:B<=rb
 rZ:¬Z rb
 az:a<z
 ze:z<=e
 eb:e<=b.size
 bs:b.size<=1800000000000
 wm:WM S a d m
theorem oU (b:ed d.fs f.num=some f)(c:pQ S f= .vals):oO S (some d) f.num .vals/\∀kd,oO S (some d) f.num kd->kd= .vals:=
 ⟨λg h e a=>by cases e;rw[b]at a;cases a;exact c.sy,λkd q=>by rw[q d f rfl b,c]⟩
theorem lQ (b:FG S mp d f g)(e:g.form≠4)(h:S.base f.ty<=15):pQ S f= .vals/\fC S f=none/\f.isMap=false:=by
 have a:f.isMap=false:=by rw[b.map];simp[e]
 have c:fC S f=none:=by
  unfold fC;rw[a]
  cases hq:S.msg f.ty with
  |none=>rfl
  |some x=>have:=b.nest.2 (by rw[hq];rfl);omega
 exact⟨by unfold pQ;rw[a,c];rfl,c,a⟩
theorem eU.dr {k:Nat}{T:Option MT}{w':aw}{Z:ax}{rb db:Nat}{m:PM}(h:eQ S k T w Z db m)(a:ee [rb] w w')(d:¬Z rb):eQ S k T w' Z db m:=
 h.O λb q c=>a.block b c (by simp;exact λe=>d (e▸q))
def Lu (m:PM)(n:Int):Fx (LV×Nat)->Fx (PM×Nat)
 | .error x=> .error x
 | .ok x=> .ok (m.put n (m.get n++ [re x.1]),x.2)
theorem gL {P:ax}{pv:Value}(h:if g.form=4 then∃eb,pv=ii (some eb)/\mM w P mp g.f.key g.f.ty eb else pv=ii (zJ mp g.f.ty)):∃q,pv= .pointer q:=by
 split at h;.obtain⟨eb,rfl,_⟩:=h;exact⟨_,rfl⟩
 .subst h;unfold ii;split<;>exact⟨_,rfl⟩
theorem FU (w:aw)(B:Nat)(S:eF)(mp:an)(k:Nat)(d:MT)(f:fw)(g:GF)(fb:Nat)(Z:ax)(rb db:Nat)(b:au)(e a z deep F:Nat)(num:Int)(m:PM)
  (I:pE w B S mp k d Z rb db b e a z deep m) (r:fi w (λb=>b<B) mp g fb) (j:FG S mp d f g) (hf:g.form=2) (p:S.base f.ty<=15) (s:ed d.fs f.num=some f):
  Calls prog 192 #[ah fb,aa (eM (S.base f.ty)),ah rb,ah db] w (iE S k d w Z rb db (b.extract 0 e) deep (kz S b F d f m deep (fN (b.extract 0 e) a num (eM (S.base f.ty)) z))):=by
 have A:kz S b F d f m deep (fN (b.extract 0 e) a num (eM (S.base f.ty)) z)=Lu m f.num (gG (b.extract 0 e) z (S.base f.ty)):=(by rw[Hq j hf p I.eb];cases gG (b.extract 0 e) z (S.base f.ty)<;>rfl);rw[A];clear A;have⟨y,rv,h,hfB,_,D⟩:=r.blk;have L:eK mp g=S.base f.ty:=by unfold eK;rw[dQ Vv,j.eq,j.base]
 rw[L,j.eq]at h;have⟨T,_,_⟩:=lQ j Vv p;have⟨t,u⟩:=oU s T;have hes:(b.extract 0 e).size=e:=gK I.eb;have hl:=I.wm.len;have hab:=I.az;have hze:=I.ze;have heb:=I.eb;have hbs:=I.bs;have M:rb<w.heap.size:=dZ.lt I.hr;have J:=qp w (S.base f.ty) y Vv
 have H:∀w1,ei w1 rb (b.extract 0 e) z deep->UOK w1->Vq 194 #[.agg #[aa (S.base f.ty),y],ah rb] w1 (pV w1 rb (b.extract 0 e) deep (gG (b.extract 0 e) z (S.base f.ty)) wN):=
  λw1 h l=>qq w1 rb _ z deep _ y h Vv Vv p l (by have:=I.cx.u1;have:=I.rB;omega) (by have:=I.cx.u2;have:=I.rB;omega)
 obtain⟨R,o⟩:=Vu (gG (b.extract 0 e) z (S.base f.ty));rw[o]at H⊢;have HR:Hid (gG (b.extract 0 e) z (S.base f.ty)=R):=o;clear o;have⟨k1,k2⟩:=h.I;obtain⟨pq,rfl⟩:=gL D;clear D;go_in
 go_wp2_with fail;refine J.V ?_;rintro E w2 ⟨rfl,c⟩;have l:=h.G c h.lt;have N:ei w2 rb (b.extract 0 e) z deep:=dZ.G I.hr c M;have O:UOK w2:=(I.cx.on (c.V I.cx.le)).u;have P:=I.hd.O (λx _ q=>c.block x q);have⟨k3,k4⟩:=l.I;clear k1 k2 J;have Q:dZ w2.drew fb #[aa f.num,aa g.form,aa (S.base f.ty),.pointer pq,rv] 220:=l;have hfl:fb<w2.heap.size:=l.lt;have K:eQ S (k+1) (some d) w2.drew Z db m:=P.O (λ_ _ _=>rfl);have hrb:=I.rB;have C:=I.rZ
 have hA:∀w3:aw,∀v:LV,eQ S (k+1) (some d) w3 Z db m->Vq 268 #[ah db,aa f.num,wN v] w3 (kD S k (some d) w3 Z db (m.put f.num (m.get f.num++ [re v]))):=
  λw3 v U=>yo S k (some d) w3 Z db m f.num v U t (.inl u) Vv (by have:=hl.2.2 f.num;omega)
 go_upto_region 1 with fail
 go_region_with
  (first
   |(
     go_at_call 194;refine(H w2.drew N O).V ?_;intro E w3 hq;rcases hq.part with⟨x,rfl,rfl,i⟩|⟨x,rfl,rfl,i,V⟩;.unfold d5;go_wp2;exact⟨rfl,rfl,Z,(eU.oB c.drew).J (.oK i)⟩
     have G:=Q.kept i Vx
     have⟨k5,k6⟩:=G.I)
   |(
     go_at_call 268;refine(hA w3 x.1 (eU.dr K i C)).V ?_;rintro E w4 ⟨rfl,X,n,W⟩;have Y:=G.step n (λq=>by have:=(I.hZ fb q).1;omega)
     have⟨k7,k8⟩:=Y.I))
 all_goals
  go_wp2;go_end0;refine⟨rfl,X,((eU.oB c.drew).J (.oK i)).J (.oS n),W,?_⟩;exact dZ.step V n C
end
def Lw (m:PM)(n:Int)(e:Nat):Fx (List PV)->Fx (PM×Nat)
 | .error x=> .error x
 | .ok l=> .ok (m.put n l,e)
def rU (k:Nat)(b:au)(n:Int)(m:PM):Fx (Nat×Nat)->Fx (PM×Nat)
 | .error x=> .error x
 | .ok y=>Lw m n y.2 (fY b k y.2 (y.2-y.1) (m.get n) y.1)
def GZ.part {w:aw}{rb:Nat}{s:au}{deep:Int}{r:Fx (Nat×Nat)}{e:Ending}{w':aw}(h:GZ w rb s deep r e w'):
  (∃x,r= .error x/\e=d5 x.1 x.2/\ee [rb] w w')\/∃x nb,r= .ok x/\e= .returned (ah nb)/\ee [rb] w w'/\w.heap.size<=nb/\nb≠rb/\ei w' nb (s.extract 0 x.2) x.1 deep/\ei w' rb s x.2 deep:=by
 obtain⟨a,b⟩:=h;grind
def mF (w:aw)(nb e:Nat):Nat:=
 match w.cell? (aj nb 1)with
 |some (.int _ n)=>((e:Int)-n).toNat
 |_=>0
def iA {w:aw}{nb a e:Nat}{s:au}{deep:Int}(h:ei w nb s a deep):mF w nb e=e-a:=by
 unfold mF;rw[dZ.cell h];simp
structure Q0 (S:eF)(k:Nat)(d:MT)(B:Nat)(w wr:aw)(Z Z':ax)(rb nb db fb y1 y2:Nat)(b s:au)(deep:Nat)(fcs:aq)(bs:Nat)(m:PM)(n:Int)(a:Nat)(l:List PV)(F:Nat)(P:Fx (List PV)):Prop where
 st:eU w Z rb wr Z'
 rn:ei wr nb (b.extract 0 y2) a deep
 rr:ei wr rb s y2 deep
 dr:eQ S (k+1) (some d) wr Z' db (m.put n l)
 fd:dZ wr fb fcs 220
 lo:y1<=a
 hi:a<=y2
 ll:l.length<=a
 eq:Hid (P=fY b bs y2 F l a)
 fu:y2-a<=F
 zz:∀x,Z' x->B<=x/\x<wr.heap.size
 zn:¬Z' nb
def eU.keptN {a b c:aw}{Z Y:ax}{rb nb:Nat}(h:eU a Z rb b Y)(k:ee [nb] b c)(g:a.heap.size<=nb):eU a Z rb c Y:=
 ⟨k.os.J h.os,k.tape.J h.tape,k.output.J h.output,aM h.size k.size,λi d e f=>(k.block i (aI d h.size) (by grind)).J (h.block i d e f),h.grow⟩
def FV (w:aw)(B:Nat)(S:eF)(mp:an)(k:Nat)(d:MT)(f:fw)(g:GF)(fb:Nat)(Z:ax)(rb db:Nat)(b:au)(e a z deep F:Nat)(num:Int)(m:PM)
  (I:pE w B S mp k d Z rb db b e a z deep m) (c:fi w (λb=>b<B) mp g fb) (H:FG S mp d f g) (j:g.form=2) (i:S.base f.ty<=15) (r:eM (S.base f.ty)≠2) (h:ed d.fs f.num=some f):
  Calls prog 192 #[ah fb,aa 2,ah rb,ah db] w (iE S k d w Z rb db (b.extract 0 e) deep (kz S b F d f m deep (fN (b.extract 0 e) a num 2 z))):=by
 have M:kz S b F d f m deep (fN (b.extract 0 e) a num 2 z)=rU (S.base f.ty) b f.num m (ft (b.extract 0 e) z):=(by rw[D3 H j r];rfl);rw[M];clear M;have⟨o,Q,A,l,_,j⟩:=c.blk;have c:eK mp g=S.base f.ty:=by unfold eK;rw[dQ Vv,H.eq,H.base]
 rw[c,H.eq]at A;have⟨c,_,_⟩:=lQ H Vv i;have⟨E,G⟩:=oU h c;have u:(b.extract 0 e).size=e:=gK I.eb;have c:=I.wm.len;have c:=I.az;have c:=I.ze;have c:=I.eb;have c:=I.bs;have v:=I.rB;have H:=I.rZ;have c:=I.cx.u1;have c:=I.cx.u2;have VW:rb<w.heap.size:=dZ.lt I.hr;have n:=qp w (S.base f.ty) o Vv;have l:∀w2,ei w2 rb (b.extract 0 e) z deep->Vq 197 #[ah rb] w2 (GZ w2 rb (b.extract 0 e) deep (ft (b.extract 0 e) z)):=λw2 h=>oN w2 rb _ z deep h Vv
 have L:=I.hd.srt;obtain⟨R,c⟩:=Vu (ft (b.extract 0 e) z);rw[c]at l⊢;have p:Hid (ft (b.extract 0 e) z=R):=c;clear c;obtain⟨K,rfl⟩:=gL j;clear j;have⟨h,j⟩:=A.I;have c:((2:Int)==(eM (S.base f.ty):Int))=false:=by grind
 go_in
 go_wp2_with fail;refine n.V ?_;rintro N w2 ⟨rfl,t⟩;have J:=A.G t A.lt;have c:ei w2 rb (b.extract 0 e) z deep:=dZ.G I.hr t VW;have C:=I.hd.O (λx _ q=>t.block x q);clear h j n;go_wp2_with fail;refine(l w2 c).V ?_;intro N w3 j;rcases j.part with⟨x,rfl,rfl,D⟩|⟨y,n,rfl,rfl,D,s,c,h,l⟩;.unfold d5;go_wp2;exact⟨rfl,rfl,Z,(eU.oB t).J (.oK D)⟩
 obtain⟨o,c⟩:=y;have⟨P,O,j⟩:=jw p.o;rw[u]at j;have p:(b.extract 0 e).extract 0 c=b.extract 0 c:=kL I.eb j;simp only[p]at h;have T:(b.extract 0 c).size=c:=gK Vv;have p:=J.kept D (by grind);have j:=eU.dr C D H;have R:w.heap.size<=n:=aM t.size s;have s:=I.cx.le
 have j:Q0 S k d B w w3 Z Z rb n db fb o c b (b.extract 0 e) deep #[aa f.num,aa g.form,aa (S.base f.ty),.pointer K,Q] (S.base f.ty) m f.num o (m.get f.num) (c-o) (fY b (S.base f.ty) c (c-o) (m.get f.num) o):=
  ⟨(eU.oB t).J (.oK D),h,l,by rw[Hs L.1 L.2];omega,p,aE _,O,by grind,rfl,aE _,λx q=>⟨(I.hZ x q).1,aI (I.hZ x q).2 (aM t.size D.size)⟩,λq=>by have:=(I.hZ n q).2;omega⟩
 obtain⟨P,h⟩:=Vu (fY b (S.base f.ty) c (c-o) (m.get f.num) o);have t:Hid (rU (S.base f.ty) b f.num m (.ok (o,c))=Lw m f.num c P):=(by show Lw m f.num c (fY b (S.base f.ty) c (c-o) (m.get f.num) o)=_;rw[h]);rw[h]at j;clear h;go_wp2;go_loopw [30] (λ_ wr=>∃p j l u,Q0 S k d B w wr Z p rb n db fb o c b (b.extract 0 e) deep #[aa f.num,aa g.form,aa (S.base f.ty),.pointer K,Q] (S.base f.ty) m f.num j l u P) (λ_ wr=>mF wr n c)
 case atStart=>grind
 case round=>
  obtain⟨p,j,l,u,O⟩:=hrel;have Y:=si wr n _ j deep O.rn;rw[T]at Y;have h:=O.lo;have h:=O.hi;have h:=O.ll;go_wp2_with fail;refine Y.V ?_;rintro N h ⟨rfl,q,rfl⟩;by_cases hlt:j<c
  .have hd:decide (j<c)=true:=decide_eq_true hlt;obtain⟨C,rfl⟩:∃C,u=C+1:=⟨u-1,by have:=O.fu;omega⟩;have h:Below B w wr:=O.st.G s (λx q=>(I.hZ x q).1) v;have hu:UOK (wr.drewN q).drew:=(I.cx.on h).u
   have hV:∀w1,ei w1 n (b.extract 0 c) j deep->UOK w1->Vq 194 #[.agg #[aa (S.base f.ty),.pointer K],ah n] w1 (pV w1 n (b.extract 0 c) deep (gG (b.extract 0 c) j (S.base f.ty)) wN):=
    λw1 A J=>qq w1 n _ j deep _ _ A Vv Vv i J Vv Vv
   have h:S.base f.ty≠13:=λq=>r (by rw[q];rfl)
   have s:S.base f.ty≠14:=λq=>r (by rw[q];rfl)
   have U:gG (b.extract 0 c) j (S.base f.ty)=match jG (b.extract 0 c) j (S.base f.ty)with| .error x=> .error x| .ok x=> .ok ((x.1,⟨#[]⟩),x.2):=(by unfold gG;rw[dQ h,dQ s];cases jG (b.extract 0 c) j (S.base f.ty)<;>rfl)
   have V:=AB (k:=S.base f.ty) (F:=C) (l:=l) (show c<=b.size by omega) hlt
   have D:Hid (∀x,gG (b.extract 0 c) j (S.base f.ty)= .error x->rU (S.base f.ty) b f.num m (.ok (o,c))= .error x):=λx r=>by
    rw[t.o,O.eq.o,V];rw[U]at r
    cases hn:jG (b.extract 0 c) j (S.base f.ty)with
    |error y=>rw[hn]at r;cases r;rfl
    |ok y=>grind
   have VZ:Hid (∀x,gG (b.extract 0 c) j (S.base f.ty)= .ok x->P=fY b (S.base f.ty) c C (l++ [re x.1]) x.2):=λx r=>by
    rw[O.eq.o,V];rw[U]at r
    cases hn:jG (b.extract 0 c) j (S.base f.ty)with
    |error y=>grind
    |ok y=>rw[hn]at r;cases r;rfl
   clear U V;have y:eQ S (k+1) (some d) (wr.drewN q).drew p db (m.put f.num l):=O.dr.O (λ_ _ _=>rfl)
   have hA:∀s:aw,∀v:LV,eQ S (k+1) (some d) s p db (m.put f.num l)->Vq 268 #[ah db,aa f.num,wN v] s (kD S k (some d) s p db (m.put f.num (l++ [re v]))):=λs v h=>by
    have A:=PM.put_len m f.num l;have J:=D4 L.1 f.num l;have:=yo S k (some d) s p db (m.put f.num l) f.num v h E (.inl G) Vv (by grind);rw[J,Hr L.1]at this;exact this
   obtain⟨T,X⟩:=Vu (gG (b.extract 0 c) j (S.base f.ty))
   have L:Hid (∀x,T= .ok x->j<x.2/\x.2<=c):=λx r=>by
    have:=DZ i (X.J r);omega
   rw[X]at hV D VZ;clear X;have h:dZ (wr.drewN q).drew fb #[aa f.num,aa g.form,aa (S.base f.ty),.pointer K,Q] 220:=O.fd;have i:fb<wr.heap.size:=dZ.lt O.fd;have r:ei (wr.drewN q).drew n (b.extract 0 c) j deep:=O.rn;have M:ei (wr.drewN q).drew rb (b.extract 0 e) c deep:=O.rr;have i:eU w Z rb (wr.drewN q).drew p:=O.st.J (.oB (iu (Below.refl _ _) q).drew);have W:=O.zn;have T:=O.zz;have U:¬p rb:=O.st.not VW H;have⟨v,A⟩:=h.I;have⟨A,v⟩:=dZ.I O.fd;have A:Hid (mF wr n c=c-j):=iA O.rn;have V:Hid (c-j<=C+1):=O.fu;clear O Y;go_upto_region 4 with fail
   go_region_with
    (first
     |(
       go_at_call 194;refine(hV (wr.drewN q).drew r hu).V ?_;intro N s v;rcases v.part with⟨x,rfl,rfl,E⟩|⟨x,rfl,rfl,E,r⟩;.unfold d5;go_wp2;rw[D.o x rfl];exact⟨rfl,rfl,p,i.keptN E R⟩
       have v:=h.kept E (by grind)
       have⟨h,D⟩:=v.I)
     |(
       go_at_call 268;refine(hA s x.1 (eU.dr y E W)).V ?_;rintro N w6 ⟨rfl,X,G,J⟩;have y:=v.step G (λq=>by grind)
       have⟨h,v⟩:=y.I))
   all_goals
    have N:=L.o x rfl;have h:ei w6 n (b.extract 0 c) x.2 deep:=dZ.step r G W;have D:=(i.keptN E R).J (.oS G);have H:ei w6 rb (b.extract 0 e) c deep:=dZ.step (dZ.kept M E (by grind)) G U;have v:n<s.heap.size:=dZ.lt r
    have r:Q0 S k d B w w6 Z (λi=>X i/\i<w6.heap.size) rb n db fb o c b (b.extract 0 e) deep #[aa f.num,aa g.form,aa (S.base f.ty),.pointer K,Q] (S.base f.ty) m f.num x.2 (l++ [re x.1]) C P:=
     ⟨D.clip,h,H,J.clip,y,Vv,N.2,by grind,VZ.o x rfl,by have:=V.o;omega,λi q=>⟨(G.grow i q.1).elim (λe=>(T i e).1) (λe=>Vv),q.2⟩,λq=>G.not v W q.1⟩
    go_wp2;go_roundw
    case rel=>grind
    case measure=>rw[A.o,iA h];omega
  .have hd:decide (j<c)=false:=decide_eq_false hlt
   have h:Hid (rU (S.base f.ty) b f.num m (.ok (o,c))= .ok (m.put f.num l,c)):=by
    show _=_;rw[t.o,O.eq.o]
    have:fY b (S.base f.ty) c u l j= .ok l:=by
     cases u with
     |zero=>rfl
     |succ u=>rw[fY,dQ hlt]
    rw[this];rfl
   go_wp2;go_end0;rw[h.o];exact⟨rfl,p,O.st.J (.oB (iu (Below.refl _ _) q)),O.dr.O (λ_ _ _=>rfl),O.rr⟩
end
section
variable {w:aw} {S:eF} {mp:an} {d sub:MT} {rb z deep:Nat} {b s:au} {m:PM} {num:Int} {f:fw} {g:GF}
def OG (S:eF)(mp:an)(B:Nat)(b:au)(F:Nat):Prop:=
 ∀(w:aw) (Z:ax) (sub:MT) (m:PM) (a e deep k mb:Nat) (gs:List GF) (nm:au) (rb db:Nat),tz w B S mp->jk w (λb=>b<B) mp mb nm gs->lJ S mp sub gs->mj S sub->ei w rb (b.extract 0 e) a deep->eQ S (k+1) (some sub) w Z db m->
  (∀x,Z x->B<=x/\x<w.heap.size)->B<=rb->¬Z rb->a<=e->e<=b.size->e-a<F->k+deep=8->WM S a sub m->
  Vq 83 #[ah mb,ah rb,ah db] w (iE S k sub w Z rb db (b.extract 0 e) deep (pR e (eY S b F sub m a e deep)))
theorem pE.on {w1:aw}{B:Nat}{k:Nat}{Z Z1:ax}{db:Nat}{e a:Nat}{m1:PM}(I:pE w B S mp k d Z rb db b e a z deep m)(c:eU w Z rb w1 Z1)(f:eQ S (k+1) (some d) w1 Z1 db m1)(g:ei w1 rb (b.extract 0 e) z deep)(h:WM S a d m1):
  pE w1 B S mp k d (λi=>Z1 i/\i<w1.heap.size) rb db b e a z deep m1:=
 ⟨I.cx.on (c.G I.cx.le (λx q=>(I.hZ x q).1) I.rB),g,f.clip,λx q=>⟨(c.grow x q.1).elim (λq=>(I.hZ x q).1) (λq=>aM I.cx.le q),q.2⟩,I.rB,λq=>c.not (dZ.lt I.hr) I.rZ q.1,I.az,I.ze,I.eb,I.bs,h⟩
def OH (sin:Bool)(m:PM)(n:Int):Fx (LV×Nat)->Fx (PM×Nat)
 | .error x=> .error x
 | .ok x=> .ok (if sin=true/\x.1.1=0/\gQ x.1.2 eS=true then m.put n []else m.put n [re x.1],x.2)
theorem Ht {F a e:Nat}(c:FG S mp d f g)(s:g.form≠4)(q:g.form≠2)(h:S.base f.ty<=15)(j:e<=b.size):
  kz S b F d f m deep (fN (b.extract 0 e) a num (eM (S.base f.ty)) z)=OH (decide (g.form=0)) (m.without g.riv) f.num (gG (b.extract 0 e) z (S.base f.ty)):=by
 rw[xW (b.extract 0 e) a num z _ h]
 cases hr:fN (b.extract 0 e) a num (eM (S.base f.ty)) z with
 |error x=>rfl
 |ok r=>
  have k:=nE (DY _) hr;have⟨_,_,i,_⟩:=qx hr;rw[gK j]at i;have⟨_,n,l⟩:=lQ c s h;have o:f.isRep=false:=by rw[c.rep];simp[q]
  simp only[kz,zT,DP];rw[dR (by unfold fX;rw[l];exact k)];unfold qr ot;rw[n];simp only;rw[DQ rfl h k i j]
  cases zS (b.extract 0 e) (S.base f.ty) r with
  |error x=>rfl
  |ok v=>
   simp only[Hi,pR,OH];unfold ie;rw[l,o,n,c.sin,yi,c.riv];simp only[aU,if_false,Option.isNone_none,dB,aQ,dS];by_cases h0:g.form=0;.have p:=c.lone Vv;rw[<-c.riv,p,jr];simp only[h0,true_and];rfl
   .simp only[h0,false_and,if_false];rfl
theorem tC (a:FG S mp d f g)(n:Fj S)(b:fC S f=some sub)(r:deep<=8):pU S sub (deep+1)=decide (8<(deep:Int)+ly mp g)/\0<=ly mp g/\ly mp g<=2/\eK mp g=16:=by
 unfold ly;by_cases h4:g.form=4
 .have c:eK mp g=16:=by unfold eK;rw[dR h4]
  have h:f.isMap=true:=by rw[a.map,h4];rfl
  have k:sub=eR f:=(by unfold fC at b;rw[dR h]at b;exact(Option.some.inj b).sy);subst k
  have i:pU S (eR f) (deep+1)=if deep+1=8 then(S.msg f.ty).isSome else decide (8<deep+1):=by
   unfold pU eR;have m:gQ eS eS=true:=by unfold gQ;simp
   simp only[m,dC,dA];by_cases q:deep+1=8;.simp[q]
   .have p:(deep+1 !=8)=true:=Vx;rw[p,dR rfl,dQ q]
  have j:jC mp g.f.ty=S.base f.ty:=by rw[a.eq,a.base]
  by_cases hn:S.base f.ty=16
  .have e:(if g.form=4/\jC mp g.f.ty=16 then(2:Int)else if eK mp g=16 then 1 else 0)=2:=dR ⟨h4,by rw[j];exact hn⟩;rw[e,i,a.nest.1 hn];refine⟨?_,Vv,Vv,c⟩;split;.simp;omega
   .rw[decide_eq_decide];omega
  .have l:(S.msg f.ty).isSome=false:=by rw[cn];exact λq=>hn (a.nest.2 q)
   have e:(if g.form=4/\jC mp g.f.ty=16 then(2:Int)else if eK mp g=16 then 1 else 0)=1:=by rw[dQ (λq=>hn (by rw[<-j];exact q.2)),dR c]
   rw[e,i,l];refine⟨?_,Vv,Vv,c⟩;split;.simp;omega
   .rw[decide_eq_decide];omega
 .have h:¬f.isMap=true:=by rw[a.map];simp[h4]
  unfold fC at b;rw[dQ h]at b;have o:S.base f.ty=16:=a.nest.2 (by rw[b];rfl);have c:eK mp g=16:=by unfold eK;rw[dQ h4,a.eq,a.base,o]
  rw[dQ (λq=>h4 q.1),dR c];refine⟨?_,Vv,Vv,c⟩;unfold pU;rw[n.name sub (jx b)];simp;omega
def Lx (M:PM->PM)(e:Nat):Fx PM->Fx (PM×Nat)
 | .error x=> .error x
 | .ok a=> .ok (M a,e)
def yq (S:eF)(b:au)(F:Nat)(sub:MT)(m0:PM)(deep:Nat)(M:PM->PM):Fx (Nat×Nat)->Fx (PM×Nat)
 | .error x=> .error x
 | .ok y=>Lx M y.2 (eY S b F sub m0 y.1 y.2 (deep+1))
theorem Hu {F a e:Nat}(h:FG S mp d f g)(k:Fj S)(c:fC S f=some sub)(n:deep<=8):
  kz S b F d f m deep (fN (b.extract 0 e) a num 2 z)=yq S b F sub (fh f m).2.2 deep (λsm=>ie S d f m ((fh f m).1,(fh f m).2.1,sm)) (oo (b.extract 0 e) z deep (ly mp g)):=by
 have i:fN (b.extract 0 e) a num 2 z=_:=uD (b.extract 0 e) a num z;rw[i];unfold oo
 cases ft (b.extract 0 e) z with
 |error x=>rfl
 |ok y=>
  have⟨j,_,_,o⟩:=tC h k c n
  have l:fX S f=2:=by
   unfold fX;split;.rfl
   .rename_i q;unfold fC at c;rw[dQ q]at c;have:=h.nest.2 (by rw[c];rfl);unfold eF.wire;rw[this];rfl
  simp only[kz,zT];rw[dR l.sy];unfold qr ot zO;rw[c];simp only;rw[j];by_cases q:8<(deep:Int)+ly mp g;.rw[dR q];simp[q,yq,Hi,pR]
  .rw[dQ q];simp only[q,decide_false,aU,if_false,yq];cases eY S b F sub (fh f m).2.2 y.1 y.2 (deep+1)<;>rfl
theorem Ku.part {deep:Int}{r:Fx (Nat×Nat)}{e:Ending}{w':aw}(h:Ku w rb s deep r e w'):
  (∃x,r= .error x/\e=d5 x.1 x.2/\ee [rb] w w')\/∃x nb,r= .ok x/\e= .returned (ah nb)/\ee [rb] w w'/\w.heap.size<=nb/\nb≠rb/\ei w' nb (s.extract 0 x.2) x.1 (deep+1)/\ei w' rb s x.2 deep:=by
 obtain⟨a,b⟩:=h
 cases r with
 |error x=>exact .inl ⟨x,rfl,b,a⟩
 |ok x=>
  obtain⟨nb,c,d,f,g,i⟩:=b;exact .inr ⟨x,nb,rfl,c,a,d,f,g,i⟩
theorem wX {deep lv:Int}{y:Nat×Nat}(h:oo s z deep lv= .ok y):ft s z= .ok y/\deep+lv<=8:=by
 unfold oo at h
 cases hw:ft s z with
 |error x=>rw[hw]at h;cases h
 |ok x=>
  rw[hw]at h;simp only at h;split at h;.cases h
  .cases h;exact⟨rfl,Vv⟩
end
end Go.Proofs.YtfebdimolnobaaaGreatDoor
