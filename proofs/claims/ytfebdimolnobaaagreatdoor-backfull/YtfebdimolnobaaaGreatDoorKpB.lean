import Derived.Test.YtfebdimolnobaaaGreatDoorKpA
set_option maxRecDepth 100000
set_option maxHeartbeats 8000000
set_option linter.all false
namespace Go.Proofs.YtfebdimolnobaaaGreatDoor
open Go.RowKit Go.Proofs.Tryz
section
open Go.Maps
open VH
structure qD:Prop where
 c:∀(w:aw) (P:ax) (mp:an) (g:GF) (fb:Nat) (iq:aC),fi w P mp g fb->Vq 210 #[ah fb,.pointer iq] w (jO w λw' v=>Jk w' (λb=>w.heap.size<=b) mp g iq v)
 m:∀(w:aw) (P:ax) (mp:an) (g:GF) (fb:Nat) (iq:aC),fi w P mp g fb->Vq 211 #[ah fb,.pointer iq] w (jO w λw' v=>Gk w' (λb=>w.heap.size<=b) mp g iq v)
 w:∀(w:aw) (P:ax) (mp:an) (g:GF) (fb:Nat) (iq:aC),fi w P mp g fb->Vq 212 #[ah fb,.pointer iq] w (jO w λw' v=>Ey w' (λb=>w.heap.size<=b) mp g iq v)
 p:yJ
 e:Cu
def xf.isFn {w:aw}{Q:ax}{mp pm:an}{g:GF}{v:Value}(h:xf w Q (mr w Q mp pm) g v):Jm v:=by
 unfold xf at h;split at h;.exact mr.fn h
 .obtain⟨_,_,_,_,rfl,_⟩:=h;exact⟨_,_,rfl⟩
def Mo:(prog.info? 268).map (λi=>(i.zero,i.size,i.bytes))=some (some (.agg #[aa 0,aa 0,.bool false,ai,.nilFunc,.nilFunc,.nilFunc,.nilFunc]),8,80):=VA
def Cw {w:aw}{fb:Nat}{a b c d e:Value}{T:TypeId}(h:dZ w fb #[a,b,c,d,e] T):w.cell? (aj fb 0)=some a/\w.cell? (aj fb 2)=some c/\w.cell? (aj fb 3)=some d/\w.cell? (aj fb 4)=some e:=⟨h.cell 0,h.cell 2,h.cell 3,h.cell 4⟩
section
variable (kp mk W0:Nat) (mu:Int) (S:eF) (mp:an) (P:ax)
def Ju (n:Nat)(g:GF)(c:g.form≠4)(j:Ud kp mk W0 mu S mp P n):xg kp mk W0 mu S mp P n g:=by
 intro w N pm U X K I x t;have⟨D,T,b,_,l,a⟩:=t.blk;obtain⟨O,R,Q,rfl⟩:=d7 l.1;rw[dQ c]at a;have m:eK mp g=jC mp g.f.ty:=by unfold eK;rw[dQ c]
 rw[m]at b;have J:(g.form==4)=false:=by grind
 by_cases h16:jC mp g.f.ty=16
 .have o:((jC mp g.f.ty:Int)==16)=true:=by grind
  have⟨d,i⟩:=I.md.ty _ h16;have⟨C,r,E,F,G,H⟩:=I.md.md _ d i;have u:=nZ i;have s:=j w N pm U X C d r I x (by grind) F G H;rw[E]at a;subst a;unfold ii at b;have⟨z,A⟩:=b.I;go_enter func207,ntmps207;go_wp2_with fail;refine s.V ?_;rintro e w2 ⟨v,k,h,rfl,⟨p,rfl,L⟩,f,y,B⟩;go_wp2;go_ret;refine⟨_,k,h,rfl,(show je _ _ mp h g _ from ?_),f,y,B⟩;unfold je;rw[dQ c,dR h16];exact⟨p,rfl,by grind⟩
 .have o:((jC mp g.f.ty:Int)==16)=false:=by grind
  obtain⟨M,rfl⟩:∃q,D= .pointer q:=(by subst a;unfold ii;split<;>exact⟨_,rfl⟩);have⟨z,A⟩:=b.I;go_enter func207,ntmps207;go_wp2;go_ret;refine⟨_,N,pm,rfl,(show je _ _ mp pm g _ from ?_),I.ok,λ_ _ q=>q,ee.refl _ _⟩;unfold je;rw[dQ c,dQ h16];rfl
def Jv (n:Nat)(g:GF)(m:g.form=4)(s:Gl kp mk W0 mu S mp P n [lN oh g.f.key 1,lN qe g.f.ty 2]):xg kp mk W0 mu S mp P n g:=by
 intro w N pm U X M I E D;have⟨R,Y,k,_,x,j⟩:=D.blk;obtain⟨T,W,V,rfl⟩:=d7 x.1;rw[dR m]at j;obtain⟨z,rfl,C⟩:=j;have B:=s w N pm U X z eS I E C.msg Vw;have L:(g.form==4)=true:=by grind
 unfold ii at k;have⟨O,Q⟩:=k.I;go_enter func207,ntmps207;go_wp2_with fail;refine B.V ?_;rintro e w2 ⟨v,t,i,rfl,⟨l,p,F⟩,f,G,r⟩;obtain⟨H,K,J,rfl⟩:=d7 p.1;have h:∀o,ak w2 (w2.alloc o):=λo=>(Below.refl _ _).alloc (aE _) _
 have y:=(I.on f r).nq (aE _);go_wp2;go_ret;refine⟨_,t,i,rfl,(show je _ _ mp i g _ from ?_),f.O (λb c=>(h _).block b c),G,r.alloc _⟩;unfold je;rw[dR m];refine⟨_,rfl,_,l,dZ.new _ _ _,y,p.mV (.O λb _ c=>(h _).block b c),F.mV (.O λb _ c=>(h _).block b c) (λA d u a=> ?_) λA d u a=> ?_⟩
 .have a:=mr.mV (.O λb _ c=>(h (am #[.slice H K J] 254)).block b c) (λ_ _ q=>q) a;unfold mr at a;simp only[aR,bW,or_false]at d;rcases d with rfl|rfl;.rw[dQ (by simp[lN])]at a;exact a
  .rw[dQ (by simp[lN])]at a;exact a
 .simp only[aR,bW,or_false]at d;rcases d with rfl|rfl;.exact(je.lk (by simp[lN])).1 a
  .exact(je.lk (by simp[lN])).1 a
structure Mp (w:aw)(pm:an)(U:aB)(X:ax)(gs:List GF)(wr:aw)(v:Value)(k:Nat)(l:List sD)(N':Nat)(VI:an):Prop where
 row:wr.ownsRow w.heap.size 268 8 v l.length (l.flatMap jg)
 sts:iO wr (Qk kp mk U λb=>X b/\v.ownBlock≠some b) mp (mr wr (Qk kp mk U λb=>X b/\v.ownBlock≠some b) mp VI) (je wr (Qk kp mk U λb=>X b/\v.ownBlock≠some b) mp VI) (gs.take k) l
 kin:Cv kp mk W0 mu S mp P wr N' VI U (λb=>X b/\v.ownBlock≠some b)
 ext:∀t p,pm t=some p->VI t=some p
 kep:ee [mk] w wr
 ul:∀u∈U,u<w.heap.size
 wl:W0<=w.heap.size
end
section
variable {kp mk W0:Nat} {mu:Int} {S:eF} {mp:an} {P:ax}
def Qk.V {U:aB}{X Y:ax}{b:Nat}(h:Qk kp mk U X b)(a:X b->Y b):Qk kp mk U Y b:=⟨h.1,h.2.1,h.2.2.1,a h.2.2.2⟩
def vO.less {w:aw}{N:Nat}{pm:an}{U:aB}{X Y:ax}(h:vO kp mk mu S mp w N pm U X)(i:∀b,X b->b<w.heap.size->Y b):vO kp mk mu S mp w N pm U Y:=
 ⟨h.kb,h.mb,h.ne,h.ct,h.inj,λt p g=>by
  rcases h.pl t p g with a|⟨d,c,a,e,f⟩;.grind
  .exact .inr ⟨d,c,a,e,f.mV (.V λb q l=>q.V λq=>i b q l) (λ_ _ q=>q)⟩⟩
def Mp.snoc {w:aw}{pm:an}{U:aB}{X:ax}{gs:List GF}{wr w1 w7 w8:aw}{v:Value}{k:Nat}{l:List sD}{N' N1:Nat}{VI VO:an}{g:GF}{x:sD}{gg cap:Nat}{o:Obj}
  (h:Mp kp mk W0 mu S mp P w pm U X gs wr v k l N' VI) (D:vO kp mk mu S mp w1 N1 VO U λb=>X b/\v.ownBlock≠some b) (C:∀t p,VI t=some p->VO t=some p) (r:ee [mk] wr w1) (n:ak w1 w7)
  (B:nI w7 (Qk kp mk U λb=>X b/\v.ownBlock≠some b) mp (mr w7 (Qk kp mk U λb=>X b/\v.ownBlock≠some b) mp VO) (je w7 (Qk kp mk U λb=>X b/\v.ownBlock≠some b) mp VO) g x) (Q:gs[k]?=some g)
  (H:w8.ownsRow w.heap.size 268 8 (Vr gg (l.length+1) cap) (l.length+1) (l.flatMap jg++jg x)) (a:(w7.alloc o).grownBy w8 v.ownBlock) (M:v.ownBlock=some gg\/gg=w7.heap.size+1) (R:gg<w8.heap.size):
  Mp kp mk W0 mu S mp P w pm U X gs w8 (Vr gg (l.length+1) cap) (k+1) (l++ [x]) N1 VO:=by
 have F:(Value.slice (some (aj gg 0)) (l.length+1) cap).ownBlock=some gg:=rfl;have c:=λb f=>(h.row.lt b f)
 have I:=h.kin;have s:∀b,v.ownBlock≠some b->b<w7.heap.size->w8.heap[b]?=w7.heap[b]?:=λb f c=>(a.block b Vx (λe=>f e.sy)).J (Below.l _ _ b c)
 have L:∀b,v.ownBlock≠some b->b<w7.heap.size->gg≠b:=λb f c e=>by
  grind
 have j:Mv w7 (Qk kp mk U λb=>X b/\v.ownBlock≠some b) w8 (Qk kp mk U λb=>X b/\(Value.slice (some (aj gg 0)) (l.length+1) cap).ownBlock≠some b):=λb q c=>
  ⟨q.V λq=>⟨q.1,λe=>L b q.2 c (Option.some.inj (F▸e))⟩,s b q.2.2.2.2 c⟩
 have O:w.heap.size<=gg:=(H.lt gg rfl).1;have hold:∀b,b<w.heap.size->v.ownBlock≠some b:=λb f e=>by grind
 have d:=r.size;have d:=n.size;have d:=h.kep.size;have V:=h.wl;have Z:=I.kl;have Y:=I.ml;have y:Mv wr (Qk kp mk U λb=>X b/\v.ownBlock≠some b) w7 (Qk kp mk U λb=>X b/\v.ownBlock≠some b):=λb q c=>⟨q,(n.block b Vv).J (r.block b c (by simp;exact q.1))⟩
 have m:=D.O (w':=w7) λb c=>n.block b c
 have J:gs.take (k+1)=gs.take k++ [g]:=by rw[bT,Q];rfl
 have W:ee [mk] w w8:=⟨a.os.J (n.os.J (r.os.J h.kep.os)),a.tape.J (n.tape.J (r.tape.J h.kep.tape)),a.output.J (n.output.J (r.output.J h.kep.output)),Vv,
  λb c G=>(s b (hold b c) Vv).J ((n.block b Vv).J ((r.block b Vv G).J (h.kep.block b c G)))⟩
 refine⟨by grind,?_,⟨⟨?_,?_,m.ne,m.ct,m.inj,λt p T=> ?_⟩,?_,Vv,λu i=>⟨(I.uu u i).1,by have:=h.ul u i;omega⟩,λb f=>⟨(I.xx b f).1,λe=> ?_⟩,λb f=>⟨(I.xn b (by grind)).1,λe=> ?_⟩,I.hp,I.kl,I.ml⟩,λt p q=>C _ _ (h.ext t p q),W,h.ul,h.wl⟩;.rw[J];exact iO.snoc (B.mV j (λu i=>i.mV j (λ_ _ q=>q)) λu i=>i.mV j (λ_ _ q=>q)) (h.sts.mV (λb q c=>⟨(j b (y b q c).1 Vv).1,(j b (y b q c).1 Vv).2.J (y b q c).2⟩) (λ_ _ u i=>(i.mV y C).mV j (λ_ _ q=>q)) λ_ _ u i=>(i.mV y C).mV j (λ_ _ q=>q))
 .exact(s kp (hold kp Vv) m.kb.lt).J m.kb
 .exact m.mb.O (s mk (hold mk Vv) m.mb.lt)
 .rcases m.pl t p T with⟨z,A,E⟩|⟨d,K,z,A,E⟩;.exact .inl ⟨z,(s p (hold p (h.ul p z)) A.lt).J A,E⟩
  .exact .inr ⟨d,K,z,A,E.mV j (λ_ _ q=>q)⟩
 .refine I.md.O λb f c=> ?_
  have N:=I.hp b f;exact(s b (hold b Vv) Vv).J ((n.block b Vv).J (r.block b c (by grind)))
 .have:=Option.some.inj (F▸e);have:=(I.hp b f).1;omega
 grind
end
section
variable (kp mk W0:Nat) (mu:Int) (S:eF) (mp:an) (P:ax)
def Ij (n:Nat)(gs:List GF)(MK:qD)(f:∀g∈gs,xg kp mk W0 mu S mp P n g):Gl kp mk W0 mu S mp P n gs:=by
 intro w N pm U X c nm I p a b;have⟨i0,WL,WN,WO,WP⟩:=info_parts Mo;have⟨h,E,e,b,d,c⟩:=id a;obtain⟨a,b,rfl⟩:=iB d.1;have a:=c.len
 have a:Mp kp mk W0 mu S mp P w pm U X gs w (ai) 0 [] N pm:=
  ⟨br _ _ _ _,rfl,⟨I.ok.less λb q _=>⟨q,by simp[Value.ownBlock]⟩,I.md,I.w0,I.uu,λb q=>⟨I.xx b q,by simp[Value.ownBlock]⟩,λb q=>⟨I.xn b q,by simp[Value.ownBlock]⟩,I.hp,I.kl,I.ml⟩,λ_ _ q=>q,ee.refl _ _,λu B=>(I.uu u B).2,I.w0⟩
 have y:=I.hp;have h:=I.kl;have h:=I.ml;have h:=I.w0;have WC:Hid (∀b,w.heap.size<=b->X b):=I.xn;have⟨r,s⟩:=e.I;clear I;go_enter func140,ntmps140;go_wp2_with fail;go_loopw [5,14] (λv i wr=>∃(k:Nat) (l:List sD) (z:Nat) (o:an),k<=gs.length/\i=aa k/\Mp kp mk W0 mu S mp P w pm U X gs wr v k l z o) (λ_ i _=>gs.length-(intOf i).toNat)
 case atStart=>grind
 case round=>
  clear a;obtain⟨k,l,z,o,a,rfl,A⟩:=hrel;obtain⟨j,m,rfl⟩:=iB A.row;by_cases hlt:k<gs.length
  .have⟨g,J⟩:=gx hlt;have⟨a,Q,i⟩:=c.get J;have e:∀b,P b->b<w.heap.size->wr.heap[b]?=w.heap[b]?:=λb h c=>A.kep.block b c (by grind)
   have V:fi wr P mp g a:=i.O e;have i:=d.O e;have F:=f g (aL J) wr z o U _ a A.kin (aM (Jo A.ext) p) V;obtain⟨f,rfl,_,e,d⟩:=eJ i.1 Vv;have e:=d wr rfl k (ah a) (by simp[fA,Q,ii]);have V0:decide ((k:Int)<(E.length:Int))=true:=by grind
   have e:k<E.length:=Vv;have HG:Hid (gs[k]?=some g):=J;have e:Hid (E[k]?=some a):=Q;clear d J Q r s;go_wp2_with fail;refine F.V ?_;rintro e w1 ⟨f,d,D,rfl,R,C,i,Nt⟩;obtain⟨x,rfl⟩:=R.form;have O:fi w1 P mp g a:=V.O λb h c=>Nt.block b c (by simp;exact(y b h).2.1)
   have⟨f,p,d,H,Y,t⟩:=O.blk;obtain⟨s,rfl⟩:=gL t;obtain⟨K,L,rfl⟩:=iB Y.1;have p:=A.kin.on C Nt;have r:∀W,ak w1 W->fi W P mp g a:=λW f=>O.O (λb _ c=>f.block b c)
   have G:eK mp g<=16:=by
    unfold eK;split;.omega
    .exact uy _ _
   have Q:=λW=>qp W (eK mp g) (.pointer s) G
   have T:∀W,ak w1 W->Vq 209 #[ah a] W λe w'=>e= .returned (.bool (iw mp g))/\Below W.heap.size W w':=λW f=>mT W P mp g a (r W f)
   have hC:=λW f=>MK.c W P mp g a x (r W f)
   have WE:=λW f=>MK.m W P mp g a x (r W f)
   have WF:=λW f=>MK.w W P mp g a x (r W f)
   have WG:∀W,ak w1 W->Vq 213 #[ah a,.pointer x] W (jO W λw' v=>xf w' (Qk kp mk U λb=>X b/\(Value.slice j l.length m).ownBlock≠some b) (mr w' (Qk kp mk U λb=>X b/\(Value.slice j l.length m).ownBlock≠some b) mp D) g v):=λW f=>
    Ab W _ P mp D g a (.pointer x) MK.p MK.e (λb h=>p.nq (aM f.size h)) (λb h=>p.pq h) (r W f) (R.mV (.O λb _ c=>f.block b c) (λ_ _ q=>q))
   have VV:w1.ownsRow w.heap.size 268 8 (.slice j l.length m) l.length (l.flatMap jg):=eD A.row λb h=>Nt.block b (A.row.lt b h).2 (by simp;have:=(A.row.lt b h).1;omega)
   have f:a<W0:=(y a H).1;have HO:Hid (some a≠(Value.slice j l.length m).ownBlock):=λe=>by have:=(A.row.lt a e.sy).1;omega
   have f:l.length<=2001:=by have:=A.sts.len;rw[bN]at this;omega
   have d0:ak w1 w1.drew:=(Below.refl _ _).drew;have f:=Nt.size;have f:=A.kep.size;have HR:Hid (eP w1 (Qk kp mk U λb=>X b/\(Value.slice j l.length m).ownBlock≠some b) 3 1 (.slice K g.riv.length L) g.riv.length (gE g.riv)):=Y.V (λb h _=>p.pq h);clear t Y V r F O;have f:dZ w1.drew a #[aa g.f.num,aa g.form,aa (eK mp g),.pointer s,.slice K g.riv.length L] 220:=d;obtain⟨v,V⟩:∃v:Int,(eM (eK mp g):Int)=v:=⟨_,rfl⟩;rw[V]at Q;obtain⟨r,Y⟩:=Vu (iw mp g);rw[Y]at T;go_upto_region 6 with fail
   go_region_held3 (λW=>W.cell? (aj a 0)=some (aa g.f.num)/\W.cell? (aj a 2)=some (aa (eK mp g))/\W.cell? (aj a 3)=some (.pointer s)/\W.cell? (aj a 4)=some (.slice K g.riv.length L))
    (first|exact Cw K9|exact Cw (M.alloc _)|exact Cw M|exact Cw K6|exact Cw K5|exact Cw K4|exact Cw K3|exact Cw K2|exact Cw f)
    (first|(refine step_append_lies _ VB _ _ _ VB w.heap.size 268 i0 _ 8 80 underlying252 WL WN WO WP rfl Vv (.slice j l.length m) l.length (l.flatMap jg) VB (VW.alloc _) (aj y.heap.size 0) 1 1 [_,_,_,_,_,_,_,_] VB VB (bz (t:=268) (fr:=(0,0)) (heap_alloc_new y _)) VD Vv VC Vv Vx (y.heap.size+1) Vw ?_;intro gg cap w9 VX O We Wf;have K9:=(M.alloc _).grown O HO.o)|(go_at_call 208;refine(Q _).V ?_;rintro e w2 ⟨rfl,b2⟩;have a:=dW d0 b2;have K2:=d.G a d.lt)|(go_at_call 209;refine(T w2 a).V ?_;rintro e w3 ⟨rfl,b3⟩;have G:=dW a b3;have K3:=d.G G d.lt)|(go_at_call 210;refine(hC w3 G).V ?_;rintro e w4 ⟨v4,rfl,I,b4⟩;have⟨f4,a4,e4,_⟩:=id I;obtain rfl:=e4.eq;have H:=dW G b4;have K4:=d.G H d.lt)|(go_at_call 211;refine(WE w4 H).V ?_;rintro e w5 ⟨v5,rfl,J,b5⟩;have⟨f5,a5,e5,_⟩:=id J;obtain rfl:=e5.eq;have c5:=dW H b5;have K5:=d.G c5 d.lt)|(go_at_call 212;refine(WF w5 c5).V ?_;rintro e w6 ⟨v6,rfl,N,Z⟩;have⟨f6,a6,e6,_⟩:=id N;obtain rfl:=e6.eq;have f:=dW c5 Z;have K6:=d.G f d.lt)|(go_at_call 213;refine(WG w6 f).V ?_;rintro e y ⟨rf,rfl,W,F⟩;obtain⟨f7,a7,rfl⟩:=W.isFn;have s:=dW f F;have z7:=s.size;have M:=d.G s d.lt;have VW:=eZ s VV))
   have a:nI y (Qk kp mk U λb=>X b/\(Value.slice j l.length m).ownBlock≠some b) mp (mr y (Qk kp mk U λb=>X b/\(Value.slice j l.length m).ownBlock≠some b) mp D) (je y (Qk kp mk U λb=>X b/\(Value.slice j l.length m).ownBlock≠some b) mp D) g ⟨g.f.num,aa v,.bool r,.slice K g.riv.length L,.func (.func f4) #[] a4.toArray,.func (.func f5) #[] a5.toArray,.func (.func f6) #[] a6.toArray,.func (.func f7) #[] a7⟩:=
    ⟨rfl,by rw[<-V],by rw[<-Y],HR.o.O (λb _ c=>s.block b c),⟨x,R.mV (.O λb _ c=>s.block b c) (λ_ _ q=>q),I.mV λb q c=>⟨p.nq (aM G.size q),(dW b5 (dW Z F)).block b c⟩,J.mV λb q c=>⟨p.nq (aM H.size q),(dW Z F).block b c⟩,N.mV λb q c=>⟨p.nq (aM c5.size q),F.block b c⟩⟩,W⟩
   have c:=A.snoc C i Nt s a HG.o VX O (We.imp id id) Wf;go_wp2;go_roundw
   case rel=>grind
   case measure=>simp[intOf];omega
  .have V0:decide ((k:Int)<(E.length:Int))=false:=by grind
   obtain rfl:k=gs.length:=Vv
   have c:Hid (∃l0,eP wr (Qk kp mk U X) 268 8 (.slice j l.length m) l0.length (l0.flatMap jg)/\iO wr (Qk kp mk U X) mp (mr wr (Qk kp mk U X) mp o) (je wr (Qk kp mk U X) mp o) gs l0):=by
    have a:=A.sts;rw[bB]at a;have T:Mv wr (Qk kp mk U λb=>X b/\(Value.slice j l.length m).ownBlock≠some b) wr (Qk kp mk U X):= .V λb q _=>q.V λq=>q.1
    refine⟨l,⟨pr A.row (aP _),λb h=> ?_⟩,a.mV T (λ_ _ u B=>B.mV T (λ_ _ q=>q)) λ_ _ u B=>B.mV T (λ_ _ q=>q)⟩;have a:=(A.row.lt b h).1;exact⟨Vv,Vv,λq=>by have:=A.ul b q;omega,WC.o b a⟩
   have a:Hid (vO kp mk mu S mp wr z o U X):=A.kin.ok.less λb q _=>q.1
   go_wp2;go_ret;exact⟨_,z,o,rfl,c.o,a.o,A.ext,A.kep⟩
def Pf (MK:qD):∀n,Ud kp mk W0 mu S mp P n:=by
 intro n
 induction n using Nat.strongRecOn with
 |_ n ih=>
 refine Ue kp mk W0 mu S mp P n λm d h=> ?_
 have f:=ih m h;have e:∀g:GF,g.form≠4->xg kp mk W0 mu S mp P m g:=λg a=>Ju kp mk W0 mu S mp P m g a f
 refine Ij kp mk W0 mu S mp P m d MK λg _=> ?_
 by_cases a:g.form=4
 .refine Jv kp mk W0 mu S mp P m g a (Ij kp mk W0 mu S mp P m _ MK λc b=>e c ?_);simp only[aR,bW,or_false]at b;rcases b with rfl|rfl;.simp[lN]
  .simp[lN]
 grind
end
end
end Go.Proofs.YtfebdimolnobaaaGreatDoor
