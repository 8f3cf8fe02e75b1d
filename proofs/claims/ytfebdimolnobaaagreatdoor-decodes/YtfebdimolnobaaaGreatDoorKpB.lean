import Derived.Test.YtfebdimolnobaaaGreatDoorPxF
set_option maxRecDepth 100000
set_option maxHeartbeats 8000000
set_option linter.all false
namespace Go.Proofs.YtfebdimolnobaaaGreatDoor
open Go.RowKit Go.Proofs.Tryz
section
open Go.Maps
open Tq
structure ui:Prop where
 c:∀(w:aw) (P:ax) (mp:am) (g:GF) (fb:Nat) (iq:aC),eR w P mp g fb->S9 210 #[ag fb,.pointer iq] w (mO w)
 m:∀(w:aw) (P:ax) (mp:am) (g:GF) (fb:Nat) (iq:aC),eR w P mp g fb->S9 211 #[ag fb,.pointer iq] w (mO w)
 w:∀(w:aw) (P:ax) (mp:am) (g:GF) (fb:Nat) (iq:aC),eR w P mp g fb->S9 212 #[ag fb,.pointer iq] w (mO w)
 p:xU
 e:Bj
def wd.isFn {w:aw}{Q:ax}{mp pm:am}{g:GF}{v:Value}(h:wd w Q (mg w Q mp pm) g v):Bh v:=by
 unfold wd at h;split at h;.exact mg.fn h
 .obtain⟨_,_,_,_,rfl,_⟩:=h;exact⟨_,_,rfl⟩
def Ld:(prog.info? 268).map (λi=>(i.zero,i.size,i.bytes))=some (some (.agg #[aa 0,aa 0,.bool false,ah,.nilFunc,.nilFunc,.nilFunc,.nilFunc]),8,80):=Tj
def Bl {w:aw}{fb:Nat}{a b c d e:Value}{T:TypeId}(h:dP w fb #[a,b,c,d,e] T):w.cell? (ai fb 0)=some a/\w.cell? (ai fb 2)=some c/\w.cell? (ai fb 3)=some d/\w.cell? (ai fb 4)=some e:=⟨h.cell 0,h.cell 2,h.cell 3,h.cell 4⟩
section
variable (kp mk W0:Nat) (mu:Int) (S:eE) (mp:am) (P:ax)
def Ia (n:Nat)(g:GF)(a:g.form≠4)(k:RL kp mk W0 mu S mp P n):we kp mk W0 mu S mp P n g:=by
 intro w N pm U X L I x u;have⟨E,T,c,_,r,b⟩:=u.blk;obtain⟨O,R,Q,rfl⟩:=dO r.1;rw[dG a]at b;have m:eG mp g=jd mp g.f.ty:=by unfold eG;rw[dG a]
 rw[m]at c;have K:(g.form==4)=false:=by simp[a]
 by_cases h16:jd mp g.f.ty=16
 .have o:((jd mp g.f.ty:Int)==16)=true:=by simp[h16]
  have⟨d,f⟩:=I.md.ty _ h16;have⟨D,s,F,G,H,J⟩:=I.md.md _ d f;have i:=qi f;have t:=k w N pm U X D d s I x (by rw[i];exact f) G H J;rw[F]at b;subst b;unfold gR at c;have⟨A,B⟩:=c.I;go_enter func207,ntmps207;go_wp2_with fail;refine t.V ?_;rintro e w2 ⟨v,l,j,rfl,⟨p,rfl,y⟩,h,z,C⟩;go_wp2;go_ret;refine⟨_,l,j,rfl,(show qh _ _ mp j g _ from ?_),h,z,C⟩;unfold qh;rw[dG a,dH h16];exact⟨p,rfl,by rw[<-i];exact y⟩
 .have o:((jd mp g.f.ty:Int)==16)=false:=Tg;obtain⟨M,rfl⟩:∃q,E= .pointer q:=(by subst b;unfold gR;split<;>exact⟨_,rfl⟩);have⟨A,B⟩:=c.I;go_enter func207,ntmps207;go_wp2;go_ret;refine⟨_,N,pm,rfl,(show qh _ _ mp pm g _ from ?_),I.ok,λ_ _ q=>q,dY.refl _ _⟩;unfold qh;rw[dG a,dG h16];rfl
def Ib (n:Nat)(g:GF)(h:g.form=4)(s:EV kp mk W0 mu S mp P n [lF oe g.f.key 1,lF qZ g.f.ty 2]):we kp mk W0 mu S mp P n g:=by
 intro w N pm U X L I D C;have⟨R,Y,m,_,y,k⟩:=C.blk;obtain⟨T,W,V,rfl⟩:=dO y.1;rw[dH h]at k;obtain⟨z,rfl,B⟩:=k;have A:=s w N pm U X z eS I D B.msg Tf;have K:(g.form==4)=true:=by simp[h]
 unfold gR at m;have⟨O,Q⟩:=m.I;go_enter func207,ntmps207;go_wp2_with fail;refine A.V ?_;rintro e w2 ⟨v,t,j,rfl,⟨l,p,E⟩,d,F,r⟩;obtain⟨G,J,H,rfl⟩:=dO p.1;have f:∀o,aj w2 (w2.alloc o):=λo=>(Below.refl _ _).alloc (aD _) _
 have x:=(I.on d r).nq (aD _);go_wp2;go_ret;refine⟨_,t,j,rfl,(show qh _ _ mp j g _ from ?_),d.O (λb a=>(f _).block b a),F,r.alloc _⟩;unfold qh;rw[dH h];refine⟨_,rfl,_,l,dP.new _ _ _,x,p.mV (.O λb _ a=>(f _).block b a),E.mV (.O λb _ a=>(f _).block b a) λM i u c=> ?_⟩;have c:=mg.mV (.O λb _ a=>(f (ak #[.slice G J H] 254)).block b a) (λ_ _ q=>q) c;unfold mg at c;simp only[aR,cp,or_false]at i;rcases i with rfl|rfl;.rw[dG (by simp[lF])]at c;exact c
 .rw[dG (by simp[lF])]at c;exact c
structure Lf (w:aw)(pm:am)(U:aB)(X:ax)(gs:List GF)(wr:aw)(v:Value)(k:Nat)(l:List tG)(N':Nat)(Ts:am):Prop where
 row:wr.ownsRow w.heap.size 268 8 v l.length (l.flatMap iT)
 sts:ix wr (Qk kp mk U λb=>X b/\v.ownBlock≠some b) mp (mg wr (Qk kp mk U λb=>X b/\v.ownBlock≠some b) mp Ts) (gs.take k) l
 kin:Cb kp mk W0 mu S mp P wr N' Ts U (λb=>X b/\v.ownBlock≠some b)
 ext:∀t p,pm t=some p->Ts t=some p
 kep:dY [mk] w wr
 ul:∀u∈U,u<w.heap.size
 wl:W0<=w.heap.size
end
section
variable {kp mk W0:Nat} {mu:Int} {S:eE} {mp:am} {P:ax}
def Qk.V {U:aB}{X Y:ax}{b:Nat}(h:Qk kp mk U X b)(a:X b->Y b):Qk kp mk U Y b:=⟨h.1,h.2.1,h.2.2.1,a h.2.2.2⟩
def uO.less {w:aw}{N:Nat}{pm:am}{U:aB}{X Y:ax}(h:uO kp mk mu S mp w N pm U X)(i:∀b,X b->b<w.heap.size->Y b):uO kp mk mu S mp w N pm U Y:=
 ⟨h.kb,h.mb,h.ne,h.ct,h.inj,λt p g=>by
  rcases h.pl t p g with a|⟨d,c,a,e,f⟩;.exact .inl a
  .exact .inr ⟨d,c,a,e,f.mV (.V λb q l=>q.V λq=>i b q l) (λ_ _ q=>q)⟩⟩
def Lf.snoc {w:aw}{pm:am}{U:aB}{X:ax}{gs:List GF}{wr w1 w7 w8:aw}{v:Value}{k:Nat}{l:List tG}{N' N1:Nat}{Ts Tx:am}{g:GF}{x:tG}{gg cap:Nat}{o:Obj}
  (h:Lf kp mk W0 mu S mp P w pm U X gs wr v k l N' Ts) (F:uO kp mk mu S mp w1 N1 Tx U λb=>X b/\v.ownBlock≠some b) (K:∀t p,Ts t=some p->Tx t=some p) (m:dY [mk] wr w1) (j:aj w1 w7)
  (D:rD w7 (Qk kp mk U λb=>X b/\v.ownBlock≠some b) mp (mg w7 (Qk kp mk U λb=>X b/\v.ownBlock≠some b) mp Tx) g x) (Q:gs[k]?=some g)
  (H:w8.ownsRow w.heap.size 268 8 (Ta gg (l.length+1) cap) (l.length+1) (l.flatMap iT++iT x)) (a:(w7.alloc o).grownBy w8 v.ownBlock) (C:v.ownBlock=some gg\/gg=w7.heap.size+1) (T:gg<w8.heap.size):
  Lf kp mk W0 mu S mp P w pm U X gs w8 (Ta gg (l.length+1) cap) (k+1) (l++ [x]) N1 Tx:=by
 have B:(Value.slice (some (ai gg 0)) (l.length+1) cap).ownBlock=some gg:=rfl;have W:=λb f=>(h.row.lt b f)
 have I:=h.kin;have n:∀b,v.ownBlock≠some b->b<w7.heap.size->w8.heap[b]?=w7.heap[b]?:=λb f c=>(a.block b Tg (λe=>f e.sy)).J (Below.l _ _ b c)
 have L:∀b,v.ownBlock≠some b->b<w7.heap.size->gg≠b:=λb f c e=>by
  subst e;rcases C with q|q;.exact f q
  .omega
 have r:Mv w7 (Qk kp mk U λb=>X b/\v.ownBlock≠some b) w8 (Qk kp mk U λb=>X b/\(Value.slice (some (ai gg 0)) (l.length+1) cap).ownBlock≠some b):=λb q c=>
  ⟨q.V λq=>⟨q.1,λe=>L b q.2 c (Option.some.inj (B▸e))⟩,n b q.2.2.2.2 c⟩
 have R:w.heap.size<=gg:=(H.lt gg rfl).1;have hold:∀b,b<w.heap.size->v.ownBlock≠some b:=λb f e=>by have:=(W b e).1;omega
 have d:=m.size;have d:=j.size;have d:=h.kep.size;have Y:=h.wl;have Z:=I.kl;have d:=I.ml;have y:Mv wr (Qk kp mk U λb=>X b/\v.ownBlock≠some b) w7 (Qk kp mk U λb=>X b/\v.ownBlock≠some b):=λb q c=>⟨q,(j.block b Te).J (m.block b c (by simp;exact q.1))⟩
 have i:=F.O (w':=w7) λb c=>j.block b c
 have M:gs.take (k+1)=gs.take k++ [g]:=by rw[bu,Q];rfl
 have E:dY [mk] w w8:=⟨a.os.J (j.os.J (m.os.J h.kep.os)),a.tape.J (j.tape.J (m.tape.J h.kep.tape)),a.output.J (j.output.J (m.output.J h.kep.output)),by have:=a.size;simp at this;omega,
  λb c J=>(n b (hold b c) Te).J ((j.block b Te).J ((m.block b Te J).J (h.kep.block b c J)))⟩
 refine⟨by simpa [cZ]using H,?_,⟨⟨?_,?_,i.ne,i.ct,i.inj,λt p V=> ?_⟩,?_,by have:=E.size;omega,λu s=>⟨(I.uu u s).1,by have:=h.ul u s;have:=E.size;omega⟩,λb f=>⟨(I.xx b f).1,λe=> ?_⟩,λb f=>⟨(I.xn b (by have:=a.size;simp at this;omega)).1,λe=> ?_⟩,I.hp,I.kl,I.ml⟩,λt p q=>K _ _ (h.ext t p q),E,h.ul,h.wl⟩;.rw[M];exact ix.snoc (D.mV r λu s=>s.mV r (λ_ _ q=>q)) (h.sts.mV (λb q c=>⟨(r b (y b q c).1 Te).1,(r b (y b q c).1 Te).2.J (y b q c).2⟩) λ_ _ u s=>(s.mV y K).mV r (λ_ _ q=>q))
 .exact(n kp (hold kp Te) i.kb.lt).J i.kb
 .exact i.mb.O (n mk (hold mk Te) i.mb.lt)
 .rcases i.pl t p V with⟨z,A,G⟩|⟨d,O,z,A,G⟩;.exact .inl ⟨z,(n p (hold p (h.ul p z)) A.lt).J A,G⟩
  .exact .inr ⟨d,O,z,A,G.mV r (λ_ _ q=>q)⟩
 .refine I.md.O λb f c=> ?_
  have N:=I.hp b f;exact(n b (hold b Te) Te).J ((j.block b Te).J (m.block b c (by simp;exact N.2.1)))
 .have:=Option.some.inj (B▸e);have:=(I.hp b f).1;omega
 .have:=Option.some.inj (B▸e);omega
end
section
variable (kp mk W0:Nat) (mu:Int) (S:eE) (mp:am) (P:ax)
def Gs (n:Nat)(gs:List GF)(MK:ui)(f:∀g∈gs,we kp mk W0 mu S mp P n g):EV kp mk W0 mu S mp P n gs:=by
 intro w N pm U X c nm I o a b;have⟨i0,Um,Un,Uo,Up⟩:=info_parts Ld;have⟨h,B,d,b,e,c⟩:=id a;obtain⟨a,b,rfl⟩:=ig e.1;have a:=c.len
 have a:Lf kp mk W0 mu S mp P w pm U X gs w (ah) 0 [] N pm:=
  ⟨aX _ _ _ _,rfl,⟨I.ok.less λb q _=>⟨q,by simp[Value.ownBlock]⟩,I.md,I.w0,I.uu,λb q=>⟨I.xx b q,by simp[Value.ownBlock]⟩,λb q=>⟨I.xn b q,by simp[Value.ownBlock]⟩,I.hp,I.kl,I.ml⟩,λ_ _ q=>q,dY.refl _ _,λu V=>(I.uu u V).2,I.w0⟩
 have J:=I.hp;have h:=I.kl;have h:=I.ml;have h:=I.w0;have Ue:Hid (∀b,w.heap.size<=b->X b):=I.xn;have⟨s,x⟩:=d.I;clear I;go_enter func140,ntmps140;go_wp2_with fail;go_loopw [5,14] (λv i wr=>∃(k:Nat) (l:List tG) (r:Nat) (p:am),k<=gs.length/\i=aa k/\Lf kp mk W0 mu S mp P w pm U X gs wr v k l r p) (λ_ i _=>gs.length-(intOf i).toNat)
 case atStart=>exact⟨0,[],N,pm,aM _,rfl,a⟩
 case round=>
  clear a;obtain⟨k,l,r,p,a,rfl,A⟩:=hrel;obtain⟨h,j,rfl⟩:=ig A.row;by_cases hlt:k<gs.length
  .have⟨g,D⟩:=gx hlt;have⟨a,M,i⟩:=c.get D;have d:∀b,P b->b<w.heap.size->wr.heap[b]?=w.heap[b]?:=λb c m=>A.kep.block b m (by simp;exact(J b c).2.1)
   have K:eR wr P mp g a:=i.O d;have i:=e.O d;have t:=f g (aO D) wr r p U _ a A.kin (aL (H6 A.ext) o) K;obtain⟨f,rfl,_,e,d⟩:=dV i.1 Te;have e:=d wr rfl k (ag a) (by simp[fh,M,gR]);have TM:decide ((k:Int)<(B.length:Int))=true:=Tg;have e:k<B.length:=Te;have N:Hid (gs[k]?=some g):=D;have e:Hid (B[k]?=some a):=M;clear d D M s x;go_wp2_with fail;refine t.V ?_;rintro e w1 ⟨d,N1,C,rfl,z,y,Y,s⟩;obtain⟨x,rfl⟩:=z.form;have L:eR w1 P mp g a:=K.O λb c m=>s.block b m (by simp;exact(J b c).2.1)
   have⟨f,i,d,M,O,H⟩:=L.blk;obtain⟨i,rfl⟩:=g8 H;obtain⟨E,F,rfl⟩:=ig O.1;have G:=A.kin.on y s;have o:∀W,aj w1 W->eR W P mp g a:=λW f=>L.O (λb _ m=>f.block b m)
   have I:eG mp g<=16:=by
    unfold eG;split;.exact aD _
    .exact nP _ _
   have D:=λW=>rQ W (eG mp g) (.pointer i) I
   have I:∀W,aj w1 W->S9 209 #[ag a] W λe w'=>e= .returned (.bool (it mp g))/\Below W.heap.size W w':=λW f=>oX W P mp g a (o W f)
   have hC:=λW f=>MK.c W P mp g a x (o W f)
   have Ug:=λW f=>MK.m W P mp g a x (o W f)
   have Uh:=λW f=>MK.w W P mp g a x (o W f)
   have Ui:∀W,aj w1 W->S9 213 #[ag a,.pointer x] W (pw W λw' v=>wd w' (Qk kp mk U λb=>X b/\(Value.slice h l.length j).ownBlock≠some b) (mg w' (Qk kp mk U λb=>X b/\(Value.slice h l.length j).ownBlock≠some b) mp C) g v):=λW f=>
    yZ W _ P mp C g a (.pointer x) MK.p MK.e (λb c=>G.nq (aL f.size c)) (λb c=>G.pq c) (o W f) (z.mV (.O λb _ m=>f.block b m) (λ_ _ q=>q))
   have TD:w1.ownsRow w.heap.size 268 8 (.slice h l.length j) l.length (l.flatMap iT):=dR A.row λb c=>s.block b (A.row.lt b c).2 (by simp;have:=(A.row.lt b c).1;omega)
   have f:a<W0:=(J a M).1;have x:Hid (some a≠(Value.slice h l.length j).ownBlock):=λe=>by have:=(A.row.lt a e.sy).1;omega
   have f:l.length<=2001:=by have:=A.sts.len;rw[bG]at this;omega
   have d0:aj w1 w1.drew:=(Below.refl _ _).drew;have f:=s.size;have f:=A.kep.size;have J:Hid (d5 w1 (Qk kp mk U λb=>X b/\(Value.slice h l.length j).ownBlock≠some b) 3 1 (.slice E g.riv.length F) g.riv.length (gA g.riv)):=O.V (λb c _=>G.pq c);clear H O K o t L;have t:dP w1.drew a #[aa g.f.num,aa g.form,aa (eG mp g),.pointer i,.slice E g.riv.length F] 220:=d;obtain⟨f,o⟩:∃f:Int,(ed (eG mp g):Int)=f:=⟨_,rfl⟩;rw[o]at D;obtain⟨Z,v⟩:=Td (it mp g);rw[v]at I;go_upto_region 6 with fail
   go_region_held3 (λW=>W.cell? (ai a 0)=some (aa g.f.num)/\W.cell? (ai a 2)=some (aa (eG mp g))/\W.cell? (ai a 3)=some (.pointer i)/\W.cell? (ai a 4)=some (.slice E g.riv.length F))
    (first|exact Bl W|exact Bl (H.alloc _)|exact Bl H|exact Bl O|exact Bl M|exact Bl L|exact Bl K|exact Bl G|exact Bl t)
    (first|(refine step_append_lies _ Tk _ _ _ Tk w.heap.size 268 i0 _ 8 80 underlying252 Um Un Uo Up rfl Te (.slice h l.length j) l.length (l.flatMap iT) Tk (TE.alloc _) (ai z.heap.size 0) 1 1 [_,_,_,_,_,_,_,_] Tk Tk (aY (t:=268) (fr:=(0,0)) (heap_alloc_new z _)) Tm Te Tl Te Tg (z.heap.size+1) Tf ?_;intro gg cap w9 TH i TR TS;have W:=(H.alloc _).grown i x.o)|(go_at_call 208;refine(D _).V ?_;rintro e w2 ⟨rfl,b2⟩;have Q:=dL d0 b2;have G:=d.G Q d.lt)|(go_at_call 209;refine(I w2 Q).V ?_;rintro e w3 ⟨rfl,b3⟩;have R:=dL Q b3;have K:=d.G R d.lt)|(go_at_call 210;refine(hC w3 R).V ?_;rintro e w4 ⟨f4,a4,rfl,b4⟩;have T:=dL R b4;have L:=d.G T d.lt)|(go_at_call 211;refine(Ug w4 T).V ?_;rintro e w5 ⟨f5,a5,rfl,b5⟩;have c5:=dL T b5;have M:=d.G c5 d.lt)|(go_at_call 212;refine(Uh w5 c5).V ?_;rintro e w6 ⟨f6,a6,rfl,b6⟩;have c6:=dL c5 b6;have O:=d.G c6 d.lt)|(go_at_call 213;refine(Ui w6 c6).V ?_;rintro e z ⟨rf,rfl,a,b7⟩;obtain⟨f7,a7,rfl⟩:=a.isFn;have c7:=dL c6 b7;have z7:=c7.size;have H:=d.G c7 d.lt;have TE:=eL c7 TD))
   have d:rD z (Qk kp mk U λb=>X b/\(Value.slice h l.length j).ownBlock≠some b) mp (mg z (Qk kp mk U λb=>X b/\(Value.slice h l.length j).ownBlock≠some b) mp C) g ⟨g.f.num,aa f,.bool Z,.slice E g.riv.length F,.func (.func f4) #[] a4,.func (.func f5) #[] a5,.func (.func f6) #[] a6,.func (.func f7) #[] a7⟩:=
    ⟨rfl,by rw[<-o],by rw[<-v],J.o.O (λb _ m=>c7.block b m),⟨_,_,rfl⟩,⟨_,_,rfl⟩,⟨_,_,rfl⟩,a⟩
   have a:=A.snoc y Y s c7 d N.o TH i (TR.imp id id) TS;go_wp2;go_roundw
   case rel=>exact⟨k+1,_,N1,C,Te,by go_num,a⟩
   case measure=>simp[intOf];omega
  .have TM:decide ((k:Int)<(B.length:Int))=false:=Tg;obtain rfl:k=gs.length:=Te
   have e:Hid (∃l0,d5 wr (Qk kp mk U X) 268 8 (.slice h l.length j) l0.length (l0.flatMap iT)/\ix wr (Qk kp mk U X) mp (mg wr (Qk kp mk U X) mp p) gs l0):=by
    have d:=A.sts;rw[bX]at d;have a:Mv wr (Qk kp mk U λb=>X b/\(Value.slice h l.length j).ownBlock≠some b) wr (Qk kp mk U X):= .V λb q _=>q.V λq=>q.1
    refine⟨l,⟨iz A.row (aM _),λb c=> ?_⟩,d.mV a λ_ _ u V=>V.mV a (λ_ _ q=>q)⟩;have a:=(A.row.lt b c).1;exact⟨Te,Te,λq=>by have:=A.ul b q;omega,Ue.o b a⟩
   have a:Hid (uO kp mk mu S mp wr r p U X):=A.kin.ok.less λb q _=>q.1
   go_wp2;go_ret;exact⟨_,r,p,rfl,e.o,a.o,A.ext,A.kep⟩
def Nu (MK:ui):∀n,RL kp mk W0 mu S mp P n:=by
 intro n
 induction n using Nat.strongRecOn with
 |_ n ih=>
 refine RM kp mk W0 mu S mp P n λm e h=> ?_
 have f:=ih m h;have c:∀g:GF,g.form≠4->we kp mk W0 mu S mp P m g:=λg a=>Ia kp mk W0 mu S mp P m g a f
 refine Gs kp mk W0 mu S mp P m e MK λg _=> ?_
 by_cases a:g.form=4
 .refine Ib kp mk W0 mu S mp P m g a (Gs kp mk W0 mu S mp P m _ MK λd b=>c d ?_);simp only[aR,cp,or_false]at b;rcases b with rfl|rfl;.simp[lF]
  .simp[lF]
 .exact c g a
end
end
end Go.Proofs.YtfebdimolnobaaaGreatDoor
