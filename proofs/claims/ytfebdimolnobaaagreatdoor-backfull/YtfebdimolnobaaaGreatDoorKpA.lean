import Derived.Test.YtfebdimolnobaaaGreatDoorPlI
set_option maxRecDepth 100000
set_option maxHeartbeats 8000000
set_option linter.all false
namespace Go.Proofs.YtfebdimolnobaaaGreatDoor
open Go.RowKit Go.Proofs.Tryz
section
open Go.Maps
open VH
def nZ:∀{l:List MT} {s:au} {d:MT},lw l s=some d->d.name=s
 | [],_,_,h=>by cases h
 |m::l,s,d,h=>by
  rw[lw]at h;split at h;.rename_i q;cases h;exact jJ (gR.1 q)
  .exact nZ h
def ee.freshP {bs:aB}{a b:aw}(h:ee bs a b){c:Nat}(f:a.heap.size<=c)(off:Nat)(u:Value):ee bs a (b.setCell (aj c off) u):=
 ⟨h.os,h.tape,h.output,by simpa using h.size,λi d e=>by rw[et Vv];exact h.block i d e⟩
def Qk (kp mk:Nat)(U:aB)(X:ax)(b:Nat):Prop:=b≠mk/\b≠kp/\b∉U/\X b
def oy (S:eF)(pm:an):Nat:=(S.ms.filter λd=>(pm d.name).isNone).length
def pG {α:Type}{p q:α->Bool}(h:∀x,p x=true->q x=true):∀l:List α,(l.filter p).length<=(l.filter q).length
 | []=>aE _
 |x::l=>by
  have ih:=pG h l;grind
def tL {α:Type}{p q:α->Bool}(h:∀x,p x=true->q x=true){y:α}(a:p y=false)(b:q y=true):∀l:List α,y∈l->(l.filter p).length<(l.filter q).length
 |x::l,c=>by
  rw[cm,cm];rcases aR.1 c with rfl|c;.rw[a,b];have:=pG h l;grind
  .have ih:=tL h a b l c;grind
def Jo {S:eF}{pm VI:an}(h:∀t p,pm t=some p->VI t=some p):oy S VI<=oy S pm:=by
 refine pG (λd a=> ?_) S.ms
 cases hq:pm d.name with
 |none=>rfl
 |some p=>grind
def AY {S:eF}{pm VI:an}(h:∀t p,pm t=some p->VI t=some p){d:MT}(a:d∈S.ms)(b:pm d.name=none){p:Nat}(h1:VI d.name=some p):oy S VI<oy S pm:=by
 refine tL (λd a=> ?_) (y:=d) (by grind) (by grind) S.ms a
 cases hq:pm d.name with
 |none=>rfl
 |some p=>grind
structure vO (kp mk:Nat)(mu:Int)(S:eF)(mp:an)(w:aw)(N:Nat)(pm:an)(U:aB)(X:ax):Prop where
 kb:dZ w kp #[.int .i32 mu,.int .u32 0,.map (some mk)] 170
 mb:gr w mk N pm
 ne:mk≠kp
 ct:N+oy S pm<=4000
 inj:∀t t' p,pm t=some p->pm t'=some p->t=t'
 pl:∀t p,pm t=some p->(p∈U/\dZ w p #[ai] 254/\∃d,S.msg t=some d)\/∃d gs,S.msg t=some d/\lJ S mp d gs/\iP w (Qk kp mk U X) mp pm gs p
structure Mm (w:aw)(P:ax)(S:eF)(mp:an):Prop where
 md:∀t d,S.msg t=some d->∃mb gs,zJ mp t=some mb/\jk w P mp mb d.name gs/\lJ S mp d gs/\d.name.size<=2000
 ty:∀t,jC mp t=16->∃d,S.msg t=some d
def Mm.O {w w':aw}{P:ax}{S:eF}{mp:an}(h:Mm w P S mp)(i:∀b,P b->b<w.heap.size->w'.heap[b]?=w.heap[b]?):Mm w' P S mp:=
 ⟨λt d q=>by
  have⟨j,a,c,e,f,g⟩:=h.md t d q
  exact⟨j,a,c,e.O i,f,g⟩,h.ty⟩
structure Cv (kp mk W0:Nat)(mu:Int)(S:eF)(mp:an)(P:ax)(w:aw)(N:Nat)(pm:an)(U:aB)(X:ax):Prop where
 ok:vO kp mk mu S mp w N pm U X
 md:Mm w P S mp
 w0:W0<=w.heap.size
 uu:∀u∈U,W0<=u/\u<w.heap.size
 xx:∀b,P b->X b
 xn:∀b,w.heap.size<=b->X b
 hp:∀b,P b->b<W0/\b≠mk/\b≠kp
 kl:kp<W0
 ml:mk<W0
def Rm (kp mk:Nat)(mu:Int)(S:eF)(mp:an)(w:aw)(pm:an)(U:aB)(X:ax)(A:aw->(an)->Value->Prop)(e:Ending)(w':aw):Prop:=
 ∃v N' VI,e= .returned v/\A w' VI v/\vO kp mk mu S mp w' N' VI U X/\(∀t p,pm t=some p->VI t=some p)/\ee [mk] w w'
section
variable {kp mk W0:Nat} {mu:Int} {S:eF} {mp:an} {P:ax} {w w':aw} {N N':Nat} {pm VI:an} {U:aB} {X:ax}
def Cv.pq (h:Cv kp mk W0 mu S mp P w N pm U X){b:Nat}(a:P b):Qk kp mk U X b:=by
 have⟨e,c,d⟩:=h.hp b a;exact⟨c,d,λq=>by have:=(h.uu b q).1;omega,h.xx b a⟩
def Cv.nq (h:Cv kp mk W0 mu S mp P w N pm U X){b:Nat}(a:w.heap.size<=b):Qk kp mk U X b:=by
 have:=h.w0;have:=h.kl;have:=h.ml;exact⟨Vv,Vv,λq=>by have:=(h.uu b q).2;omega,h.xn b a⟩
def Cv.on (h:Cv kp mk W0 mu S mp P w N pm U X)(hk:vO kp mk mu S mp w' N' VI U X)(hw:ee [mk] w w'):Cv kp mk W0 mu S mp P w' N' VI U X:=
 ⟨hk,h.md.O λb a d=>hw.block b d (by simp;exact(h.hp b a).2.1),aM h.w0 hw.size,λu c=>⟨(h.uu u c).1,aI (h.uu u c).2 hw.size⟩,h.xx,λb a=>h.xn b (aM hw.size a),h.hp,h.kl,h.ml⟩
def vO.O (h:vO kp mk mu S mp w N pm U X)(hk:∀b,b<w.heap.size->w'.heap[b]?=w.heap[b]?):vO kp mk mu S mp w' N pm U X:=
 ⟨(hk _ h.kb.lt).J h.kb,h.mb.O (hk _ h.mb.lt),h.ne,h.ct,h.inj,λt p i=>by
  rcases h.pl t p i with⟨c,a,e⟩|⟨d,f,c,a,e⟩;.exact .inl ⟨c,(hk _ a.lt).J a,e⟩
  .exact .inr ⟨d,f,c,a,e.O (λb _ g=>hk b g) (λ_ _ q=>q)⟩⟩
def vO.lt (h:vO kp mk mu S mp w N pm U X){t:au}{p:Nat}(c:pm t=some p):p<w.heap.size:=by
 rcases h.pl t p c with⟨_,a,_⟩|⟨d,e,_,_,v,l,b,_⟩;.exact a.lt
 .exact b.lt
def Cv.O (h:Cv kp mk W0 mu S mp P w N pm U X)(hb:ak w w'):Cv kp mk W0 mu S mp P w' N pm U X:=h.on (h.ok.O λb a=>hb.block b a) (.oB hb)
def vO.begin {w2:aw}{d:MT}(h:vO kp mk mu S mp w N pm U X)(C:S.msg d.name=some d)(s:pm d.name=none)(u:((w.alloc (.cells #[ai] 254))).grownBy w2 (some mk))(hm:gr w2 mk (N+1) (jF pm d.name w.heap.size)):
  vO kp mk mu S mp w2 (N+1) (jF pm d.name w.heap.size) (w.heap.size::U) X:=by
 have r:∀t p,pm t=some p->jF pm d.name w.heap.size t=some p:=λt p a=>by
  unfold jF;split;.rename_i q;rw[show t=d.name from jJ (gR.1 q),s]at a;cases a
  omega
 have A:jF pm d.name w.heap.size d.name=some w.heap.size:=(by unfold jF;rw[dR (gR.2 rfl)])
 have i:∀t p,jF pm d.name w.heap.size t=some p->(t=d.name/\p=w.heap.size)\/pm t=some p:=λt p a=>by
  unfold jF at a;split at a;.rename_i q;cases a;exact .inl ⟨jJ (gR.1 q),rfl⟩
  grind
 have l:∀b,b≠mk->b<w.heap.size->w2.heap[b]?=w.heap[b]?:=λb f m=>(u.block b Vx (λe=>f (Option.some.inj e))).J (Below.l _ _ b m)
 have E:dZ w2 w.heap.size #[ai] 254:=(dZ.new w _ _).grown u (λe=>by have:=h.mb.lt;grind);have F:=AY r (jx C) s A;refine⟨(l _ (λe=>h.ne e.sy) h.kb.lt).J h.kb,hm,h.ne,by have:=h.ct;omega,λt o p k c=> ?_,λt p a=> ?_⟩
 .rcases i t p k with⟨j,G⟩|j
  .rcases i o p c with⟨g,_⟩|g;.rw[j,g]
   .have:=h.lt g;omega
  .rcases i o p c with⟨g,H⟩|g;.have:=h.lt j;omega
   .exact h.inj t o p j g
 .rcases i t p a with⟨rfl,rfl⟩|x;.grind
  .rcases h.pl t p x with⟨k,c,n⟩|⟨y,z,k,c,n⟩;.refine .inl ⟨by grind,(l p (λe=> ?_) c.lt).J c,n⟩;subst e;have⟨D,B,_⟩:=h.mb;obtain⟨_,_,v,_⟩:=B;unfold dZ at c;grind
   .refine .inr ⟨y,z,k,c,n.mV (λb f m=>⟨⟨f.1,f.2.1,?_,f.2.2.2⟩,l b f.1 m⟩) r⟩;intro e;rcases aR.1 e with e|e;.omega
    .exact f.2.2.1 e
def vO.done {w3:aw}{p:Nat}{v:Value}{l:List sD}{d:MT}{gs:List GF}(h:vO kp mk mu S mp w3 N pm (p::U) X)(D:pm d.name=some p)(C:S.msg d.name=some d)(A:lJ S mp d gs)(i:p∉U)(a:p≠mk/\p≠kp/\X p)(B:dZ w3 p #[ai] 254)
  (s:eP w3 (Qk kp mk (p::U) X) 268 8 v l.length (l.flatMap jg)) (E:iO w3 (Qk kp mk (p::U) X) mp (mr w3 (Qk kp mk (p::U) X) mp pm) (je w3 (Qk kp mk (p::U) X) mp pm) gs l):vO kp mk mu S mp (w3.setCell (aj p 0) v) N pm U X:=by
 have f:∀b,b≠p->(w3.setCell (aj p 0) v).heap[b]?=w3.heap[b]?:=λb x=>et (λe=>x e.sy)
 have c:Mv w3 (Qk kp mk (p::U) X) (w3.setCell (aj p 0) v) (Qk kp mk U X):=λb q _=>⟨⟨q.1,q.2.1,λe=>q.2.2.1 (by simp[e]),q.2.2.2⟩,f b (λe=>q.2.2.1 (by simp[e]))⟩
 refine⟨(f _ (λe=>a.2.1 e.sy)).J h.kb,h.mb.O (f _ (λe=>a.1 e.sy)),h.ne,h.ct,h.inj,λt q r=> ?_⟩;by_cases e:q=p;.subst e;obtain rfl:=h.inj _ _ _ r D;refine .inr ⟨d,gs,C,A,v,l,by simpa using B.set 0 v,⟨a.1,a.2.1,i,a.2.2⟩,s.mV c,E.mV c (λg _ u j=>j.mV c (λ_ _ q=>q)) λg _ u j=>j.mV c (λ_ _ q=>q)⟩
 .rcases h.pl t q r with⟨k,m,n⟩|⟨z,y,k,m,n⟩
  .rcases aR.1 k with o|o;.omega
   .exact .inl ⟨o,(f q e).J m,n⟩
  .exact .inr ⟨z,y,k,m,n.mV c (λ_ _ q=>q)⟩
end
section
variable (kp mk W0:Nat) (mu:Int) (S:eF) (mp:an) (P:ax)
def Gl (n:Nat)(gs:List GF):Prop:=∀(w:aw) (N:Nat) (pm:an) (U:aB) (X:ax) (mb:Nat) (nm:au),Cv kp mk W0 mu S mp P w N pm U X->oy S pm<=n->jk w P mp mb nm gs->gs.length<=2001->
 Vq 140 #[ah kp,ah mb] w (Rm kp mk mu S mp w pm U X λw' VI v=>∃l,eP w' (Qk kp mk U X) 268 8 v l.length (l.flatMap jg)/\iO w' (Qk kp mk U X) mp (mr w' (Qk kp mk U X) mp VI) (je w' (Qk kp mk U X) mp VI) gs l)
def Ud (n:Nat):Prop:=∀(w:aw) (N:Nat) (pm:an) (U:aB) (X:ax) (mb:Nat) (d:MT) (gs:List GF),Cv kp mk W0 mu S mp P w N pm U X->oy S pm<=n->S.msg d.name=some d->jk w P mp mb d.name gs->lJ S mp d gs->d.name.size<=2000->
 Vq 88 #[ah kp,ah mb] w (Rm kp mk mu S mp w pm U X λ_ VI v=>∃p,v=ah p/\VI d.name=some p)
def xg (n:Nat)(g:GF):Prop:=∀(w:aw) (N:Nat) (pm:an) (U:aB) (X:ax) (fb:Nat),Cv kp mk W0 mu S mp P w N pm U X->oy S pm<=n->fi w P mp g fb->
 Vq 207 #[ah kp,ah fb] w (Rm kp mk mu S mp w pm U X λw' VI v=>je w' (Qk kp mk U X) mp VI g v)
def Jp (w:aw):(zeroValue 116).run prog w= .ok (.pointer none) w:=VA
def gr.lookP {w:aw}{b n:Nat}{mp:an}(h:gr w b n mp)(s:au)(g:s.size<=maxLen):
  (Instr.lookup 161 (.map (some b)) (ag s) false).run prog w= .ok (ii (mp s)) w:=by
 obtain⟨D,d,f⟩:=h;have⟨v,i,c,a⟩:=d.lookup IR underlying161 (Jp w) (lO none) (IS s g);have e:=f s;unfold oM at e;rw[e]at a;rw[c,qg a]
def Ue (n:Nat)(E:∀m gs,m<n->Gl kp mk W0 mu S mp P m gs):Ud kp mk W0 mu S mp P n:=by
 intro w N pm U X mb d gs I hn A z Q hsz;have⟨fv,fbs,g,hPb,K,Wo⟩:=id z;obtain⟨fa,fn,fc,rfl⟩:=d7 K.1;have c:=λq=>gr.lookP (w:=w.drewN q) (I.ok.mb.O rfl) d.name VC
 have⟨T,V⟩:=I.ok.kb.I;have⟨W,Y⟩:=g.I
 cases hpm:pm d.name with
 |some p=>
  rw[hpm]at c;unfold ii at c;have hl0:=c 0;go_enter func88,ntmps88;go_upto_region 1 with fail
  go_quiet (fail);go_wp2;go_ret
  exact⟨_,N,pm,rfl,⟨p,rfl,hpm⟩,I.ok.O (λ_ _=>rfl),λ_ _ q=>q,(ee.refl _ _).drewN _⟩
 |none=>
  rw[hpm]at c;unfold ii at c;go_enter func88,ntmps88;go_upto_region 1 with fail
  go_quiet (fail);have j:ak w (w.drewN nq):=iu (Below.refl _ _) nq;have a:=I.O j;have Wb:=g.G j g.lt;have Wd:=z.O (w':=w.drewN nq) (λb _ c=>j.block b c);have Z:ee [mk] w (w.drewN nq):= .oB j;clear T V W Y c g z K Wo I j;generalize w.drewN nq=w1 at*;have⟨D,x,G⟩:=a.ok.mb;have s:(w1.Vn #[ai] 254).drew.ownsMap prog 9 gO mk N D:=x.alloc _;have hct:=a.ok.ct;have⟨w2,VU,L,f⟩:=s.update IR underlying161 VC (key:=ag d.name) (val:=ah w1.heap.size) (IS d.name VC) (lO (some w1.heap.size));have h:(w1.Vn #[ai] 254).grownBy w2 (some mk):=⟨f.os,f.tape,f.output,f.size,f.block⟩;have O:=gr.put (b:=w1.heap.size) s G L;have C:=a.ok.begin A hpm h O;have rF:ee [mk] w1 w2:=((ee.refl _ _).alloc _).J (ee.of_grown h);have We:w1.heap.size<w2.heap.size:=by have:=h.size;simp at this;omega
  have I2:Cv kp mk W0 mu S mp P w2 (N+1) (jF pm d.name w1.heap.size) (w1.heap.size::U) X:=
   ⟨C,a.md.O λb k c=>rF.block b c (by simp;exact(a.hp b k).2.1),aM a.w0 rF.size,λu o=>by
    rcases aR.1 o with rfl|o;.exact⟨a.w0,We⟩
    .exact⟨(a.uu u o).1,aI (a.uu u o).2 rF.size⟩,a.xx,λb k=>a.xn b (aM rF.size k),a.hp,a.kl,a.ml⟩
  have J:∀t p,pm t=some p->jF pm d.name w1.heap.size t=some p:=λt p R=>by
   unfold jF;split;.rename_i q;rw[show t=d.name from jJ (gR.1 q),hpm]at R;cases R
   omega
  have r:jF pm d.name w1.heap.size d.name=some w1.heap.size:=(by unfold jF;rw[dR (gR.2 rfl)]);have V9:=AY J (jx A) hpm r;obtain⟨B,rfl⟩:∃B,n=B+1:=⟨n-1,Vv⟩;have Wf:=E B gs Vv w2 (N+1) _ _ X mb d.name I2 Vv (Wd.O λb k c=>rF.block b c (by simp;exact(a.hp b k).2.1)) Q.len;have Wh:dZ w2 w1.heap.size #[ai] 254:=(dZ.new w1 _ _).grown h (λe=>by have:=x.lt;grind);have i:=a.nq (aE _);have⟨T,V⟩:=(a.ok.kb.alloc (am #[ai] 254)).I;have⟨W,Y⟩:=(Wb.alloc (am #[ai] 254)).I
  have Wk:Hid (∀(w3:aw) (N':Nat) (VI:an) (v:Value) (l:List sD),vO kp mk mu S mp w3 N' VI (w1.heap.size::U) X->VI d.name=some w1.heap.size->dZ w3 w1.heap.size #[ai] 254->eP w3 (Qk kp mk (w1.heap.size::U) X) 268 8 v l.length (l.flatMap jg)->iO w3 (Qk kp mk (w1.heap.size::U) X) mp (mr w3 (Qk kp mk (w1.heap.size::U) X) mp VI) (je w3 (Qk kp mk (w1.heap.size::U) X) mp VI) gs l->vO kp mk mu S mp (w3.setCell (aj w1.heap.size 0) v) N' VI U X):=
   λw3 N' VI v l g h2 h3 h4 h5=>g.done h2 A Q i.2.2.1 ⟨i.1,i.2.1,i.2.2.2⟩ h3 h4 h5
  have hmk:w1.heap.size≠mk:=i.1;clear f s x G L O h E;go_upto_region 5 with fail
  go_region
  all_goals
   go_wp2_with fail;refine Wf.V ?_;rintro e w3 ⟨v,N',VI,rfl,⟨l,M,VX⟩,Wp,y,H⟩;have F:dZ w3 w1.heap.size #[ai] 254:=Wh.kept H (by grind);obtain⟨va,vn,vc,rfl⟩:=d7 M.1;have⟨k5,k6⟩:=F.I;go_wp2;go_ret;refine⟨_,N',VI,rfl,⟨_,rfl,y _ _ r⟩,Wk.o w3 N' VI _ l Wp (y _ _ r) F M VX,λt p q=>y _ _ (J t p q),?_⟩;exact(Z.J (rF.J H)).freshP Z.size 0 _
end
end
section
open VH
inductive UD (wa:aw)(mp:an)(g:GF)(fb p wn:Nat)(VM:Int)(sg:Bool)(W:aw):Array Bool->Act->Prop where
 |mk {l0 l1 l2 l3 l4 l5 l6 l7 l8 l9 l10 VN VQ VR VS:Bool} {t5 t6 t7 t8 t9 VY VT VZ VU V0 V7 VV:Value} (bP bQ bR:Nat) (pv:Value) (f0:l0=true->t8=ah fb) (f1:l1=true->t9=ah fb) (f2:l2=true->VY=ah fb) (f3:l3=true->VT=aa g.f.num) (f4:l4=true->VZ=ah fb) (f5:l5=true->VU=aa VM) (f6:l6=true->V0=ah fb) (f7:l7=true->V7= .agg #[aa (jC mp g.f.key),pv]) (f8:l8=true->VV= .bool sg) (B:Below wa.heap.size wa W) (xP:Bx (wa.heap.size) W l9 VQ l3 t5 bP 3 VT) (xQ:Bx (wa.heap.size) W l10 VR l5 t6 bQ 3 VU) (xR:Bx (wa.heap.size) W VN VS l8 t7 bR 4 VV) (VJ:oz l9 l10 bP bQ) (VK:oz l9 VN bP bR) (VL:oz l10 VN bQ bR):UD wa mp g fb p wn VM sg W #[l0,l1,l2,l3,l4,l5,l6,l7,l8,l9,l10,VN,VQ,VR,VS] ⟨#[ah fb,ah p,undef,ah wn,.nilFunc,t5,t6,t7,t8,t9,VY,VT,VZ,VU,V0,V7,VV,undef],[]⟩
section
variable (w:aw) (Q P:ax) (mp:an) (g:GF) (fb p:Nat)
def yL (hQ:∀b,w.heap.size<=b->Q b)(h:fi w P mp g fb)(h4:g.form=4):Calls prog 377 #[ah fb,ah p] w (jO w λw' v=>Qj w' Q mp (λx=>x=p) g v):=by
 have a:= @wA;have⟨d,e,T,_,a,c⟩:=h.blk;obtain⟨e,rfl⟩:=gL c;obtain⟨e,i,f,rfl⟩:=d7 a.1;have⟨Z,KI⟩:=ec w #[ah p] 116;have R:fi (w.alloc (am #[ah p] 116)) P mp g fb:=h.O (λb _ O=>Z.block b O);have M:=T.alloc (am #[ah p] 116);have S:=M.lt;obtain⟨N,f⟩:=Vu (ly mp g);obtain⟨sg,e⟩:=Vu (iM (jC mp g.f.key));have V9:=λW d=>py W (jC mp g.f.key) d (uy mp _)
 rw[e]at V9;clear c a h;go_in
 go_upto_region 1 with fail
 obtain⟨I,a⟩:=Vu (w.alloc (am #[ah p] 116));rw[a]at Z KI R M S;simp only[a];have Wd:w.heap.size<I.heap.size:=KI.lt;clear a T
 have hL:∀W,Below I.heap.size I W->Vq 186 #[ah fb] W λe w'=>e= .returned (aa N)/\w'=W:=λW a=>by
  rw[<-f];exact td W P mp g fb (R.O (λb _ O=>a.block b O))
 have We:∀W,Below I.heap.size I W->Vq 188 #[ah fb] W λe w'=>∃d,e= .returned (.agg #[aa (jC mp g.f.key),d])/\Below W.heap.size W w':=λW a=>Hp W P mp g fb (R.O (λb _ O=>a.block b O)) h4
 clear R;go_cut [5,6,7]from 8 to 16 (λx y z Y=>∃V U X,x=ah V/\y=ah U/\z=ah X/\dZ Y V #[aa g.f.num] 3/\dZ Y U #[aa N] 3/\dZ Y X #[.bool sg] 4/\I.heap.size<=V/\I.heap.size<=U/\I.heap.size<=X/\Below I.heap.size I Y)
 case first=>
  refine kE (λL a W=>UD I mp g fb p w.heap.size N sg W L a) VB ⟨0,0,0,undef,nofun,nofun,nofun,nofun,nofun,nofun,nofun,nofun,nofun,(Below.refl _ _).drew,Bx.start,Bx.start,Bx.start,nofun,nofun,nofun⟩ VA ?_ ?_;.rintro L a W @⟨l0,l1,l2,I,l4,K,l6,l7,N,O,c,k,y,z,H,t5,t6,t7,t8,t9,VY,VT,VZ,VU,R,Y,VV,o,q,r,d,A,C,D,s,E,t,F,G,u,B,f,i,j,l,m,n⟩ J;obtain rfl:I=true:=J 3 Vy;obtain rfl:K=true:=J 5 Vy;obtain rfl:N=true:=J 8 Vy;obtain rfl:O=true:=J 9 Vy;obtain rfl:c=true:=J 10 Vy;obtain rfl:k=true:=J 11 Vy;obtain rfl:y=true:=J 12 Vy;obtain rfl:z=true:=J 13 Vy;obtain rfl:H=true:=J 14 Vy;obtain⟨rfl,y,_⟩:=f.made rfl;obtain⟨rfl,z,_⟩:=i.made rfl;obtain⟨rfl,I,_⟩:=j.made rfl;obtain rfl:=s rfl;obtain rfl:=t rfl;obtain rfl:=u rfl;have c:=f.put rfl;have c:=i.put rfl;have c:=j.put rfl;go_wp2;go_meet;grind
  refine .cons ?_ (.cons ?_ (.cons ?_ (.cons ?_ (.cons ?_ (.cons ?_ (.cons ?_ (.cons ?_ (.cons ?_ (.cons ?_ (.cons ?_ (.cons ?_ (.cons ?_ (.cons ?_ (.cons ?_ .nil))))))))))))))
  all_goals
   rintro L a W ⟨o,q,r,d,A,C,D,s,E,t,F,G,u,B,f,i,j,l,m,n⟩ T c K H;subst T
  .clear c;go_simp;refine H.out _ _ ?_;simp only[Vo];exact⟨o,q,r,d,λ_=>rfl,C,D,s,E,t,F,G,u,B,f,i,j,l,m,n⟩
  .obtain rfl:=eX (k:=0) c VA;obtain rfl:=A rfl;clear c;go_simp;refine H.out _ _ ?_;simp only[Vo];exact⟨o,q,r,d,λ_=>rfl,λ_=>rfl,D,s,E,t,F,G,u,B,f,i,j,l,m,n⟩
  .obtain rfl:=eX (k:=1) c VA;obtain rfl:=C rfl;clear c;go_simp;refine H.out _ _ ?_;simp only[Vo];exact⟨o,q,r,d,A,λ_=>rfl,λ_=>rfl,s,E,t,F,G,u,B,f,i,j,l,m,n⟩
  .obtain rfl:=eX (k:=2) c VA;obtain rfl:=D rfl;have a:=M.G B S;have⟨J,K⟩:=a.I;clear c;go_simp;refine H.out _ _ ?_;simp only[Vo];exact⟨o,q,r,d,A,C,λ_=>rfl,λ_=>rfl,E,t,F,G,u,B,(f.val _),i,j,l,m,n⟩
  .clear c;go_simp;refine H.out _ _ ?_;simp only[Vo];exact⟨o,q,r,d,A,C,D,s,λ_=>rfl,t,F,G,u,B,f,i,j,l,m,n⟩
  .obtain rfl:=eX (k:=4) c VA;obtain rfl:=E rfl;clear c;go_simp;go_wp2_with (first|(go_at_call 186;refine(hL _ B).V ?_;rintro e _ ⟨rfl,rfl⟩))
   refine H.out _ _ ?_;simp only[Vo];exact⟨o,q,r,d,A,C,D,s,λ_=>rfl,λ_=>rfl,F,G,u,(dW B (Below.refl _ _)),(f.G (Below.refl _ _)),((i.G (Below.refl _ _)).val _),(j.G (Below.refl _ _)),l,m,n⟩
  .clear c;go_simp;refine H.out _ _ ?_;simp only[Vo];exact⟨o,q,r,d,A,C,D,s,E,t,λ_=>rfl,G,u,B,f,i,j,l,m,n⟩
  .obtain rfl:=eX (k:=6) c VA;obtain rfl:=F rfl;clear c;go_simp;go_wp2_with (first|(go_at_call 188;refine(We _ B).V ?_;rintro e w2 ⟨a,rfl,S⟩))
   refine H.out _ _ ?_;simp only[Vo];exact⟨o,q,r,a,A,C,D,s,E,t,λ_=>rfl,λ_=>rfl,u,(dW B S),(f.G S),(i.G S),(j.G S),l,m,n⟩
  .obtain rfl:=eX (k:=7) c VA;obtain rfl:=G rfl;clear c;go_simp;go_wp2_with (first|(go_at_call 189;refine(V9 _ d).V ?_;rintro e w3 ⟨rfl,M⟩))
   refine H.out _ _ ?_;simp only[Vo];exact⟨o,q,r,d,A,C,D,s,E,t,F,λ_=>rfl,λ_=>rfl,(dW B M),(f.G M),(i.G M),((j.G M).val _),l,m,n⟩
  .clear c;go_simp;refine H.out _ _ ?_;simp only[Vo];exact⟨W.heap.size,q,r,d,A,C,D,s,E,t,F,G,u,(B.alloc B.size _),(f.new B.size _),(i.alloc _),(j.alloc _),(oz.new1 i),(oz.new1 j),n⟩
  .clear c;go_simp;refine H.out _ _ ?_;simp only[Vo];exact⟨o,W.heap.size,r,d,A,C,D,s,E,t,F,G,u,(B.alloc B.size _),(f.alloc _),(i.new B.size _),(j.alloc _),(oz.new2 f),m,(oz.new1 j)⟩
  .clear c;go_simp;refine H.out _ _ ?_;simp only[Vo];exact⟨o,q,W.heap.size,d,A,C,D,s,E,t,F,G,u,(B.alloc B.size _),(f.alloc _),(i.alloc _),(j.new B.size _),l,(oz.new2 f),(oz.new2 i)⟩
  .obtain rfl:=eX (k:=9) c VA;obtain rfl:=eX (k:=3) c VA;obtain⟨rfl,y,a⟩:=f.made rfl;have⟨L,J,K⟩:=iF a;obtain rfl:=s rfl;clear c;go_simp;refine H.out _ _ ?_;simp only[Vo];exact⟨o,q,r,d,A,C,D,λ_=>rfl,E,t,F,G,u,(B.setCell (p:=(aj o 0)) y _),f.store,(i.other (λe=>l rfl e) _),(j.other (λe=>m rfl e) _),l,m,n⟩
  .obtain rfl:=eX (k:=10) c VA;obtain rfl:=eX (k:=5) c VA;obtain⟨rfl,z,a⟩:=i.made rfl;have⟨K,y,J⟩:=iF a;obtain rfl:=t rfl;clear c;go_simp;refine H.out _ _ ?_;simp only[Vo];exact⟨o,q,r,d,A,C,D,s,E,λ_=>rfl,F,G,u,(B.setCell (p:=(aj q 0)) z _),(f.other (λe=>l.sy rfl e) _),i.store,(j.other (λe=>n rfl e) _),l,m,n⟩
  .obtain rfl:=eX (k:=11) c VA;obtain rfl:=eX (k:=8) c VA;obtain⟨rfl,I,a⟩:=j.made rfl;have⟨z,k,y⟩:=iF a;obtain rfl:=u rfl;clear c;go_simp;refine H.out _ _ ?_;simp only[Vo];exact⟨o,q,r,d,A,C,D,s,E,t,F,G,λ_=>rfl,(B.setCell (p:=(aj r 0)) I _),(f.other (λe=>m.sy rfl e) _),(i.other (λe=>n.sy rfl e) _),j.store,l,m,n⟩
 case rest=>
  obtain⟨V,U,X,rfl,rfl,rfl,a,c,d,e,f,i,M⟩:=hcut;go_wp2;go_ret;exact⟨_,rfl,⟨_,_,_,_,p,rfl,KI.G M Wd,by grind,a,by grind,rfl,hQ _ (aE _),hQ _ Vv,hQ _ Vv,hQ _ Vv⟩,dW Z M⟩
end
def EC {w:aw}{Q:ax}{mp pm:an}{k t:au}{p:Nat}(h:rV w Q mp (Dm w Q mp pm) (NS mp pm) [lN oh k 1,lN qe t 2] p):iP w Q mp pm [lN oh k 1,lN qe t 2] p:=
 rV.mV (.O λ_ _ _=>rfl) (λg a v b=>by
  simp only[aR,bW,or_false]at a;unfold mr;rcases a with rfl|rfl;.rw[dQ (by simp[lN])];exact b
  .rw[dQ (by simp[lN])];exact b) (λg a v b=>by
  simp only[aR,bW,or_false]at a;rcases a with rfl|rfl;.exact(je.lk (by simp[lN])).2 b
  .exact(je.lk (by simp[lN])).2 b) h
def S0 (w:aw)(B:Nat)(S:eF)(mp pm:an)(k:Nat)(d:MT)(f:fw)(g:GF)(Z:ax)(rb db:Nat)(b:au)(e a z deep F:Nat)(kind:Int)(m:PM)(v:Value)
  (I:pE w B S mp k d Z rb db b e a z deep m) (hpc:nT w (λb=>b<B) S mp pm) (hv:Qj w (λb=>b<B) mp (rV w (λb=>b<B) mp (Dm w (λb=>b<B) mp pm) (NS mp pm) [lN oh g.f.key 1,lN qe g.f.ty 2]) g v) (P:FG S mp d f g) (H:ed d.fs f.num=some f) (Y:Fj S) (h4:g.form=4) (hkd:k+deep=8) (hgd:mj S d) (hRd:Mj S mp pm B b F) (hF:e-z<=F):
  mH v [aa kind,ah rb,ah db] w (iE S k d w Z rb db (b.extract 0 e) deep (yq S b F (eR f) PM.none deep (zX f m) (oo (b.extract 0 e) z deep (ly mp g)))):=by
 obtain⟨ib,lb,ub,sb,U,rfl,h1,h2,h3,h5,T,Q,q2,q3,q4⟩:=hv;refine⟨418,[_,_,_,_],rfl,enters_of func418 VA rfl,?_⟩;show Vq 418 #[aa kind,ah rb,ah db,ah ib,ah lb,ah ub,ah sb] w _;have T:=EC T;have hm:f.isMap=true:=by rw[P.map,h4];rfl
 have VI:fC S f=some (eR f):=by unfold fC;rw[dR hm]
 have⟨Wd,Wx,Wy,WL⟩:=tC (deep:=deep) P Y VI Vv;have⟨WN,kq2,WO,WP⟩:=P.key h4;have Wk:pQ S f= .ents f.key:=by unfold pQ;rw[dR hm]
 have ok1:oO S (some d) f.num (.ents f.key):=λd' f' e1 e2=>by cases e1;rw[H]at e2;cases e2;exact Wk.sy
 have ok2:∀kd,oO S (some d) f.num kd->kd= .ents f.key:=λkd q=>by rw[q d f rfl H,Wk]
 rw[P.eq]at h3 h5 T;rw[WN,WP]at h5;have Wz:(b.extract 0 e).size=e:=gK I.eb;have hab:=I.az;have hze:=I.ze;have WA:=I.eb;have WB:=I.bs;have Wl:=I.rB;have Wm:=I.rZ;have J:=I.hZ;have VX:=I.cx.le;have WC:rb<w.heap.size:=dZ.lt I.hr;have VY:=λw1 (h:ei w1 rb (b.extract 0 e) z deep)=>qV w1 rb (b.extract 0 e) z deep (ly mp g) h Vv Vv Vv Wx Wy
 obtain⟨A,VK⟩:=Vu (ly mp g);rw[VK]at h2 VY⊢
 have Wn:Hid (∀y:Nat×Nat,oo (b.extract 0 e) z deep A= .ok y->z<y.1/\y.1<=y.2/\y.2<=e/\1<=k/\(b.extract 0 e).extract 0 y.2=b.extract 0 y.2):=λy hy=>by
  have⟨Q,q2⟩:=wX hy;have⟨M,s,t⟩:=jw (z:=y.1) (e:=y.2) Q;rw[Wz]at t;have hlv:1<=A:=(by rw[<-VK];unfold ly;rw[WL];split<;>simp);exact⟨M,s,t,Vv,kL WA t⟩
 clear VK Wx Wy Wd;obtain⟨R,hR⟩:=Vu (oo (b.extract 0 e) z deep A);rw[hR]at VY Wn⊢;clear hR;have hlen:=I.wm.len
 have WD:Hid (∀c,k=c+1->∀(u:aw) (C:ax) (y:Nat×Nat) (j p:Nat),Below B w u->z<y.1->y.1<=y.2->y.2<=e->ei u j (b.extract 0 y.2) y.1 ((deep:Int)+1)->eQ S k (some (eR f)) u C p PM.none->(∀x,C x->B<=x/\x<u.heap.size)->B<=j->¬C j->
   Vq 89 #[ah U,ah j,ah p] u (iE S c (eR f) u C j p (b.extract 0 y.2) (deep+1) (pR y.2 (eY S b F (eR f) PM.none y.1 y.2 (deep+1))))):=by
  rintro c rfl u C y j p We M s t WQ WR hC WS WT;exact hRd u C (eR f) _ y.1 y.2 (deep+1) c U _ j p (I.cx.on We) (hpc.O (λx q _=>We.block x q)) (T.O (λx q _=>We.block x q) (λ_ _ q=>q)) (Ch P h4) (Y.good.sub VI) (by rw[Int.natCast_succ];exact WQ) WR hC WS WT s Vv Vv Vv (WM.none _ _ _)
 have VZ:Hid (∀c,k=c+1->∀(w6:aw) (L E:ax) (l:Nat) (y:Nat×Nat) (n:PM),z<y.1->y.1<=y.2->y.2<=e->eY S b F (eR f) PM.none y.1 y.2 (deep+1)= .ok n->eQ S (k+1) (some d) w6 L db m->eQ S k (some (eR f)) w6 E l n->(∀x,E x->¬L x)->(∀x,L x->x<w6.heap.size)->(∀x,E x->x<w6.heap.size)->
   Vq 187 #[ah db,aa f.num,.bool (fk jp f.key),ah l] w6 λV w'=>V= .returned (.tuple #[])/\∃Z',fP w6 (λb=>L b\/E b) w' Z'/\eQ S (k+1) (some d) w' Z' db (zX f m n)):=by
  rintro c rfl w6 L E l y n M s t WU Wb WV Wf WW WX;have Wo:=lz Y.good WB F (eR f) PM.none y.1 y.2 (deep+1) n WU (Y.good.sub VI) s Vv (WM.none _ _ _);have Wp:=BU (hgd f (fD H).2 hm) Wo;have hel:=Wo.len.1;exact vF S c (some d) w6 L E db l m n f.num f.key _ Wb WV.toKey WO Wf WW WX ok1 ok2 rfl Wp.ky (by have⟨r,hr⟩:=Wp.key;show(gD n).get 1≠ [];have:(mV (gD n)).2.2.get 1=_:=hr;simp only[mV]at this;rw[this];simp) Vv (by have:=hlen.2.2 f.num;omega) Vv
 have hr0:=I.hr;have WE:=I.hd;have⟨O,KE⟩:=ec w #[ai,ai] 183;have Wq:w.heap.size<(w.alloc (am #[ai,ai] 183)).heap.size:=KE.lt;have VP:Hid (∀y:Nat×Nat,yq S b F (eR f) PM.none deep (zX f m) (.ok y)=Lx (zX f m) y.2 (eY S b F (eR f) PM.none y.1 y.2 (deep+1))):=λ_=>rfl
 clear I;go_enter func418,ntmps418;go_upto_region 1 with fail
 obtain⟨o,Wh⟩:=Vu (w.alloc (am #[ai,ai] 183));rw[Wh]at KE O Wq;simp only[Wh];clear Wh;obtain⟨l,VS⟩:=Vu w.heap.size;have b1:Below B w o.drew:=(O.V VX).drew;have V0:ei o.drew rb (b.extract 0 e) z deep:=dZ.G hr0 O.drew WC;have V7:eQ S (k+1) (some d) o.drew Z db m:=WE.O (λx _ q=>O.block x q);have VQ:eU w Z rb o.drew Z:= .oB O.drew;have HC:Hid (∀W:aw,Below B w W->W.cell? (aj ib 0)=some (ah U)/\W.cell? (aj lb 0)=some (aa A)):=λW hW=>⟨(h1.G hW Q).cell 0,(h2.G hW q2).cell 0⟩
 have Ws:dZ o.drew w.heap.size #[ai,ai] 183:=KE;rw[VS]at Ws Wq;simp only[VS]
 go_region_held2 (λW=>W.cell? (aj ib 0)=some (ah U)/\W.cell? (aj lb 0)=some (aa A))
  (first|exact HC.o _ b5|exact HC.o _ b3|exact HC.o _ b1)
  (first
   |(
     go_at_call 185;refine(VY o.drew V0).V ?_;intro V w3 hq;rcases hq.part with⟨x,rfl,rfl,K⟩|⟨y,j,rfl,rfl,K,WY,WZ,VT,VU⟩;.unfold d5;go_wp2;exact⟨rfl,rfl,Z,VQ.J (.oK K)⟩
     have⟨M,s,t,v3,v4⟩:=Wn.o y rfl;obtain⟨c,rfl⟩:∃c,k=c+1:=⟨k-1,Vv⟩;have V8:=VQ.J (.oK K);have WF:=eU.dr V7 K Wm;have hw3:o.heap.size<=w3.heap.size:=K.size;have hnb1:o.heap.size<=j:=WY;have hnl3:j<w3.heap.size:=dZ.lt VT;have WG:¬Z j:=λq=>by have:=(J j q).2;omega
     have WH:=Ws.kept K Vx;have WJ:eQ S (c+1) (some (eR f)) w3 (λx=>x=l) l PM.none:=eQ.fresh WH;have b3:Below B w w3:=V8.G VX (λx q=>(J x q).1) Wl
     have VR:ei w3 j (b.extract 0 y.2) y.1 ((deep:Int)+1):=by rw[<-v4];exact VT)
   |(
     go_at_call 89;refine(WD.o c rfl w3 (λx=>x=l) y j l b3 M s t VR WJ (λx q=>by subst q;exact⟨Vv,Vv⟩) Vv Vv).V ?_;intro V N W5;rcases W5.part with⟨x,X,rfl,Z5,D⟩|⟨n,X,rfl,Z5,D,W6⟩;.unfold d5;go_wp2;rw[VP.o y,X];exact⟨rfl,rfl,_,tE V8 Vv Vv D⟩
     have Wu:=tE V8 Vv Vv D;have b5:Below B w N:=Wu.G VX (λx q=>(J x q).1) Wl;have Wv:Hid (eY S b F (eR f) PM.none y.1 y.2 (deep+1)= .ok n):=X
     clear X))
 have Ww:∀x,Z5 x->x=l\/w3.heap.size<=x:=D.grow;have V9:=W6.clip;have Wb:eQ S (c+1+1) (some d) N Z db m:=WF.O λx q hl=>D.block x hl (λe=>by have:=(J x q).2;omega) (λe=>WG (e▸q))
 have WK:ei N rb (b.extract 0 e) y.2 deep:=(D.block rb (dZ.lt VU) Vv (λe=>WZ e.sy)).J VU;have hw5:w3.heap.size<=N.heap.size:=D.size;have⟨k1,k2⟩:=(h3.G b5 q3).I;have⟨k3,k4⟩:=(h5.G b5 q4).I;go_wp2_with fail;refine(VZ.o c rfl N Z (λx=>Z5 x/\x<N.heap.size) l y n M s t Wv.o Wb V9 (λx Q q2=>by have:=(J x q2).2;have:=Ww x Q.1;omega) (λx q=>by have:=(J x q).2;omega) (λx q=>q.2)).V ?_;rintro V w9 ⟨rfl,Z9,G,W7⟩;go_wp2;go_end0;rw[VP.o y,Wv.o];refine⟨rfl,Z9,Wu.J ⟨G.os,G.tape,G.output,G.size,λi hi q _=>G.block i hi (λe=>q (e.imp id (λe=>e.1))),λi q=>(G.grow i q).imp (λe=>e.imp id (λe=>e.1)) id⟩,W7,?_⟩;exact dZ.step WK G (λq=>q.elim Wm (λq=>(Ww rb q.1).elim (λe=>Vv) (λe=>Vv)))
end
end Go.Proofs.YtfebdimolnobaaaGreatDoor
