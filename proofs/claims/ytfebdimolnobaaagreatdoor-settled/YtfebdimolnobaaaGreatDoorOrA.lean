import Derived.Test.YtfebdimolnobaaaGreatDoorEnL
import Derived.Conc.MuLone
set_option maxRecDepth 100000
set_option maxHeartbeats 8000000
set_option linter.all false
namespace Go.Proofs.YtfebdimolnobaaaGreatDoor
open Go.RowKit Go.Proofs.Tryz
section
variable {P:Program} {ops:Array Oper} {Q:Exit->Act->an->Prop}
def sS (l:List Bool)(i:Nat)(h:l[i]?=some false):(l.set i true).count false+1=l.count false:=by
 induction l generalizing i with
 |nil=>cases h
 |cons x xs ih=>
  cases i with
  |zero=>simp only[cw,Option.some.injEq]at h;subst h;simp
  |succ i=>
   simp only[cu]at h;have q:=ih i h;simp only[aB,List.count_cons];omega
def pR {L:Array Bool}{i:Nat}(h:L.getD i true=false):L.toList[i]?=some false:=by
 rw[bt];rw[Array.getD_eq_getD_getElem?]at h
 cases hq:L[i]? with
 |none=>rw[hq]at h;cases h
 |some x=>rw[hq]at h;exact dF some h
def EE (P:Program)(ops:Array Oper)(Q:Exit->Act->an->Prop)(J:Array Bool->Act->an->Prop)(i:Nat)(o:Oper):Prop:=
 ∀L a w,J L a w->L.getD i true=false->(o.after.all λe=> !Region.binds .any e||L.getD e.on false)=true->
  ∀K:Act->an->Prop,Shut (∀a' w',J (L.setIfInBounds i true) a' w'->K a' w')->
   if Region.wanted o (yielded ops a.tmps)=true then Oper.wp P o a w K Q else K (a.put o.dst undef) w
def eC {af:Array Edge}{L:Array Bool}{k:Nat}(hd:(af.all λe=> !Region.binds .any e||L.getD e.on false)=true)(hk:(af.any λe=>Region.binds .any e&&e.on==k)=true):L.getD k false=true:=by
 obtain⟨i,hi,h⟩:=Array.any_eq_true.1 hk;rw[aJ]at h;have q:=Array.all_eq_true.1 hd i hi;rw[h.1,cF,di,beq_iff_eq.1 h.2]at q;exact q
def mt (P:Program)(ops:Array Oper)(Q:Exit->Act->an->Prop)(J:Array Bool->Act->an->Prop)(k:Nat)(l:List Oper):Prop:=∀j o,l[j]?=some o->EE P ops Q J (k+j) o
def mt.nil {J:Array Bool->Act->an->Prop}{k:Nat}:mt P ops Q J k []:=λj o h=>by cases h
def mt.cons {J:Array Bool->Act->an->Prop}{k:Nat}{o:Oper}{l:List Oper}(h:EE P ops Q J k o)(hs:mt P ops Q J (k+1) l):mt P ops Q J k (o::l):=λj x hx=>by
 cases j with
 |zero=>simp only[cw,Option.some.injEq]at hx;subst hx;exact h
 |succ j=>simp only[cu]at hx;have q:=hs j x hx;rwa [Nat.add_right_comm,cV]at q
def IB (ops:Array Oper):Bool:=(List.range ops.size).all λi=>((ops[i]?).map λo=>o.after.all λe=> !Region.binds .any e||decide (e.on<i)).getD true
def FJ (hb:IB ops=true){L:Array Bool}(h:Region.ready .any ops L= [])(n:Nat):∀i,i<n->i<ops.size->L.getD i true=true:=by
 induction n with
 |zero=>intro i hi;omega
 |succ n ih=>
  intro i hi hl
  by_cases hn:i<n
  ·exact ih i hn hl
  have e:i=n:=QD;subst e
  cases hg:L.getD i true with
  |true=>rfl
  |false=>
   have hm:i∈Region.ready .any ops L:=by
    refine mem_ready.2 ⟨hg,_,bz hl,λe he QR=> ?_⟩;have q:=bO.1 hb i (List.mem_range.2 hl);rw[bz hl]at q;have q1:=Array.all_eq_true_iff_forall_mem.1 q e he;rw[QR,cF,di]at q1;have q2:=dC q1;have q3:=ih e.on q2 QD
    have q4:e.on<L.size:=by
     have q5:=pR hg;rw[bt]at q5;obtain⟨q6,_⟩:=bu.1 q5;omega
    rw[Array.getD_eq_getD_getElem?,bz q4]at q3⊢;exact q3
   rw[h]at hm
   cases hm
def FK {L:Array Bool}(h:L.toList.count false=0)(i:Nat):L.getD i true=true:=by
 cases hg:L.getD i true with
 |true=>rfl
 |false=>
  have q:=sS _ _ (pR hg);omega
def FL {J:Array Bool->Act->an->Prop}(hb:IB ops=true)(hs:mt P ops Q J 0 ops.toList)(hd:∀L a w,J L a w->(∀i,i<ops.size->L.getD i true=true)->Q .normal a w):
  ∀(fuel:Nat) (L:Array Bool) (a:Act) (w:an),L.toList.count false<=fuel->J L a w->wpAny P .any ops Q fuel L a w:=by
 intro fuel
 induction fuel with
 |zero=>
  intro L a w hc hj;refine⟨List.eq_nil_iff_forall_not_mem.2 λi hi=> ?_,hd _ _ _ hj λi _=>FK QD i⟩;have q:=sS _ _ (pR (mem_ready.1 hi).1);omega
 |succ n ih=>
  intro L a w hc hj;refine⟨λh0=>hd _ _ _ hj λi hi=>FJ hb h0 (i+1) i (Nat.lt_succ_self i) hi,λi hi=> ?_⟩;obtain⟨h0,o,ho,QP⟩:=mem_ready.1 hi;have q:=sS _ _ (pR h0);have QQ:=hs i o (by rw[bt];exact ho);rw[Nat.zero_add]at QQ;refine wpOp_step ho λK' hK=>QQ L a w hj h0 ?_ K' λa' w' QS=>hK a' w' (ih _ a' w' ?_ QS)
  ·rw[Array.all_eq_true_iff_forall_mem];intro e he
   cases hb:Region.binds .any e with
   |false=>rfl
   |true=>simpa using QP e he hb
  ·rw[Array.toList_setIfInBounds];omega
def jH {id:Nat}{a:Act}{w:an}(J:Array Bool->Act->an->Prop)(hm:P.follows .mixedOrders=true)(h0:J (Array.replicate ops.size false) a w.drew)
  (hb:IB ops=true) (hd:∀L a w,J L a w->(∀i,i<ops.size->L.getD i true=true)->Q .normal a w) (hs:mt P ops Q J 0 ops.toList):(Code.region id ops true).wp P Q a w:=
 wp_region_any hm (FL hb hs hd _ _ _ _ QE h0)
end
section
variable {lo b:Nat} {W:an} {t v:Value} {T:TypeId}
structure Bx (lo:Nat)(W:an)(on st vr:Bool)(t:Value)(b:Nat)(T:TypeId)(v:Value):Prop where
 made:on=true->t=ag b/\lo<=b/\iI W b T
 put:st=true->dK W b #[v] T
 dep:st=true->on=true/\vr=true
section
variable {lo:Nat} {W W':an} {on st vr:Bool} {t:Value} {b:Nat} {T:TypeId} {v:Value}
theorem Bx.start:Bx lo W false false false t b T v:=⟨nofun,nofun,nofun⟩
theorem Bx.below (h:Bx lo W on st vr t b T v)(hb:Below W.heap.size W W'):Bx lo W' on st vr t b T v:=
 ⟨λe=>by
  obtain⟨h1,h2,u,h3⟩:=h.made e
  exact⟨h1,h2,u,h3.below hb h3.lt⟩,λe=>(h.put e).below hb (h.put e).lt,h.dep⟩
theorem Bx.alloc (h:Bx lo W on st vr t b T v)(o:Obj):Bx lo (W.alloc o) on st vr t b T v:=h.below ((Below.refl _ _).alloc (ay _) o)
theorem Bx.val (h:Bx lo W on st false t b T v)(v':Value):Bx lo W on st true t b T v':=
 ⟨h.made,λe=>(by cases(h.dep e).2),λe=>(by cases(h.dep e).2)⟩
theorem Bx.new (h:Bx lo W false st vr t b T v)(hl:lo<=W.heap.size)(u:Value):Bx lo (W.alloc (.cells #[u] T)) true st vr (ag W.heap.size) W.heap.size T v:=
 ⟨λ_=>⟨rfl,hl,u,dK.new _ _ _⟩,λe=>(by cases(h.dep e).1),λe=>(by cases(h.dep e).1)⟩
theorem Bx.store (h:Bx lo W true st true t b T v):Bx lo (W.setCell (ai b 0) v) true true true t b T v:=by
 obtain⟨h1,h2,h3⟩:=h.made rfl;have q:=dK.set1 h3 v;exact⟨λ_=>⟨h1,h2,v,q⟩,λ_=>q,λ_=>⟨rfl,rfl⟩⟩
theorem Bx.other (h:Bx lo W on st vr t b T v){c:Nat}(hne:on=true->c≠b)(x:Value):Bx lo (W.setCell (ai c 0) x) on st vr t b T v:=
 ⟨λe=>by
  obtain⟨h1,h2,h3⟩:=h.made e
  exact⟨h1,h2,h3.other 0 x (hne e)⟩,λe=>(h.put e).other 0 x (hne (h.dep e).1),h.dep⟩
theorem Bx.lt (h:Bx lo W on st vr t b T v)(e:on=true):b<W.heap.size:=by
 obtain⟨_,_,u,h3⟩:=h.made e;exact h3.lt
end
def m8 (on1 on2:Bool)(b1 b2:Nat):Prop:=on1=true->on2=true->b1≠b2
theorem m8.symm {on1 on2:Bool}{b1 b2:Nat}(h:m8 on1 on2 b1 b2):m8 on2 on1 b2 b1:=λe1 e2 e=>h e2 e1 e.symm
theorem m8.new1 {on st vr:Bool}(h:Bx lo W on st vr t b T v):m8 true on W.heap.size b:=λ_ e q=>by
 have:=h.lt e;omega
theorem m8.new2 {on st vr:Bool}(h:Bx lo W on st vr t b T v):m8 on true b W.heap.size:=(m8.new1 h).symm
def FM (on vr:Bool)(b n1 n2:Nat):Prop:=on=true->vr=true->b<n1\/n2<=b
section
variable {lo:Nat} {W W':an} {on:Bool} {t:Value} {b:Nat} {T:TypeId} {n:Nat}
end
theorem gX (h:iI W b T):∃u,(∀off,W.cell? (ai b off)=(#[u]:Array Value)[off]?)/\(∀off,W.frozen? (ai b off)=false):=by
 obtain⟨u,h⟩:=h;exact⟨u,h.rules⟩
end
section
attribute [local go_sem↓] Go.wp_at_zero Go.wp_at_succ
inductive PY (wa:an)(mp:am->Option Nat)(g:GF)(fb p wn:Nat)(QT:Int)(sg:Bool)(W:an):Array Bool->Act->Prop where
 |mk {l0 l1 l2 l3 l4 l5 l6 l7 l8 l9 l10 QU QY QZ Q0:Bool} {t5 t6 t7 t8 t9 Q5 Q1 Q6 Q2 Q7 Q8 Q3:Value} (bP bQ bR:Nat) (pv:Value) (f0:l0=true->t8=ag fb) (f1:l1=true->t9=ag fb) (f2:l2=true->Q5=ag fb) (f3:l3=true->Q1=aa g.f.num) (f4:l4=true->Q6=ag fb) (f5:l5=true->Q2=aa QT) (f6:l6=true->Q7=ag fb) (f7:l7=true->Q8= .agg #[aa (iU mp g.f.key),pv]) (f8:l8=true->Q3= .bool sg) (B:Below wa.heap.size wa W) (xP:Bx (wa.heap.size) W l9 QY l3 t5 bP 3 Q1) (xQ:Bx (wa.heap.size) W l10 QZ l5 t6 bQ 3 Q2) (xR:Bx (wa.heap.size) W QU Q0 l8 t7 bR 4 Q3) (QQ:m8 l9 l10 bP bQ) (QR:m8 l9 QU bP bR) (QS:m8 l10 QU bQ bR):PY wa mp g fb p wn QT sg W #[l0,l1,l2,l3,l4,l5,l6,l7,l8,l9,l10,QU,QY,QZ,Q0] ⟨#[ag fb,ag p,undef,ag wn,.nilFunc,t5,t6,t7,t8,t9,Q5,Q1,Q6,Q2,Q7,Q8,Q3,undef],[]⟩
section
variable (w:an) (Q P:ap) (mp:am->Option Nat) (g:GF) (fb p:Nat)
def wg (hQ:∀b,w.heap.size<=b->Q b)(h:eG w P mp g fb)(h4:g.form=4):Calls prog 377 #[ag fb,ag p] w (jg w λw' v=>LX w' Q mp (λx=>x=p) g v):=by
 have hmf:= @ti;obtain⟨pv,rv,h0,_,QV,Rb⟩:=h.blk;obtain⟨pq,rfl⟩:=gi Rb;obtain⟨ra,rn,rc,rfl⟩:=dL QV.1;obtain⟨B1,KI⟩:=dR w #[ag p] 116;have QX:eG (w.alloc (ak #[ag p] 116)) P mp g fb:=h.keep (λb _ hl=>B1.block b hl);have h1:=h0.alloc (ak #[ag p] 116);have Q9:=h1.lt;obtain⟨QT,QW⟩:∃QT,jF mp g=QT:=⟨_,rfl⟩;obtain⟨sg,Rc⟩:∃sg,jD (iU mp g.f.key)=sg:=⟨_,rfl⟩;have Ra:=λW pv=>nZ W (iU mp g.f.key) pv (sj mp _)
 rw[Rc]at Ra;clear Rb QV h;go_enter func377,ntmps377;go_upto_region 1 with fail
 obtain⟨wa,Q4⟩:∃wa,w.alloc (ak #[ag p] 116)=wa:=⟨_,rfl⟩;rw[Q4]at B1 KI QX h1 Q9;simp only[Q4];have Re:w.heap.size<wa.heap.size:=KI.lt;clear Q4 h0
 have hL:∀W,Below wa.heap.size wa W->Calls prog 186 #[ag fb] W λe w'=>e= .returned (aa QT)/\w'=W:=λW hW=>by
  rw[<-QW];exact oN W P mp g fb (QX.keep (λb _ hl=>hW.block b hl))
 have Rf:∀W,Below wa.heap.size wa W->Calls prog 188 #[ag fb] W λe w'=>∃pv,e= .returned (.agg #[aa (iU mp g.f.key),pv])/\Below W.heap.size W w':=λW hW=>Ei W P mp g fb (QX.keep (λb _ hl=>hW.block b hl)) h4
 clear QX;go_cut [5,6,7]from 8 to 16 (λx y z wx=>∃nb lb sb,x=ag nb/\y=ag lb/\z=ag sb/\dK wx nb #[aa g.f.num] 3/\dK wx lb #[aa QT] 3/\dK wx sb #[.bool sg] 4/\wa.heap.size<=nb/\wa.heap.size<=lb/\wa.heap.size<=sb/\Below wa.heap.size wa wx)
 case first=>
  refine jH (λL a W=>PY wa mp g fb p w.heap.size QT sg W L a) QI ⟨0,0,0,undef,nofun,nofun,nofun,nofun,nofun,nofun,nofun,nofun,nofun,(Below.refl _ _).drew,Bx.start,Bx.start,Bx.start,nofun,nofun,nofun⟩ QI ?_ ?_
  ·rintro L a W @⟨l0,l1,l2,l3,l4,l5,l6,l7,l8,l9,l10,QU,QY,QZ,Q0,t5,t6,t7,t8,t9,Q5,Q1,Q6,Q2,Q7,Q8,Q3,bP,bQ,bR,pv,f0,f1,f2,f3,f4,f5,f6,f7,f8,B,xP,xQ,xR,QQ,QR,QS⟩ QP;obtain rfl:l3=true:=QP 3 QG;obtain rfl:l5=true:=QP 5 QG;obtain rfl:l8=true:=QP 8 QG;obtain rfl:l9=true:=QP 9 QG;obtain rfl:l10=true:=QP 10 QG;obtain rfl:QU=true:=QP 11 QG;obtain rfl:QY=true:=QP 12 QG;obtain rfl:QZ=true:=QP 13 QG;obtain rfl:Q0=true:=QP 14 QG;obtain⟨rfl,zP,_⟩:=xP.made rfl;obtain⟨rfl,zQ,_⟩:=xQ.made rfl;obtain⟨rfl,zR,_⟩:=xR.made rfl;obtain rfl:=f3 rfl;obtain rfl:=f5 rfl;obtain rfl:=f8 rfl;have KP:=xP.put rfl;have KQ:=xQ.put rfl;have KR:=xR.put rfl;go_wp2;go_meet
   case rel=>exact⟨_,_,_,rfl,rfl,rfl,KP,KQ,KR,zP,zQ,zR,B⟩
  refine .cons ?_ (.cons ?_ (.cons ?_ (.cons ?_ (.cons ?_ (.cons ?_ (.cons ?_ (.cons ?_ (.cons ?_ (.cons ?_ (.cons ?_ (.cons ?_ (.cons ?_ (.cons ?_ (.cons ?_ .nil))))))))))))))
  all_goals
   rintro L a W ⟨bP,bQ,bR,pv,f0,f1,f2,f3,f4,f5,f6,f7,f8,B,xP,xQ,xR,QQ,QR,QS⟩ h0 hd K hK;subst h0
  ·clear hd;go_simp;refine hK.out _ _ ?_;simp only[QC];exact⟨bP,bQ,bR,pv,λ_=>rfl,f1,f2,f3,f4,f5,f6,f7,f8,B,xP,xQ,xR,QQ,QR,QS⟩
  ·obtain rfl:=eC (k:=0) hd QI;obtain rfl:=f0 rfl;clear hd;go_simp;refine hK.out _ _ ?_;simp only[QC];exact⟨bP,bQ,bR,pv,λ_=>rfl,λ_=>rfl,f2,f3,f4,f5,f6,f7,f8,B,xP,xQ,xR,QQ,QR,QS⟩
  ·obtain rfl:=eC (k:=1) hd QI;obtain rfl:=f1 rfl;clear hd;go_simp;refine hK.out _ _ ?_;simp only[QC];exact⟨bP,bQ,bR,pv,f0,λ_=>rfl,λ_=>rfl,f3,f4,f5,f6,f7,f8,B,xP,xQ,xR,QQ,QR,QS⟩
  ·obtain rfl:=eC (k:=2) hd QI;obtain rfl:=f2 rfl;have KF:=h1.below B Q9;obtain⟨k1,k2⟩:=KF.rules;clear hd;go_simp;refine hK.out _ _ ?_;simp only[QC];exact⟨bP,bQ,bR,pv,f0,f1,λ_=>rfl,λ_=>rfl,f4,f5,f6,f7,f8,B,(xP.val _),xQ,xR,QQ,QR,QS⟩
  ·clear hd;go_simp;refine hK.out _ _ ?_;simp only[QC];exact⟨bP,bQ,bR,pv,f0,f1,f2,f3,λ_=>rfl,f5,f6,f7,f8,B,xP,xQ,xR,QQ,QR,QS⟩
  ·obtain rfl:=eC (k:=4) hd QI;obtain rfl:=f4 rfl;clear hd;go_simp;go_wp2_with (first|(go_at_call 186;refine(hL _ B).mono ?_;rintro e _ ⟨rfl,rfl⟩))
   refine hK.out _ _ ?_;simp only[QC];exact⟨bP,bQ,bR,pv,f0,f1,f2,f3,λ_=>rfl,λ_=>rfl,f6,f7,f8,(dG B (Below.refl _ _)),(xP.below (Below.refl _ _)),((xQ.below (Below.refl _ _)).val _),(xR.below (Below.refl _ _)),QQ,QR,QS⟩
  ·clear hd;go_simp;refine hK.out _ _ ?_;simp only[QC];exact⟨bP,bQ,bR,pv,f0,f1,f2,f3,f4,f5,λ_=>rfl,f7,f8,B,xP,xQ,xR,QQ,QR,QS⟩
  ·obtain rfl:=eC (k:=6) hd QI;obtain rfl:=f6 rfl;clear hd;go_simp;go_wp2_with (first|(go_at_call 188;refine(Rf _ B).mono ?_;rintro e w2 ⟨Rg,rfl,b2⟩))
   refine hK.out _ _ ?_;simp only[QC];exact⟨bP,bQ,bR,Rg,f0,f1,f2,f3,f4,f5,λ_=>rfl,λ_=>rfl,f8,(dG B b2),(xP.below b2),(xQ.below b2),(xR.below b2),QQ,QR,QS⟩
  ·obtain rfl:=eC (k:=7) hd QI;obtain rfl:=f7 rfl;clear hd;go_simp;go_wp2_with (first|(go_at_call 189;refine(Ra _ pv).mono ?_;rintro e w3 ⟨rfl,b3⟩))
   refine hK.out _ _ ?_;simp only[QC];exact⟨bP,bQ,bR,pv,f0,f1,f2,f3,f4,f5,f6,λ_=>rfl,λ_=>rfl,(dG B b3),(xP.below b3),(xQ.below b3),((xR.below b3).val _),QQ,QR,QS⟩
  ·clear hd;go_simp;refine hK.out _ _ ?_;simp only[QC];exact⟨W.heap.size,bQ,bR,pv,f0,f1,f2,f3,f4,f5,f6,f7,f8,(B.alloc B.size _),(xP.new B.size _),(xQ.alloc _),(xR.alloc _),(m8.new1 xQ),(m8.new1 xR),QS⟩
  ·clear hd;go_simp;refine hK.out _ _ ?_;simp only[QC];exact⟨bP,W.heap.size,bR,pv,f0,f1,f2,f3,f4,f5,f6,f7,f8,(B.alloc B.size _),(xP.alloc _),(xQ.new B.size _),(xR.alloc _),(m8.new2 xP),QR,(m8.new1 xR)⟩
  ·clear hd;go_simp;refine hK.out _ _ ?_;simp only[QC];exact⟨bP,bQ,W.heap.size,pv,f0,f1,f2,f3,f4,f5,f6,f7,f8,(B.alloc B.size _),(xP.alloc _),(xQ.alloc _),(xR.new B.size _),QQ,(m8.new2 xP),(m8.new2 xQ)⟩
  ·obtain rfl:=eC (k:=9) hd QI;obtain rfl:=eC (k:=3) hd QI;obtain⟨rfl,zP,yP⟩:=xP.made rfl;obtain⟨uP,cP,kP⟩:=gX yP;obtain rfl:=f3 rfl;clear hd;go_simp;refine hK.out _ _ ?_;simp only[QC];exact⟨bP,bQ,bR,pv,f0,f1,f2,λ_=>rfl,f4,f5,f6,f7,f8,(B.setCell (p:=(ai bP 0)) zP _),xP.store,(xQ.other (λe=>QQ rfl e) _),(xR.other (λe=>QR rfl e) _),QQ,QR,QS⟩
  ·obtain rfl:=eC (k:=10) hd QI;obtain rfl:=eC (k:=5) hd QI;obtain⟨rfl,zQ,yQ⟩:=xQ.made rfl;obtain⟨uQ,cQ,kQ⟩:=gX yQ;obtain rfl:=f5 rfl;clear hd;go_simp;refine hK.out _ _ ?_;simp only[QC];exact⟨bP,bQ,bR,pv,f0,f1,f2,f3,f4,λ_=>rfl,f6,f7,f8,(B.setCell (p:=(ai bQ 0)) zQ _),(xP.other (λe=>QQ.symm rfl e) _),xQ.store,(xR.other (λe=>QS rfl e) _),QQ,QR,QS⟩
  ·obtain rfl:=eC (k:=11) hd QI;obtain rfl:=eC (k:=8) hd QI;obtain⟨rfl,zR,yR⟩:=xR.made rfl;obtain⟨uR,cR,kR⟩:=gX yR;obtain rfl:=f8 rfl;clear hd;go_simp;refine hK.out _ _ ?_;simp only[QC];exact⟨bP,bQ,bR,pv,f0,f1,f2,f3,f4,f5,f6,f7,λ_=>rfl,(B.setCell (p:=(ai bR 0)) zR _),(xP.other (λe=>QR.symm rfl e) _),(xQ.other (λe=>QS.symm rfl e) _),xR.store,QQ,QR,QS⟩
 case rest=>
  obtain⟨nb,lb,sb,rfl,rfl,rfl,h5,h6,h7,q1,q2,q3,b3⟩:=hcut;go_wp2;go_ret;exact⟨_,rfl,⟨_,_,_,_,p,rfl,KI.below b3 Re,by rw[QW];exact h6,h5,by rw[Rc];exact h7,rfl,hQ _ (ay _),hQ _ QD,hQ _ QD,hQ _ QD⟩,dG B1 b3⟩
end
end
section
open Go.Maps
attribute [local go_sem↓] Go.wp_at_zero Go.wp_at_succ
structure m9:Prop where
 c:∀(w:an) (P:ap) (mp:am->Option Nat) (g:GF) (fb:Nat) (iq:aw),eG w P mp g fb->Calls prog 210 #[ag fb,.pointer iq] w (jg w λw' v=>FB w' (λb=>w.heap.size<=b) mp g iq v)
 m:∀(w:an) (P:ap) (mp:am->Option Nat) (g:GF) (fb:Nat) (iq:aw),eG w P mp g fb->Calls prog 211 #[ag fb,.pointer iq] w (jg w λw' v=>DC w' (λb=>w.heap.size<=b) mp g iq v)
 w:∀(w:an) (P:ap) (mp:am->Option Nat) (g:GF) (fb:Nat) (iq:aw),eG w P mp g fb->Calls prog 212 #[ag fb,.pointer iq] w (jg w λw' v=>Ch w' (λb=>w.heap.size<=b) mp g iq v)
 p:wd
 e:Ac
def uC.isFn {w:an}{Q:ap}{mp pm:am->Option Nat}{g:GF}{v:Value}(h:uC w Q (kZ w Q mp pm) g v):FE v:=by
 unfold uC at h
 split at h
 ·exact kZ.fn h
 ·obtain⟨_,_,_,_,rfl,_⟩:=h;exact⟨_,_,rfl⟩
def IC:(prog.info? 268).map (λi=>(i.zero,i.size,i.bytes))=some (some (.agg #[aa 0,aa 0,.bool false,ah,.nilFunc,.nilFunc,.nilFunc,.nilFunc]),8,80):=QI
def Ad {w:an}{fb:Nat}{a b c d e:Value}{T:TypeId}(h:dK w fb #[a,b,c,d,e] T):w.cell? (ai fb 0)=some a/\w.cell? (ai fb 2)=some c/\w.cell? (ai fb 3)=some d/\w.cell? (ai fb 4)=some e:=⟨h.cell 0,h.cell 2,h.cell 3,h.cell 4⟩
section
variable (kp mk W0:Nat) (mu:Int) (S:d8) (mp:am->Option Nat) (P:ap)
def FN (n:Nat)(g:GF)(h4:g.form≠4)(HO:Pt kp mk W0 mu S mp P n):uD kp mk W0 mu S mp P n g:=by
 intro w N pm U X fb I hn hF;obtain⟨pv,rv,h1,_,QQ,QV⟩:=hF.blk;obtain⟨ra,rn,rc,rfl⟩:=dL QQ.1;rw[dA h4]at QV;have Rs:ee mp g=iU mp g.f.ty:=by unfold ee;rw[dA h4]
 rw[Rs]at h1;have f4:(g.form==4)=false:=by simp[h4]
 by_cases h16:iU mp g.f.ty=16
 ·have Rt:((iU mp g.f.ty:Int)==16)=true:=by simp[h16]
  obtain⟨d,hd⟩:=I.md.ty _ h16;obtain⟨mb,gs,q1,q2,q3,q4⟩:=I.md.md _ d hd;have Rj:=lc hd;have hC:=HO w N pm U X mb d gs I hn (by rw[Rj];exact hd) q2 q3 q4;rw[q1]at QV;subst QV;unfold gC at h1;obtain⟨k1,k2⟩:=h1.rules;go_enter func207,ntmps207;go_wp2_with fail;refine hC.mono ?_;rintro e w2 ⟨v,N',QP,rfl,⟨p,rfl,hp⟩,ok2,hx,kw⟩;go_wp2;go_ret;refine⟨_,N',QP,rfl,(show iA _ _ mp QP g _ from ?_),ok2,hx,kw⟩;unfold iA;rw[dA h4,dB h16];exact⟨p,rfl,by rw[<-Rj];exact hp⟩
 ·have Rt:((iU mp g.f.ty:Int)==16)=false:=QF
  obtain⟨pq,rfl⟩:∃q,pv= .pointer q:=by
   subst QV;unfold gC
   split<;>exact⟨_,rfl⟩
  obtain⟨k1,k2⟩:=h1.rules;go_enter func207,ntmps207;go_wp2;go_ret;refine⟨_,N,pm,rfl,(show iA _ _ mp pm g _ from ?_),I.ok,λ_ _ q=>q,dS.refl _ _⟩;unfold iA;rw[dA h4,dA h16];rfl
def FP (n:Nat)(g:GF)(h4:g.form=4)(HS:DD kp mk W0 mu S mp P n [kz mQ g.f.key 1,kz oD g.f.ty 2]):uD kp mk W0 mu S mp P n g:=by
 intro w N pm U X fb I hn hF;obtain⟨pv,rv,h1,_,QQ,QV⟩:=hF.blk;obtain⟨ra,rn,rc,rfl⟩:=dL QQ.1;rw[dB h4]at QV;obtain⟨eb,rfl,hE⟩:=QV;have hC:=HS w N pm U X eb eS I hn hE.msg QE;have f4:(g.form==4)=true:=by simp[h4]
 unfold gC at h1;obtain⟨k1,k2⟩:=h1.rules;go_enter func207,ntmps207;go_wp2_with fail;refine hC.mono ?_;rintro e w2 ⟨v,N',QP,rfl,⟨l,hr,hs⟩,ok2,hx,kw⟩;obtain⟨va,vn,vc,rfl⟩:=dL hr.1;have B3:∀o,aj w2 (w2.alloc o):=λo=>(Below.refl _ _).alloc (ay _) _
 have Ru:=(I.on ok2 kw).nq (ay _);go_wp2;go_ret;refine⟨_,N',QP,rfl,(show iA _ _ mp QP g _ from ?_),ok2.keep (λb hl=>(B3 _).block b hl),hx,kw.alloc _⟩;unfold iA;rw[dB h4];refine⟨_,rfl,_,l,dK.new _ _ _,Ru,hr.move (.keep λb _ hl=>(B3 _).block b hl),hs.move (.keep λb _ hl=>(B3 _).block b hl) (λg' QX u hu=> ?_) λg' QX u hu=> ?_⟩
 ·have hu:=kZ.move (.keep λb _ hl=>(B3 (ak #[.slice va vn vc] 254)).block b hl) (λ_ _ q=>q) hu;unfold kZ at hu;simp only[aN,bF,or_false]at QX
  rcases QX with rfl|rfl
  ·rw[dA (by simp[kz])]at hu;exact hu
  ·rw[dA (by simp[kz])]at hu;exact hu
 ·simp only[aN,bF,or_false]at QX
  rcases QX with rfl|rfl
  ·exact(iA.lk (by simp[kz])).1 hu
  ·exact(iA.lk (by simp[kz])).1 hu
structure ID (w:an)(pm:am->Option Nat)(U:au)(X:ap)(gs:List GF)(wr:an)(v:Value)(k:Nat)(l:List qM)(N':Nat)(QP:am->Option Nat):Prop where
 row:wr.ownsRow w.heap.size 268 8 v l.length (l.flatMap iD)
 sts:ia wr (Qk kp mk U λb=>X b/\v.ownBlock≠some b) mp (kZ wr (Qk kp mk U λb=>X b/\v.ownBlock≠some b) mp QP) (iA wr (Qk kp mk U λb=>X b/\v.ownBlock≠some b) mp QP) (gs.take k) l
 kin:yx kp mk W0 mu S mp P wr N' QP U (λb=>X b/\v.ownBlock≠some b)
 ext:∀t p,pm t=some p->QP t=some p
 kep:dS [mk] w wr
 ul:∀u∈U,u<w.heap.size
 wl:W0<=w.heap.size
end
section
variable {kp mk W0:Nat} {mu:Int} {S:d8} {mp:am->Option Nat} {P:ap}
def Qk.mono {U:au}{X Y:ap}{b:Nat}(h:Qk kp mk U X b)(hx:X b->Y b):Qk kp mk U Y b:=⟨h.1,h.2.1,h.2.2.1,hx h.2.2.2⟩
def tJ.less {w:an}{N:Nat}{pm:am->Option Nat}{U:au}{X Y:ap}(h:tJ kp mk mu S mp w N pm U X)(hx:∀b,X b->b<w.heap.size->Y b):tJ kp mk mu S mp w N pm U Y:=
 ⟨h.kb,h.mb,h.ne,h.ct,h.inj,λt p hp=>by
  rcases h.pl t p hp with h1|⟨d,gs,h1,h2,h3⟩
  ·exact .inl h1
  ·exact .inr ⟨d,gs,h1,h2,h3.move (.mono λb q l=>q.mono λq=>hx b q l) (λ_ _ q=>q)⟩⟩
def ID.snoc {w:an}{pm:am->Option Nat}{U:au}{X:ap}{gs:List GF}{wr w1 w7 w8:an}{v:Value}{k:Nat}{l:List qM}{N' N1:Nat}{QP QT:am->Option Nat}{g:GF}{x:qM}{gg cap:Nat}{o:Obj}
  (h:ID kp mk W0 mu S mp P w pm U X gs wr v k l N' QP) (ok1:tJ kp mk mu S mp w1 N1 QT U λb=>X b/\v.ownBlock≠some b) (hx:∀t p,QP t=some p->QT t=some p) (k1:dS [mk] wr w1) (b7:aj w1 w7)
  (hst:mq w7 (Qk kp mk U λb=>X b/\v.ownBlock≠some b) mp (kZ w7 (Qk kp mk U λb=>X b/\v.ownBlock≠some b) mp QT) (iA w7 (Qk kp mk U λb=>X b/\v.ownBlock≠some b) mp QT) g x) (hg:gs[k]?=some g)
  (QQ:w8.ownsRow w.heap.size 268 8 (.slice (some (ai gg 0)) (l.length+1) cap) (l.length+1) (l.flatMap iD++iD x)) (hgrow:(w7.alloc o).grownBy w8 v.ownBlock) (hat:v.ownBlock=some gg\/gg=w7.heap.size+1) (hl8:gg<w8.heap.size):
  ID kp mk W0 mu S mp P w pm U X gs w8 (.slice (some (ai gg 0)) (l.length+1) cap) (k+1) (l++ [x]) N1 QT:=by
 have Q7:(Value.slice (some (ai gg 0)) (l.length+1) cap).ownBlock=some gg:=rfl;have hv:=λb hb=>(h.row.lt b hb)
 have I:=h.kin;have QZ:∀b,v.ownBlock≠some b->b<w7.heap.size->w8.heap[b]?=w7.heap[b]?:=λb hb hl=>(hgrow.block b QF (λe=>hb e.symm)).trans (Below.heap_alloc _ _ b hl)
 have Rw:∀b,v.ownBlock≠some b->b<w7.heap.size->gg≠b:=λb hb hl e=>by
  subst e
  rcases hat with q|q
  ·exact hb q
  ·omega
 have QR:Mv w7 (Qk kp mk U λb=>X b/\v.ownBlock≠some b) w8 (Qk kp mk U λb=>X b/\(Value.slice (some (ai gg 0)) (l.length+1) cap).ownBlock≠some b):=λb q hl=>
  ⟨q.mono λq=>⟨q.1,λe=>Rw b q.2 hl (Option.some.inj (Q7▸e))⟩,QZ b q.2.2.2.2 hl⟩
 have hgw:w.heap.size<=gg:=(QQ.lt gg rfl).1;have hold:∀b,b<w.heap.size->v.ownBlock≠some b:=λb hb e=>by have:=(hv b e).1;omega
 have z1:=k1.size;have z7:=b7.size;have zw:=h.kep.size;have hwl:=h.wl;have Rx:=I.kl;have Ry:=I.ml;have QS:Mv wr (Qk kp mk U λb=>X b/\v.ownBlock≠some b) w7 (Qk kp mk U λb=>X b/\v.ownBlock≠some b):=λb q hl=>⟨q,(b7.block b QD).trans (k1.block b hl (by simp;exact q.1))⟩
 have QW:=ok1.keep (w':=w7) λb hl=>b7.block b hl
 have Rz:gs.take (k+1)=gs.take k++ [g]:=by rw[bB,hg];rfl
 have kf:dS [mk] w w8:=⟨hgrow.os.trans (b7.os.trans (k1.os.trans h.kep.os)),hgrow.tape.trans (b7.tape.trans (k1.tape.trans h.kep.tape)),hgrow.output.trans (b7.output.trans (k1.output.trans h.kep.output)),by have:=hgrow.size;simp at this;omega,
  λb hl hm=>(QZ b (hold b hl) QD).trans ((b7.block b QD).trans ((k1.block b QD hm).trans (h.kep.block b hl hm)))⟩
 refine⟨by simpa [cS]using QQ,?_,⟨⟨?_,?_,QW.ne,QW.ct,QW.inj,λt p hp=> ?_⟩,?_,by have:=kf.size;omega,λu hu=>⟨(I.uu u hu).1,by have:=h.ul u hu;have:=kf.size;omega⟩,λb hb=>⟨(I.xx b hb).1,λe=> ?_⟩,λb hb=>⟨(I.xn b (by have:=hgrow.size;simp at this;omega)).1,λe=> ?_⟩,I.hp,I.kl,I.ml⟩,λt p q=>hx _ _ (h.ext t p q),kf,h.ul,h.wl⟩
 ·rw[Rz];exact ia.snoc (hst.move QR (λu hu=>hu.move QR (λ_ _ q=>q)) λu hu=>hu.move QR (λ_ _ q=>q)) (h.sts.move (λb q hl=>⟨(QR b (QS b q hl).1 QD).1,(QR b (QS b q hl).1 QD).2.trans (QS b q hl).2⟩) (λ_ _ u hu=>(hu.move QS hx).move QR (λ_ _ q=>q)) λ_ _ u hu=>(hu.move QS hx).move QR (λ_ _ q=>q))
 ·exact(QZ kp (hold kp QD) QW.kb.lt).trans QW.kb
 ·exact QW.mb.keep (QZ mk (hold mk QD) QW.mb.lt)
 ·rcases QW.pl t p hp with⟨q1,q2,q3⟩|⟨d,RI,q1,q2,q3⟩
  ·exact .inl ⟨q1,(QZ p (hold p (h.ul p q1)) q2.lt).trans q2,q3⟩
  ·exact .inr ⟨d,RI,q1,q2,q3.move QR (λ_ _ q=>q)⟩
 ·refine I.md.keep λb hb hl=> ?_
  have RA:=I.hp b hb;exact(QZ b (hold b QD) QD).trans ((b7.block b QD).trans (k1.block b hl (by simp;exact RA.2.1)))
 ·have:=Option.some.inj (Q7▸e);have:=(I.hp b hb).1;omega
 ·have:=Option.some.inj (Q7▸e);omega
end
section
variable (kp mk W0:Nat) (mu:Int) (S:d8) (mp:am->Option Nat) (P:ap)
def EF (n:Nat)(gs:List GF)(MK:m9)(HW:∀g∈gs,uD kp mk W0 mu S mp P n g):DD kp mk W0 mu S mp P n gs:=by
 intro w N pm U X mb nm I hn hM hgl;obtain⟨i0,RJ,RK,RL,RM⟩:=info_parts IC;obtain⟨fv,Q6,h1,hPb,QQ,Ro⟩:=id hM;obtain⟨fa,fc,rfl⟩:=iW QQ.1;have hfn:=Ro.len
 have A0:ID kp mk W0 mu S mp P w pm U X gs w (ah) 0 [] N pm:=
  ⟨bf _ _ _ _,rfl,⟨I.ok.less λb q _=>⟨q,by simp[Value.ownBlock]⟩,I.md,I.w0,I.uu,λb q=>⟨I.xx b q,by simp[Value.ownBlock]⟩,λb q=>⟨I.xn b q,by simp[Value.ownBlock]⟩,I.hp,I.kl,I.ml⟩,λ_ _ q=>q,dS.refl _ _,λu hu=>(I.uu u hu).2,I.w0⟩
 have Q8:=I.hp;have Rx:=I.kl;have Ry:=I.ml;have hw0:=I.w0;have RB:Hid (∀b,w.heap.size<=b->X b):=I.xn;obtain⟨k1,k2⟩:=h1.rules;clear I;go_enter func140,ntmps140;go_wp2_with fail;go_loopw [5,14] (λv i wr=>∃(k:Nat) (l:List qM) (N':Nat) (QP:am->Option Nat),k<=gs.length/\i=aa k/\ID kp mk W0 mu S mp P w pm U X gs wr v k l N' QP) (λ_ i _=>gs.length-(intOf i).toNat)
 case atStart=>exact⟨0,[],N,pm,aM _,rfl,A0⟩
 case round=>
  clear A0;obtain⟨k,l,N',QP,hk,rfl,A⟩:=hrel;obtain⟨va,vc,rfl⟩:=iW A.row
  by_cases hlt:k<gs.length
  ·obtain⟨g,hg⟩:=gx hlt;obtain⟨fb,Rc,RN⟩:=Ro.get hg;have Rk:∀b,P b->b<w.heap.size->wr.heap[b]?=w.heap[b]?:=λb hb hl=>A.kep.block b hl (by simp;exact(Q8 b hb).2.1)
   have Q9:eG wr P mp g fb:=RN.keep Rk;have Q1:=QQ.keep Rk;have Rl:=HW g (aI hg) wr N' QP U _ fb A.kin (aH (FH A.ext) hn) Q9;obtain⟨g0,rfl,_,hgl0,QY⟩:=eh Q1.1 QD;have hq:=QY wr rfl k (ag fb) (by simp[eQ,Rc,gC]);have Ra:decide ((k:Int)<(Q6.length:Int))=true:=QF;have hkb:k<Q6.length:=QD;have HG:Hid (gs[k]?=some g):=hg;have HB:Hid (Q6[k]?=some fb):=Rc;clear QY hg Rc k1 k2;go_wp2_with fail;refine Rl.mono ?_;rintro e w1 ⟨iv,N1,QT,rfl,Re,ok1,hx1,Q4⟩;obtain⟨iq,rfl⟩:=Re.form;have Rb:eG w1 P mp g fb:=Q9.keep λb hb hl=>Q4.block b hl (by simp;exact(Q8 b hb).2.1)
   obtain⟨pv,rv,h2,Rf,Rg,QV⟩:=Rb.blk;obtain⟨pq,rfl⟩:=gi QV;obtain⟨ra,rc,rfl⟩:=iW Rg.1;have I1:=A.kin.on ok1 Q4;have Q0:∀W,aj w1 W->eG W P mp g fb:=λW hW=>Rb.keep (λb _ hl=>hW.block b hl)
   have RC:ee mp g<=16:=by
    unfold ee
    split
    ·exact ay _
    ·exact sj _ _
   have Rm:=λW=>oM W (ee mp g) (.pointer pq) RC
   have Rn:∀W,aj w1 W->Calls prog 209 #[ag fb] W λe w'=>e= .returned (.bool (gN mp g))/\Below W.heap.size W w':=λW hW=>lH W P mp g fb (Q0 W hW)
   have hC:=λW hW=>MK.c W P mp g fb iq (Q0 W hW)
   have RD:=λW hW=>MK.m W P mp g fb iq (Q0 W hW)
   have RE:=λW hW=>MK.w W P mp g fb iq (Q0 W hW)
   have RF:∀W,aj w1 W->Calls prog 213 #[ag fb,.pointer iq] W (jg W λw' v=>uC w' (Qk kp mk U λb=>X b/\(Value.slice va l.length vc).ownBlock≠some b) (kZ w' (Qk kp mk U λb=>X b/\(Value.slice va l.length vc).ownBlock≠some b) mp QT) g v):=λW hW=>
    xr W _ P mp QT g fb (.pointer iq) MK.p MK.e (λb hb=>I1.nq (aH hW.size hb)) (λb hb=>I1.pq hb) (Q0 W hW) (Re.move (.keep λb _ hl=>hW.block b hl) (λ_ _ q=>q))
   have Q2:w1.ownsRow w.heap.size 268 8 (.slice va l.length vc) l.length (l.flatMap iD):=d7 A.row λb hb=>Q4.block b (A.row.lt b hb).2 (by simp;have:=(A.row.lt b hb).1;omega)
   have hfW:fb<W0:=(Q8 fb Rf).1;have HO:Hid (some fb≠(Value.slice va l.length vc).ownBlock):=λe=>by have:=(A.row.lt fb e.symm).1;omega
   have hll:l.length<=2001:=by have:=A.sts.len;rw[bn]at this;omega
   have d0:aj w1 w1.drew:=(Below.refl _ _).drew;have zk:=Q4.size;have zw:=A.kep.size;have HR:Hid (et w1 (Qk kp mk U λb=>X b/\(Value.slice va l.length vc).ownBlock≠some b) 3 1 (.slice ra g.riv.length rc) g.riv.length (fV g.riv)):=Rg.mono (λb hb _=>I1.pq hb);clear QV Rg Q9 Q0 Rl Rb;have RG:dK w1.drew fb #[aa g.f.num,aa g.form,aa (ee mp g),.pointer pq,.slice ra g.riv.length rc] 220:=h2;obtain⟨wk,Rp⟩:∃wk:Int,(ei (ee mp g):Int)=wk:=⟨_,rfl⟩;rw[Rp]at Rm;obtain⟨pk,Rq⟩:∃pk,gN mp g=pk:=⟨_,rfl⟩;rw[Rq]at Rn;go_upto_region 6 with fail
   go_region_held3 (λW=>W.cell? (ai fb 0)=some (aa g.f.num)/\W.cell? (ai fb 2)=some (aa (ee mp g))/\W.cell? (ai fb 3)=some (.pointer pq)/\W.cell? (ai fb 4)=some (.slice ra g.riv.length rc))
    (first|exact Ad K9|exact Ad (K7.alloc _)|exact Ad K7|exact Ad K6|exact Ad K5|exact Ad K4|exact Ad K3|exact Ad K2|exact Ad RG)
    (first|(refine step_append_lies _ QJ _ _ _ QJ w.heap.size 268 i0 _ 8 80 underlying252 RJ RK RL RM rfl QD (.slice va l.length vc) l.length (l.flatMap iD) QJ (Q3.alloc _) (ai w7.heap.size 0) 1 1 [_,_,_,_,_,_,_,_] QJ QJ (br (t:=268) (fr:=(0,0)) (heap_alloc_new w7 _)) QL QD QK QD QF (w7.heap.size+1) QE ?_;intro gg cap w9 Q5 QU Rh Ri;have K9:=(K7.alloc _).grown QU HO.out)|(go_at_call 208;refine(Rm _).mono ?_;rintro e w2 ⟨rfl,b2⟩;have c2:=dG d0 b2;have K2:=h2.below c2 h2.lt)|(go_at_call 209;refine(Rn w2 c2).mono ?_;rintro e w3 ⟨rfl,b3⟩;have c3:=dG c2 b3;have K3:=h2.below c3 h2.lt)|(go_at_call 210;refine(hC w3 c3).mono ?_;rintro e w4 ⟨v4,rfl,E4,b4⟩;obtain⟨f4,a4,e4,_⟩:=id E4;obtain rfl:=e4.eq;have c4:=dG c3 b4;have K4:=h2.below c4 h2.lt)|(go_at_call 211;refine(RD w4 c4).mono ?_;rintro e w5 ⟨v5,rfl,E5,b5⟩;obtain⟨f5,a5,e5,_⟩:=id E5;obtain rfl:=e5.eq;have c5:=dG c4 b5;have K5:=h2.below c5 h2.lt)|(go_at_call 212;refine(RE w5 c5).mono ?_;rintro e w6 ⟨v6,rfl,E6,b6⟩;obtain⟨f6,a6,e6,_⟩:=id E6;obtain rfl:=e6.eq;have c6:=dG c5 b6;have K6:=h2.below c6 h2.lt)|(go_at_call 213;refine(RF w6 c6).mono ?_;rintro e w7 ⟨rf,rfl,Rr,b7⟩;obtain⟨f7,a7,rfl⟩:=Rr.isFn;have c7:=dG c6 b7;have z7:=c7.size;have K7:=h2.below c7 h2.lt;have Q3:=eF c7 Q2))
   have ST:mq w7 (Qk kp mk U λb=>X b/\(Value.slice va l.length vc).ownBlock≠some b) mp (kZ w7 (Qk kp mk U λb=>X b/\(Value.slice va l.length vc).ownBlock≠some b) mp QT) (iA w7 (Qk kp mk U λb=>X b/\(Value.slice va l.length vc).ownBlock≠some b) mp QT) g ⟨g.f.num,aa wk,.bool pk,.slice ra g.riv.length rc,.func (.func f4) #[] a4.toArray,.func (.func f5) #[] a5.toArray,.func (.func f6) #[] a6.toArray,.func (.func f7) #[] a7⟩:=
    ⟨rfl,by rw[<-Rp],by rw[<-Rq],HR.out.keep (λb _ hl=>c7.block b hl),⟨iq,Re.move (.keep λb _ hl=>c7.block b hl) (λ_ _ q=>q),E4.move λb q hl=>⟨I1.nq (aH c3.size q),(dG b5 (dG b6 b7)).block b hl⟩,E5.move λb q hl=>⟨I1.nq (aH c4.size q),(dG b6 b7).block b hl⟩,E6.move λb q hl=>⟨I1.nq (aH c5.size q),b7.block b hl⟩⟩,Rr⟩
   have A2:=A.snoc ok1 hx1 Q4 c7 ST HG.out Q5 QU (Rh.imp id id) Ri;go_wp2;go_roundw
   case rel=>exact⟨k+1,_,N1,QT,QD,by go_num,A2⟩
   case measure=>simp[intOf];omega
  ·have Ra:decide ((k:Int)<(Q6.length:Int))=false:=QF;obtain rfl:k=gs.length:=QD
   have HE:Hid (∃l0,et wr (Qk kp mk U X) 268 8 (.slice va l.length vc) l0.length (l0.flatMap iD)/\ia wr (Qk kp mk U X) mp (kZ wr (Qk kp mk U X) mp QP) (iA wr (Qk kp mk U X) mp QP) gs l0):=by
    have hs:=A.sts;rw[bg]at hs;have QR:Mv wr (Qk kp mk U λb=>X b/\(Value.slice va l.length vc).ownBlock≠some b) wr (Qk kp mk U X):= .mono λb q _=>q.mono λq=>q.1
    refine⟨l,⟨nV A.row (aM _),λb hb=> ?_⟩,hs.move QR (λ_ _ u hu=>hu.move QR (λ_ _ q=>q)) λ_ _ u hu=>hu.move QR (λ_ _ q=>q)⟩;have RH:=(A.row.lt b hb).1;exact⟨QD,QD,λq=>by have:=A.ul b q;omega,RB.out b RH⟩
   have HK:Hid (tJ kp mk mu S mp wr N' QP U X):=A.kin.ok.less λb q _=>q.1
   go_wp2;go_ret;exact⟨_,N',QP,rfl,HE.out,HK.out,A.ext,A.kep⟩
def Lf (MK:m9):∀n,Pt kp mk W0 mu S mp P n:=by
 intro n
 induction n using Nat.strongRecOn with
 |_ n ih=>
 refine Pv kp mk W0 mu S mp P n λm gs hm=> ?_
 have hO:=ih m hm;have h0:∀g:GF,g.form≠4->uD kp mk W0 mu S mp P m g:=λg h4=>FN kp mk W0 mu S mp P m g h4 hO
 refine EF kp mk W0 mu S mp P m gs MK λg _=> ?_
 by_cases h4:g.form=4
 ·refine FP kp mk W0 mu S mp P m g h4 (EF kp mk W0 mu S mp P m _ MK λg' QX=>h0 g' ?_);simp only[aN,bF,or_false]at QX
  rcases QX with rfl|rfl
  ·simp[kz]
  ·simp[kz]
 ·exact h0 g h4
end
end
end Go.Proofs.YtfebdimolnobaaaGreatDoor
namespace Go.Proofs
abbrev Tryz.muLink:Go.Conc.Locks.MuLink:={lock:=86,unlock:=87,ilock:=138,iunlock:=139,lockSlow:=203,unlockSlow:=206,disable:=199,enable:=201,acquire:=202,relMerge:=204,cas32:=200,add32:=205,tMutex:=168,tIMutex:=166,tPMutex:=251,tPIMutex:=318,tPI32:=320,tUP:=322,tNoCopy:=163,tU32:=164}
theorem Tryz.muLib:Go.Conc.Locks.MuLib Tryz.prog Tryz.muLink:=
 ⟨Tryz.func86,Tryz.func87,Tryz.func138,Tryz.func139,Tryz.func199,Tryz.func201,Tryz.func202,Tryz.func204,Tryz.func200,Tryz.func205,Tryz.underlying166,Tryz.runUnderlying166,Tryz.sizeOf166,Tryz.isAgg166,Tryz.zeroValue166,Tryz.underlying168,Tryz.runUnderlying168,Tryz.sizeOf168,Tryz.isAgg168,Tryz.zeroValue168,Tryz.underlying251,Tryz.runUnderlying251,Tryz.sizeOf251,Tryz.isAgg251,Tryz.zeroValue251,Tryz.underlying318,Tryz.runUnderlying318,Tryz.sizeOf318,Tryz.isAgg318,Tryz.zeroValue318,Tryz.underlying320,Tryz.runUnderlying320,Tryz.sizeOf320,Tryz.isAgg320,Tryz.zeroValue320,Tryz.underlying322,Tryz.runUnderlying322,Tryz.sizeOf322,Tryz.isAgg322,Tryz.zeroValue322,Tryz.underlying163,Tryz.runUnderlying163,Tryz.sizeOf163,Tryz.isAgg163,Tryz.zeroValue163,Tryz.underlying21,Tryz.runUnderlying21,Tryz.sizeOf21,Tryz.isAgg21,Tryz.zeroValue21,(by kernel_rfl)⟩
end Go.Proofs
namespace Go.Proofs.YtfebdimolnobaaaGreatDoor
open Go.RowKit Go.Maps
attribute [local go_sem↓] Go.wp_at_zero Go.wp_at_succ
section
variable {kp mk:Nat} {mu mu':Int} {S:d8} {mp:am->Option Nat} {w:an} {N:Nat} {pm:am->Option Nat} {U:au} {X:ap}
theorem tJ.mutex (h:tJ kp mk mu S mp w N pm U X)(hU:kp∉U):tJ kp mk mu' S mp (w.setCell (ai kp 0) (.int .i32 mu')) N pm U X:=by
 have hk:∀b,b≠kp->(w.setCell (ai kp 0) (.int .i32 mu')).heap[b]?=w.heap[b]?:=fun b hb=>dW (fun e=>hb e.symm)
 refine⟨by simpa using h.kb.set 0 (.int .i32 mu'),h.mb.keep (hk _ h.ne),h.ne,h.ct,h.inj,fun t p hp=> ?_⟩
 rcases h.pl t p hp with⟨q1,q2,q3⟩|⟨d,gs,q1,q2,q3⟩
 ·exact .inl ⟨q1,(hk p (fun e=>hU (e▸q1))).trans q2,q3⟩
 ·exact .inr ⟨d,gs,q1,q2,q3.keep (fun b q _=>hk b q.2.1) (fun _ _ q=>q)⟩
end
section
variable (kp mk W0:Nat) (S:d8) (mp:am->Option Nat) (P:ap)
theorem MZ (MK:m9)(w:an)(N:Nat)(pm:am->Option Nat)(mb:Nat)(d:MT)(gs:List GF)(X:ap)(I:yx kp mk W0 0 S mp P w N pm [] X)(hd:S.msg d.name=some d)(hM:iF w P mp mb d.name gs)(hG:kc S mp d gs)(hsz:d.name.size<=2000):
  Calls Tryz.prog 48 #[ag kp,ag mb] w fun e w'=>∃p N' QP,e= .returned (ag p)/\QP d.name=some p/\tJ kp mk 0 S mp w' N' QP [] X/\(∀t p,pm t=some p->QP t=some p)/\dS [mk,kp] w w':=by
 have QQ:=I.ok.kb;have ok1:=I.ok.mutex (mu':=1) (by simp)
 have I1:yx kp mk W0 1 S mp P (w.setCell (ai kp 0) (.int .i32 1)) N pm [] X:=
  ⟨ok1,I.md.keep fun b hb _=>dW (fun e=>(I.hp b hb).2.2 e.symm),by simpa using I.w0,by simp,I.xx,fun b hb=>I.xn b (by simpa using hb),I.hp,I.kl,I.ml⟩
 have hC:=Lf kp mk W0 1 S mp P MK (mZ S pm) (w.setCell (ai kp 0) (.int .i32 1)) N pm [] X mb d gs I1 (ay _) hd (hM.keep fun b hb _=>dW (fun e=>(I.hp b hb).2.2 e.symm)) hG hsz;have hL:=Go.MuLone.lock_free Tryz.muLib (ai kp 0) w (QQ.cell 0) (QQ.rules.2 0);obtain⟨k1,k2⟩:=QQ.rules;have QR:=ok1.kb;go_enter_defers Tryz.func48,Tryz.ntmps48
 go_wp2_with fail;refine hL.mono ?_;rintro e w1 ⟨rfl,rfl⟩;obtain⟨k3,k4⟩:=QR.rules;clear k1 k2 hL;have hkl:=QR.lt;go_wp2_with fail;have QS:dS [mk,kp] w (w.setCell (ai kp 0) (.int .i32 1)):=(dS.refl _ _).set1 (by simp) 0 _;generalize w.setCell (ai kp 0) (.int .i32 1)=w1 at*;refine hC.mono ?_;rintro e w2 ⟨v,N',QP,rfl,⟨p,rfl,hp⟩,ok2,hx,QU⟩;have QT:=ok2.kb;clear k3 k4;obtain⟨k5,k6⟩:=QT.rules;go_wp2;refine leaves_cons (f:=87) (args:= #[ag kp]) (by simp) (by simp[go_sem]) ?_;refine(Go.MuLone.unlock_deferred Tryz.muLib (ai kp 0) .returning w2 (k5 0) (k6 0)).mono ?_;rintro e u' w'' ⟨rfl,rfl,rfl⟩;simp[Leaves,settle];refine⟨ag p,by simp[results,Tryz.results48],p,rfl,⟨N',QP,hp,ok2.mutex (by simp),hx,?_⟩⟩;exact(QS.trans (QU.mono (by simp))).set1 (by simp) 0 _
end
end Go.Proofs.YtfebdimolnobaaaGreatDoor
namespace Go.Proofs.YtfebdimolnobaaaGreatDoor
open Go.RowKit Go.Proofs.Tryz
section
open Go.Maps
section
variable {ks:au} {K:(ap)->an->Prop} {B:Nat}
attribute [local go_sem↓] Go.wp_at_zero Go.wp_at_succ
def ld (E B:Nat)(K:an->Prop):Prop:=∀a b:an,K a->a.heap.size<=b.heap.size->(∀x,(x<E\/B<=x)->x<a.heap.size->b.heap[x]?=a.heap[x]?)->K b
def pS (ks:au)(K:(ap)->an->Prop)(w:an)(R:Fx PM)(e:Ending)(w':an):Prop:=
 match R with
 | .error x=>e=dI x.1 x.2/\dS ks w w'/\K (λ_=>False) w'
 | .ok m=>∃v Z',e= .returned (.agg #[v,ae m.unk])/\o0 9 w' v m Z'/\(∀b,Z' b->w.heap.size<=b/\b<w'.heap.size)/\dS ks w w'/\K Z' w'
def kG (ks:au)(K:(ap)->an->Prop)(w:an)(R:Fx PM)(e:Ending)(w':an):Prop:=
 match R with
 | .error x=>e= .returned (.tuple #[.agg #[ah,ae ⟨#[]⟩],aa x.1,aa x.2])/\dS ks w w'/\K (λ_=>False) w'
 | .ok m=>∃v Z',e= .returned (.tuple #[.agg #[v,ae m.unk],aa 0,aa 0])/\o0 9 w' v m Z'/\(∀b,Z' b->w.heap.size<=b/\b<w'.heap.size)/\dS ks w w'/\K Z' w'
theorem FQ {E:Nat}(hks:∀x∈ks,x<E)(hK:∀Z,ld E B (K Z))(R:Fx PM)(w:an)(hE:E<=w.heap.size)(hB:w.heap.size+3<=B)(c0 c1 c2 c3:Value)(h:∀w0,aj w w0->w0.heap.size=w.heap.size+3->Calls prog 46 #[c0,c1,c2,c3] w0 (pS ks K w0 R)):
  Calls prog 45 #[.func (Fn.func 46) #[] #[c0,c1,c2,c3]] w (kG ks K w R):=by
 have Q7:= @ti;have B1:=(Below.refl w.heap.size w).alloc (ay _) (ak #[ah,ae ⟨#[]⟩] 49);have B0:=(B1.alloc QE (ak #[aa 0] 24)).alloc QF (ak #[aa 0] 3);have KM:=((dK.new w #[ah,ae ⟨#[]⟩] 49).alloc (ak #[aa 0] 24)).alloc (ak #[aa 0] 3);have K0:=(dK.newAt (w:=w.alloc (ak #[ah,ae ⟨#[]⟩] 49)) (n:=w.heap.size+1) QE #[aa 0] 24).alloc (ak #[aa 0] 3);have K1:=dK.newAt (w:=(w.alloc (ak #[ah,ae ⟨#[]⟩] 49)).alloc (ak #[aa 0] 24)) (n:=w.heap.size+1+1) QE #[aa 0] 3;have HC:Hid (Calls prog 46 #[c0,c1,c2,c3] _ (pS ks K _ R)):=h _ B0 QE;have hsz:w.heap.size+3<=(((w.alloc (ak #[ah,ae ⟨#[]⟩] 49)).alloc (ak #[aa 0] 24)).alloc (ak #[aa 0] 3)).heap.size:=QE;clear B1 h;go_enter_defers func45,ntmps45
 go_wp2_with fail;generalize(((w.alloc (ak #[ah,ae ⟨#[]⟩] 49)).alloc (ak #[aa 0] 24)).alloc (ak #[aa 0] 3))=w1 at*;refine HC.out.mono ?_
 cases R with
 |error x=>
  rintro e w2 ⟨rfl,QQ,QU⟩;have K2:=K0.kept QQ (λq=>by have:=hks _ q;omega);have K3:=K1.kept QQ (λq=>by have:=hks _ q;omega);have QX:=KM.kept QQ (λq=>by have:=hks _ q;omega);have C2:=(dS.of_below (bs:=ks) B0).trans QQ;obtain⟨k1,k2⟩:=K2.rules;obtain⟨k3,k4⟩:=K3.rules;have z3:=K3.lt;unfold dI;refine leaves_cons (f:=82) (args:= #[ag (w.heap.size+1),ag (w.heap.size+1+1)]) QE (by simp[go_sem]) ?_;refine(Fu (w.heap.size+1) (w.heap.size+1+1) x.1 x.2 [] w2 _ _ (k1 0) (k3 0) (k2 0) (k4 0) QD).mono ?_;rintro e u' Re ⟨rfl,rfl,rfl⟩;have q0:=(((K2.set 0 (aa x.1)).other (c:=w.heap.size+1+1) 0 (aa x.2) QD).alloc (ak #[aa x.1,aa x.2] 142)).drew;have q1:=(((K3.other (c:=w.heap.size+1) 0 (aa x.1) QD).set 0 (aa x.2)).alloc (ak #[aa x.1,aa x.2] 142)).drew;have q2:=(((QX.other (c:=w.heap.size+1) 0 (aa x.1) QD).other (c:=w.heap.size+1+1) 0 (aa x.2) QD).alloc (ak #[aa x.1,aa x.2] 142)).drew;have C3:dS ks w (((w2.setCell (ai (w.heap.size+1) 0) (aa x.1)).setCell (ai (w.heap.size+1+1) 0) (aa x.2)).alloc (ak #[aa x.1,aa x.2] 142)).drew:=(((C2.freshP (bI _) 0 _).freshP QD 0 _).alloc _).drew;have H3:K (λ_=>False) (((w2.setCell (ai (w.heap.size+1) 0) (aa x.1)).setCell (ai (w.heap.size+1+1) 0) (aa x.2)).alloc (ak #[aa x.1,aa x.2] 142)).drew:=hK _ w2 _ QU QE λy hy hl=>(Below.heap_alloc _ _ y (by simpa using hl)).trans ((dW QD).trans (dW QD))
  generalize(((w2.setCell (ai (w.heap.size+1) 0) (aa x.1)).setCell (ai (w.heap.size+1+1) 0) (aa x.2)).alloc (ak #[aa x.1,aa x.2] 142)).drew=w3 at*;have r0:=q0.cell 0;have r1:=q1.cell 0;have l0:(loadVar 24 (ai (w.heap.size+1) 0)).run prog w3= .ok (aa x.1) w3:=by simp[go_sem,r0]
  have l1:(loadVar 3 (ai (w.heap.size+1+1) 0)).run prog w3= .ok (aa x.2) w3:=by simp[go_sem,r1]
  have QS:=λtmps hp hq hr=>yc (fn:=f45) results45 tmps w3 hp hq hr q2 underlying49 QI l0 l1
  simp[Leaves,settle];exact⟨_,QS _ rfl rfl rfl,rfl,C3,H3⟩
 |ok m=>
  rintro e w2 ⟨v,Z',rfl,hm,hZ,QQ,QU⟩;obtain⟨va,vc,rfl⟩:=hm.form;have K2:=K0.kept QQ (λq=>by have:=hks _ q;omega);have K3:=K1.kept QQ (λq=>by have:=hks _ q;omega);have QX:=KM.kept QQ (λq=>by have:=hks _ q;omega);have C2:=(dS.of_below (bs:=ks) B0).trans QQ;obtain⟨k1,k2⟩:=K2.rules;obtain⟨k3,k4⟩:=K3.rules;obtain⟨k5,k6⟩:=QX.rules;have z3:=K3.lt;go_wp2;refine leaves_cons (f:=82) (args:= #[ag (w.heap.size+1),ag (w.heap.size+1+1)]) QE (by simp[go_sem]) ?_;refine(Ks (ai (w.heap.size+1) 0) (ai (w.heap.size+1+1) 0) _).mono ?_;rintro e u' Re ⟨rfl,rfl,rfl⟩;have q0:=(((K2.other (c:=w.heap.size) 0 (.slice va m.fs.length vc) QD).other (c:=w.heap.size) 1 (ae m.unk) QD).set 0 (aa 0)).other (c:=w.heap.size+1+1) 0 (aa 0) QD;have q1:=(((K3.other (c:=w.heap.size) 0 (.slice va m.fs.length vc) QD).other (c:=w.heap.size) 1 (ae m.unk) QD).other (c:=w.heap.size+1) 0 (aa 0) QD).set 0 (aa 0);have q2:=(((QX.set 0 (.slice va m.fs.length vc)).set 1 (ae m.unk)).other (c:=w.heap.size+1) 0 (aa 0) QD).other (c:=w.heap.size+1+1) 0 (aa 0) QD;have C3:dS ks w ((((w2.setCell (ai w.heap.size 0) (.slice va m.fs.length vc)).setCell (ai w.heap.size 1) (ae m.unk)).setCell (ai (w.heap.size+1) 0) (aa 0)).setCell (ai (w.heap.size+1+1) 0) (aa 0)):=(((C2.freshP (ay _) 0 _).freshP (ay _) 1 _).freshP (bI _) 0 _).freshP QD 0 _;have H3:K Z' ((((w2.setCell (ai w.heap.size 0) (.slice va m.fs.length vc)).setCell (ai w.heap.size 1) (ae m.unk)).setCell (ai (w.heap.size+1) 0) (aa 0)).setCell (ai (w.heap.size+1+1) 0) (aa 0)):=hK _ w2 _ QU QE λy hy _=>(dW QD).trans ((dW QD).trans ((dW QD).trans (dW QD)))
  have QV:=hm.keep (w':=((((w2.setCell (ai w.heap.size 0) (.slice va m.fs.length vc)).setCell (ai w.heap.size 1) (ae m.unk)).setCell (ai (w.heap.size+1) 0) (aa 0)).setCell (ai (w.heap.size+1+1) 0) (aa 0))) (λx hx _=>by
   have:=(hZ x hx).1
   rw[dJ,dA QD,dJ,dA QD,dJ,dA QD,dJ,dA QD])
  have Q8:∀x,Z' x->w.heap.size<=x/\x<((((w2.setCell (ai w.heap.size 0) (.slice va m.fs.length vc)).setCell (ai w.heap.size 1) (ae m.unk)).setCell (ai (w.heap.size+1) 0) (aa 0)).setCell (ai (w.heap.size+1+1) 0) (aa 0)).heap.size:=λx hx=>⟨by have:=(hZ x hx).1;omega,by simp only[cp];exact(hZ x hx).2⟩
  generalize((((w2.setCell (ai w.heap.size 0) (.slice va m.fs.length vc)).setCell (ai w.heap.size 1) (ae m.unk)).setCell (ai (w.heap.size+1) 0) (aa 0)).setCell (ai (w.heap.size+1+1) 0) (aa 0))=w3 at*;have r0:=q0.cell 0;have r1:=q1.cell 0;have l0:(loadVar 24 (ai (w.heap.size+1) 0)).run prog w3= .ok (aa 0) w3:=by simp[go_sem,r0]
  have l1:(loadVar 3 (ai (w.heap.size+1+1) 0)).run prog w3= .ok (aa 0) w3:=by simp[go_sem,r1]
  have QS:=λtmps hp hq hr=>yc (fn:=f45) results45 tmps w3 hp hq hr q2 underlying49 QI l0 l1
  simp[Leaves,settle];exact⟨_,QS _ rfl rfl rfl,_,Z',rfl,QV,Q8,C3,H3⟩
theorem yy (R:Fx PM)(w:an)(hks:∀x∈ks,x<w.heap.size)(hK:∀Z,ld w.heap.size B (K Z))(hB:w.heap.size+9=B)(hk0:K (λ_=>False) w)(sb:Nat)(v kv:Value)(bs:List dO)(y:List YM)(P:ap)(nm b:am)(way:Int)(h1:dK w sb #[v,kv] 92)(hM:eV w P v bs y)(hl:y.length<=2001)(hw:way=1\/way=2)
  (hR:(∀m∈y,(m.1.1.toList==nm.toList)=false)->R= .error (5,0))
  (h:∀(i:Nat) (m:YM) (w0:an) (q0 q1 q2 q3:Nat),y[i]?=some m->(m.1.1.toList==nm.toList)=true->aj w w0->w0.heap.size+1=B->w.heap.size<=q0/\w.heap.size<=q1/\w.heap.size<=q2/\w.heap.size<=q3->w0.cell? (ai q0 0)=some (aa way)->w0.cell? (ai q1 0)=some (ag m.1.2)->w0.cell? (ai q2 0)=some (ae b)->w0.cell? (ai q3 0)=some (ag sb)->
   Calls prog 46 #[ag q0,ag q1,ag q2,ag q3] w0 (pS ks K w0 R)):
  Calls prog 21 #[ag sb,aa way,ae nm,ae b] w (kG ks K w R):=by
 have Q7:= @ti;have Q9:∃w0,(((w.alloc (ak #[ag sb] 22)).alloc (ak #[aa way] 3)).alloc (ak #[ae b] 9)).alloc (ak #[ah,ae ⟨#[]⟩] 49)=w0:=⟨_,rfl⟩;obtain⟨w0,QT⟩:=Q9;have B0:aj w w0:=by rw[<-QT];exact((((Below.refl _ _).alloc (ay _) _).alloc QE _).alloc QF _).alloc QF _
 have KS:dK w0 w.heap.size #[ag sb] 22:=by rw[<-QT];exact(((dK.new w _ _).alloc _).alloc _).alloc _
 have KY:dK w0 (w.heap.size+1) #[aa way] 3:=by rw[<-QT];exact((dK.newAt QE _ _).alloc _).alloc _
 have KB:dK w0 (w.heap.size+1+1) #[ae b] 9:=by rw[<-QT];exact(dK.newAt QE _ _).alloc _
 have KM:dK w0 (w.heap.size+1+1+1) #[ah,ae ⟨#[]⟩] 49:=by rw[<-QT];exact dK.newAt QE _ _
 have Q4:=vR w0 sb v kv bs y P nm way (h1.below B0 h1.lt) (hM.keep λx _ hl=>B0.block x hl) hl hw;obtain⟨s1,s2⟩:=KS.rules;obtain⟨s3,s4⟩:=KY.rules;obtain⟨s5,s6⟩:=KB.rules;obtain⟨s7,s8⟩:=KM.rules;go_enter func21,ntmps21;go_wp2_with fail;refine Q4.mono ?_;have Q1:Hid (w0.heap.size=w.heap.size+4):=by show _=_;rw[<-QT];simp
 clear Q4 QT;rintro e w1 ⟨rfl,⟨i,m,hi,hn,rfl⟩|⟨Q6,rfl⟩⟩
 ·have B1:aj w1 (w1.alloc (ak #[ag m.1.2] 105)):=(Below.refl _ _).alloc (ay _) _;have KP:=dK.new w1 #[ag m.1.2] 105
  have HC:Hid (∀w0,Below (w1.alloc (ak #[ag m.1.2] 105)).heap.size (w1.alloc (ak #[ag m.1.2] 105)) w0->w0.heap.size=(w1.alloc (ak #[ag m.1.2] 105)).heap.size+3->Calls prog 46 #[ag (w.heap.size+1),ag w1.heap.size,ag (w.heap.size+1+1),ag w.heap.size] w0 (pS ks K w0 R)):=λw0 hb hsz=>by
   have QY:=dG B1 hb;have hs1:=Q1.out;simp only[ck]at hsz;exact h i m w0 _ _ _ _ hi hn (dG B0 QY) QD ⟨QD,QD,QD,ay _⟩ ((KY.below QY KY.lt).cell 0) ((KP.below hb KP.lt).cell 0) ((KB.below QY KB.lt).cell 0) ((KS.below QY KS.lt).cell 0)
  have HK:=FQ hks hK R (w1.alloc (ak #[ag m.1.2] 105)) (by have:=Q1.out;simp;omega) (by have:=Q1.out;simp;omega) _ _ _ _ HC.out;clear h hi hn HC;go_wp2_with fail;have QW:=KM.alloc (ak #[ag m.1.2] 105);have B2:aj w (w1.alloc (ak #[ag m.1.2] 105)):=dG B0 B1;have zM:=KM.lt;have z2:=B1.size;clear s1 s2 s3 s4 s5 s6 s7 s8 KS KY KB KM KP B1;generalize w1.alloc (ak #[ag m.1.2] 105)=w2 at*;refine HK.mono ?_;clear HK hR
  cases R with
  |error x=>
   rintro e w3 ⟨rfl,QP,Q2⟩;have QR:=QW.kept QP (λq=>by have:=hks _ q;omega);have C3:=(dS.of_below (bs:=ks) B2).trans QP;obtain⟨s7,s8⟩:=QR.rules;go_wp2;exact dE (sI results21 _ _ rfl ((QR.set 0 _).set 1 _) underlying49 QI) rfl ⟨rfl,(C3.freshP QD 0 _).freshP QD 1 _,hK _ w3 _ Q2 QE λy hy _=>(dW QD).trans (dW QD)⟩
  |ok m'=>
   rintro e w3 ⟨v',Z',rfl,hm,hZ,QP,Q2⟩;obtain⟨va,vc,rfl⟩:=hm.form;have QR:=QW.kept QP (λq=>by have:=hks _ q;omega);have C3:=(dS.of_below (bs:=ks) B2).trans QP;obtain⟨s7,s8⟩:=QR.rules;go_wp2
   have QV:=hm.keep (w':=(w3.setCell (ai (w.heap.size+1+1+1) 0) (.slice va m'.fs.length vc)).setCell (ai (w.heap.size+1+1+1) 1) (ae m'.unk)) (λx hx _=>by
    have:=(hZ x hx).1
    rw[dJ,dA QD,dJ,dA QD])
   exact dE (sI results21 _ _ rfl ((QR.set 0 _).set 1 _) underlying49 QI) rfl ⟨_,Z',rfl,QV,λx hx=>⟨by have:=(hZ x hx).1;omega,by simp only[cp];exact(hZ x hx).2⟩,
    (C3.freshP QD 0 _).freshP QD 1 _,hK _ w3 _ Q2 QE λy hy _=>(dW QD).trans (dW QD)⟩
 ·obtain rfl:=hR Q6;have QW:=KM.alloc (ak #[.pointer none] 105);have B2:=B0.alloc B0.size (ak #[.pointer none] 105);clear h hR Q6;obtain⟨r7,r8⟩:=QW.rules;go_wp2;exact dE (sI results21 _ _ rfl ((QW.set 0 _).set 1 _) underlying49 QI) rfl ⟨rfl,((dS.of_below (bs:=ks) B2).freshP QD 0 _).freshP QD 1 _,hK _ w _ hk0 (by have:=B2.size;simp at this⊢;omega) λy hy hl=>(dW QD).trans ((dW QD).trans (B2.block y hl))⟩
theorem lu.part {w:an}{R:Fx PM}{e:Ending}{w':an}(h:lu w R e w'):(∃x,R= .error x/\e=dI x.1 x.2/\aj w w')\/∃m v Z',R= .ok m/\e= .returned (.agg #[v,ae m.unk])/\o0 9 w' v m Z'/\(∀b,Z' b->w.heap.size<=b/\b<w'.heap.size)/\aj w w':=by
 cases R with
 |error x=>exact .inl ⟨x,rfl,h.1,h.2⟩
 |ok m=>
  obtain⟨v,Z',h⟩:=h;exact .inr ⟨m,v,Z',rfl,h⟩
theorem M2 {E:Nat}(hks:∀x∈ks,x<E)(hK:∀Z,ld E B (K Z))(R:Fx PM)(w:an)(hE:E<=w.heap.size)(hB:w.heap.size+1=B)(q0 q1 q2 q3 mb sb kp:Nat)(v:Value)(b:am)(hc0:w.cell? (ai q0 0)=some (aa 2))(hc1:w.cell? (ai q1 0)=some (ag mb))(hc2:w.cell? (ai q2 0)=some (ae b))(hc3:w.cell? (ai q3 0)=some (ag sb))(hs:dK w sb #[v,ag kp] 92)
  (hq:q0∉ks/\q1∉ks/\q2∉ks/\q3∉ks/\sb∉ks)
  (h:∀w0,aj w w0->w0.heap.size=B->Calls prog 48 #[ag kp,ag mb] w0 λe w1=>∃p,e= .returned (ag p)/\dS ks w0 w1/\(∀Z:ap,(∀b,Z b->w1.heap.size<=b)->K Z w1)/\Calls prog 49 #[ag p,ae b] w1 (lu w1 R)):
  Calls prog 46 #[ag q0,ag q1,ag q2,ag q3] w (pS ks K w R):=by
 obtain⟨B0,KM⟩:=dR w #[ah,ae ⟨#[]⟩] 49;have l0:q0<w.heap.size:=aP _ _ hc0;have l1:q1<w.heap.size:=aP _ _ hc1;have l2:q2<w.heap.size:=aP _ _ hc2;have l3:q3<w.heap.size:=aP _ _ hc3;have d0:=(B0.cell (p:=(ai q0 0)) l0).trans hc0;have d1:=(B0.cell (p:=(ai q1 0)) l1).trans hc1;have d2:=(B0.cell (p:=(ai q2 0)) l2).trans hc2;have d3:=(B0.cell (p:=(ai q3 0)) l3).trans hc3;have Ra:=hs.below B0 hs.lt;have HC:Hid (Calls prog 48 #[ag kp,ag mb] (w.alloc (ak #[ah,ae ⟨#[]⟩] 49)).drew λe w1=>∃p,e= .returned (ag p)/\dS ks (w.alloc (ak #[ah,ae ⟨#[]⟩] 49)).drew w1/\(∀Z:ap,(∀b,Z b->w1.heap.size<=b)->K Z w1)/\Calls prog 49 #[ag p,ae b] w1 (lu w1 R)):=h _ B0.drew (by simp[<-hB]);clear h;have hw1:w.heap.size<(w.alloc (ak #[ah,ae ⟨#[]⟩] 49)).heap.size/\(w.alloc (ak #[ah,ae ⟨#[]⟩] 49)).heap.size<=B:=QF;go_enter func46,ntmps46;go_upto_region 3 with fail
 generalize w.alloc (ak #[ah,ae ⟨#[]⟩] 49)=w1 at*;have b1:=B0.size;have nk:∀x,x<w.heap.size->x∉ks->x∉w.heap.size::ks:=λx h1 h2 q=>(aN.1 q).elim (λe=>QD) h2
 have mk':∀x∈ks,x∈w.heap.size::ks:=λx q=>by simp[q]
 have HS:Hid (∀W:an,dS (w.heap.size::ks) w1 W->W.cell? (ai q1 0)=some (ag mb)/\W.cell? (ai q2 0)=some (ae b)/\W.cell? (ai q3 0)=some (ag sb)/\W.cell? (ai sb 1)=some (ag kp)):=λW hk=>
  ⟨(bj (a:=(ai q1 0)) (hk.block q1 QD (nk q1 l1 hq.2.1))).trans d1,(bj (a:=(ai q2 0)) (hk.block q2 QD (nk q2 l2 hq.2.2.1))).trans d2,(bj (a:=(ai q3 0)) (hk.block q3 QD (nk q3 l3 hq.2.2.2.1))).trans d3,(Ra.kept hk (nk sb hs.lt hq.2.2.2.2)).cell 1⟩
 have Rb:w.heap.size∉ks:=λq=>by have:=hks _ q;omega
 have e0:=HS.out w1.drew (dS.refl _ w1).drew
 go_region_held2 (λW=>W.cell? (ai q1 0)=some (ag mb)/\W.cell? (ai q2 0)=some (ae b)/\W.cell? (ai q3 0)=some (ag sb)/\W.cell? (ai sb 1)=some (ag kp))
  (first|exact HS.out _ Rc|exact HS.out _ Q5|exact HS.out _ (Q0.mono mk')|exact HS.out _ (QZ.mono mk')|exact e0)
  (first
   |(
     go_at_call 48;refine HC.out.mono ?_;rintro e w2 ⟨p,rfl,Q3,QU,Rf⟩
     have QZ:=dS.ofDrew Q3)
   |(
     go_at_call 49;refine Rf.mono ?_;intro e w3 Rg
     rcases lu.part Rg with⟨x,rfl,rfl,QP⟩|⟨m,v',Z',rfl,rfl,hm,hZ,QP⟩
     ·unfold dI;go_wp2;exact⟨rfl,rfl,(dS.of_below B0).trans (QZ.trans (dS.of_below QP)),hK _ w2 w3 (QU _ λ_ q=>q.elim) QP.size λy _ hl=>QP.block y hl⟩
     obtain⟨va,vc,rfl⟩:=hm.form;have Q0:=QZ.trans (dS.of_below QP);have QR:=KM.kept Q0 Rb;obtain⟨k5,k6⟩:=QR.rules;have Q5:=(Q0.mono mk').set1 (c:=w.heap.size) QE 0 (.slice va m.fs.length vc)
     have Rc:=Q5.set1 (c:=w.heap.size) QE 1 (ae m.unk)))
 all_goals
  go_wp2;have hz2:=QZ.size
  have QV:=hm.keep (w':=(w3.setCell (ai w.heap.size 0) (.slice va m.fs.length vc)).setCell (ai w.heap.size 1) (ae m.unk)) (λx hx _=>by
   have:=(hZ x hx).1
   rw[dJ,dA QD,dJ,dA QD])
  refine dE (dZ results46 _ _ rfl ((QR.set 0 _).set 1 _) underlying49 QI) rfl ⟨_,Z',rfl,QV,λx hx=>⟨by have:=(hZ x hx).1;omega,by simp only[cp];exact(hZ x hx).2⟩,?_,?_⟩
  ·exact(((dS.of_below B0).trans Q0).freshP (ay _) 0 _).freshP (ay _) 1 _
  ·refine hK _ w2 _ (QU _ λx hx=>(hZ x hx).1) (by have:=QP.size;simpa using this) λy hy hl=>(dW QD).trans ((dW QD).trans (QP.block y hl))
end
end
section
attribute [local go_sem↓] Go.wp_at_zero Go.wp_at_succ
def po (S:d8)(R:MT->PM->Bool)(d:MT)(ahead:List PF)(x:PF):Bool:=
 match dP d.fs x.1 with
 |none=>false
 |some f=>jG (kC d f) x.1 ahead&&fk S R f x.2
def wh {S:d8}{R:MT->PM->Bool}{d:MT}{fs:List PF}{i:Nat}{x:PF}(hx:fs[i]?=some x):
  gw S R d (fs.take i) (fs.drop i)=(po S R d (fs.take i) x&&gw S R d (fs.take (i+1)) (fs.drop (i+1))):=by
 have QU:i<fs.length:=(ca.1 hx).1;have e:fs[i]=x:=(ca.1 hx).2;rw[aZ QU,e,gw,bB,hx];rfl
section
variable {mp:am->Option Nat}
def M4 (w:an)(P:ap)(mb pb:Nat)(nm:am)(gs:List GF)(num kind:Int)(h:iF w P mp mb nm gs)(hs:gs.Pairwise (λx y=>x.f.num<=y.f.num))(hl:gs.length<=2001)(hp:dK w pb #[ag mb] 105):
  Calls prog 161 #[.agg #[aa num,aa kind],ag pb] w λe w'=>e= .returned (.bool (rl mp gs num kind).isSome)/\aj w w':=by
 obtain⟨B0,K0⟩:=dR w #[aa num,aa kind] 237;have Q6:=hp.below B0 hp.lt;have HK:=xK _ P mp mb nm gs num kind (h.keep (λb _ hl=>B0.block b hl)) hs hl;obtain⟨k1,k2⟩:=K0.rules;obtain⟨k3,k4⟩:=Q6.rules;generalize rl mp gs num kind=r at*;go_enter func161,ntmps161;go_wp2_with fail;refine HK.mono ?_;rintro e w2 ⟨he,b2⟩
 cases r with
 |none=>
  obtain rfl:e= .returned (.pointer none):=he;go_wp2;go_ret;exact⟨rfl,dG B0 b2⟩
 |some g=>
  obtain⟨fb,rfl,_⟩:=he;go_wp2;go_ret;exact⟨rfl,dG B0 b2⟩
end
def Lg {S:d8}{mp:am->Option Nat}{B:Nat}:∀n,MQ S mp B n:=by
 intro n
 induction n with
 |zero=>
  intro w Z v m d mb gs nm deep k cx hm hG hM hO hd;obtain⟨a,c,rfl⟩:=hM.form;obtain rfl:deep=9:=QD;obtain⟨B0,K1,K2⟩:=fK w #[ag mb] #[.slice a m.fs.length c,ae m.unk] 105 49;go_enter func101,ntmps101;go_wp2_with (go_at_call 157;refine(gJ _).mono ?_;rintro e w2 ⟨rfl,rfl⟩;unfold dI)
  exact⟨rfl,ec.no B0⟩
 |succ n ih=>
  intro w Z v m d mb gs nm deep k cx hm hG hM hO hd
  cases k with
  |zero=>exact hM.elim
  |succ k=>
  obtain⟨cs,hr,QZ⟩:=hM;obtain⟨a,c,rfl⟩:=hr.form;have hcap:=hr.cap;obtain⟨Re,Rf,Rg⟩:=hO;obtain⟨B0,K1,K2⟩:=fK w #[ag mb] #[.slice a m.fs.length c,ae m.unk] 105 49;have hd8:(deep:Int)<=8:=QD;obtain⟨X,HX⟩:∃X,Hid (gw S (dN S n) d [] m.fs=X):=⟨_,rfl⟩
  have HM:Hid (dN S (n+1) d m=(X&&qN (pj S d) m.unk)):=by
   show dN S (n+1) d m=_;rw[dN,HX.out]
  have HU:Hid (∀(W:an),aj w W->dK W w.heap.size #[ag mb] 105->Calls prog 160 #[ae m.unk,.func (.func 161) #[] #[ag w.heap.size]] W (ec (qN (pj S d) m.unk) W)):=λW hW hp=>
   yo W m.unk 161 [ag w.heap.size] (pj S d) Rf (enters_of func161 QI rfl) λW2 num kind Q0=>by
    have:=M4 W2 (λb=>b<B) mb w.heap.size nm gs num kind (hm.keep λb _ q=>(dG hW Q0).block b q) hG.srt hG.len (hp.below Q0 hp.lt);rw[Is hG]at this;exact this
  generalize qN (pj S d) m.unk=Y at*;go_enter func101,ntmps101;obtain⟨k1,k2⟩:=K2.rules;go_wp2_with (go_at_call 157;refine(gT _).mono ?_;rintro e w2 ⟨rfl,rfl⟩)
  generalize(w.alloc (ak #[ag mb] 105)).alloc (ak #[.slice a m.fs.length c,ae m.unk] 49)=w1 at*;go_loopw [6,7,8,15] (λ_ _ _ iv wr=>∃i:Nat,iv=aa i/\i<=m.fs.length/\Hid (gw S (dN S n) d (m.fs.take i) (m.fs.drop i)=X)/\aj w1 wr) (λ_ _ _ iv _=>m.fs.length-(intOf iv).toNat)
  case atStart=>exact⟨0,rfl,aM _,HX,Below.refl _ _⟩
  case round=>
   obtain⟨i,rfl,hi,HI,Bw⟩:=hrel;clear k1 k2;have BW:=dG B0 Bw
   by_cases QU:i<m.fs.length
   ·obtain⟨x,hx⟩:=gx QU;obtain⟨vv,p1,p2,p3⟩:=QZ.get hx;obtain⟨va,vc,rfl⟩:=p1.form;obtain⟨g0,rfl,hzg0,Q1,QP⟩:=hr.at QD;have t0:=QP wr (BW.block _ Q1) _ _ p2;have t1:=lf (QP wr (BW.block _ Q1) _ _ p3);obtain⟨B1,K5⟩:=dR wr #[aa x.1,.slice va x.2.length vc] 58;have B2:=dG BW B1;have QV:=dG Bw B1;have QW:=K1.below QV K1.lt;have K22:=K2.below QV K2.lt;have HF:=pJ _ (λb=>b<B) mp mb nm gs x.1 (hm.keep λb _ q=>B2.block b q) hG.srt hG.len
    have QS:Hid (X=(po S (dN S n) d (m.fs.take i) x&&gw S (dN S n) d (m.fs.take (i+1)) (m.fs.drop (i+1)))):=by
     show X=_;rw[<-HI.out,wh hx]
    obtain⟨k3,k4⟩:=QW.rules;obtain⟨k5,k6⟩:=K5.rules;have hij:(i:Int)<(m.fs.length:Int):=QD;have Q7:=Rg x (aI hx);clear QP p2 p3 B1 hx;go_wp2_with fail;refine HF.mono ?_;rintro e w3 ⟨he,rfl⟩;generalize wr.alloc (ak #[aa x.1,.slice va x.2.length vc] 58)=w2 at*;generalize wr.heap.size=vb at*
    cases hfd:dP d.fs x.1 with
    |none=>
     rw[hG.no _ hfd]at he;obtain rfl:e= .returned (.pointer none):=he
     have QQ:Hid (dN S (n+1) d m=false):=by
      show dN S (n+1) d m=false;rw[HM.out,QS.out,po,hfd];rfl
     go_wp2_with (go_at_call 157;refine(gJ _).mono ?_;rintro e w2 ⟨rfl,rfl⟩;unfold dI)
     rw[QQ.out];exact⟨rfl,ec.no B2⟩
    |some f=>
     obtain⟨g,hg,fg⟩:=hG.yes _ _ hfd;rw[hg]at he;obtain⟨fb,rfl,Q2⟩:=he;have QR:=(eT hfd).1
     have HS:Hid (po S (dN S n) d (m.fs.take i) x=(jG g.riv g.f.num (m.fs.take i)&&fk S (dN S n) f x.2)):=by
      show po S (dN S n) d (m.fs.take i) x=_;unfold po;rw[hfd,fg.riv,fg.eq,QR]
     obtain⟨pv,rv,QT,_,Q3,Q4⟩:=Q2.blk;obtain⟨pq,rfl⟩:=gi Q4;obtain⟨ra,rc,rfl⟩:=iW Q3.1;have QY:=Iq w2.drew (some g0) c c m.fs cs i g.f.num (.slice ra g.riv.length rc) g.riv (hr.keep λb _ q=>B2.drew.block b q) (yj.below B2.drew (ay _) QZ) QD Re (Q3.keep λb _ q=>(Below.refl w2.heap.size w2).drew.block b q) fg.rlen;obtain⟨q,hq⟩:∃q,jG g.riv g.f.num (m.fs.take i)=q:=⟨_,rfl⟩;rw[hq]at QY HS;clear hq hg hfd QR HF Q4;have hic:(i:Int)<=(c:Int):=QD;go_upto_region 7 with(go_at_call 157;refine(gT _).mono ?_;rintro e w2 ⟨rfl,rfl⟩)
     have hW:w2.drew.cell? (ai (w.heap.size+1) 0)=some (.slice (some g0) m.fs.length c)/\w2.drew.cell? (ai fb 0)=some (aa g.f.num)/\w2.drew.cell? (ai fb 4)=some (.slice ra g.riv.length rc):=
      ⟨K22.drew.cell 0,QT.drew.cell 0,QT.drew.cell 4⟩
     go_region_held2 (λW=>W.cell? (ai (w.heap.size+1) 0)=some (.slice (some g0) m.fs.length c)/\W.cell? (ai fb 0)=some (aa g.f.num)/\W.cell? (ai fb 4)=some (.slice ra g.riv.length rc))
      (first|exact hW|exact⟨Q8.cell 0,h3.cell 0,h3.cell 4⟩)
      (first
       |(
         go_at_call 158;refine QY.mono ?_;intro e w3 Rh
         rcases Rh.part with⟨rfl,rfl,b3⟩|⟨rfl,y,z,rfl,b3⟩
         rotate_left
         ·have B4:=dG B2.drew b3
          have QQ:Hid (dN S (n+1) d m=false):=by
           show dN S (n+1) d m=false;rw[HM.out,QS.out,HS.out];rfl
          unfold dI;go_wp2;rw[QQ.out];exact⟨rfl,ec.no B4⟩
         have h3:=QT.below (w:=w2.drew) b3 QT.lt
         have Q8:=K22.below (w:=w2.drew) b3 K22.lt))
     have B4:=dG B2.drew b3;have Q9:=dG QV.drew b3;have Ra:=K5.below (w:=w2.drew) b3 K5.lt;have HC:=Ab ih w3 Z (.slice va x.2.length vc) x.2 d f g fb deep k (cx.on (dQ B4 cx.le)) (Q2.keep (w':=w3) λb _ q=>show w3.heap[b]?=w2.heap[b]? from b3.block b q) fg (pi.below B4 (ay _) p1) Q7 QD;obtain⟨r,Q5⟩:∃r,fk S (dN S n) f x.2=r:=⟨_,rfl⟩;rw[Q5]at HC HS;clear Q5 k3 k4 k5 k6;obtain⟨k5,k6⟩:=Ra.rules;go_wp2_with fail;refine HC.mono ?_;intro e w4 QX
     rcases QX.part with⟨rfl,rfl,b4⟩|⟨rfl,y,z,rfl,b4⟩
     ·have Rb:Hid (gw S (dN S n) d (m.fs.take (i+1)) (m.fs.drop (i+1))=X):=by
       show _=X;rw[QS.out,HS.out];rfl
      go_wp2;go_roundw
      case rel=>exact⟨i+1,by go_num,QD,Rb,dG Q9 b4⟩
      case measure=>simp[intOf];omega
     ·have QQ:Hid (dN S (n+1) d m=false):=by
       show dN S (n+1) d m=false;rw[HM.out,QS.out,HS.out];rfl
      unfold dI;go_wp2;rw[QQ.out];exact⟨rfl,ec.no (dG B4 b4)⟩
   ·obtain rfl:i=m.fs.length:=QD
    have QQ:Hid (dN S (n+1) d m=Y):=by
     show dN S (n+1) d m=Y;rw[HM.out,<-HI.out,co];rfl
    have QW:=K1.below Bw K1.lt;have K22:=K2.below Bw K2.lt;have Rc:=HU.out wr BW QW;obtain⟨k3,k4⟩:=K22.rules;go_wp2_with fail;refine Rc.mono ?_;intro e w4 QX
    rcases QX.part with⟨rfl,rfl,b4⟩|⟨rfl,y,z,rfl,b4⟩
    ·go_wp2;go_end0;rw[QQ.out];exact ec.ok (dG BW b4)
    ·unfold dI;go_wp2;rw[QQ.out];exact⟨rfl,ec.no (dG BW b4)⟩
def jC (ok:Bool)(v:Value)(w:an)(e:Ending)(w':an):Prop:=aj w w'/\if ok=true then e= .returned v else∃(x:Nz) (y:Int),e=dI x.1 y
def jC.ok {w w':an}{v:Value}(b:aj w w'):jC true v w (.returned v) w':=⟨b,rfl⟩
def jC.no {w w':an}{v:Value}{x y:Int}(b:aj w w')(hx:x≠0:=by first|decide|exact Nz.ne _):jC false v w (dI x y) w':=⟨b,⟨x,hx⟩,_,rfl⟩
def jC.part {ok:Bool}{w:an}{v:Value}{e:Ending}{w':an}(h:jC ok v w e w'):(ok=true/\e= .returned v/\aj w w')\/(ok=false/\∃(x:Nz) (y:Int),e=dI x.1 y/\aj w w'):=by
 obtain⟨h1,h2⟩:=h
 cases ok
 ·rw[dA QE]at h2;obtain⟨x,y,q⟩:=h2;exact .inr ⟨rfl,x,y,q,h1⟩
 ·exact .inl ⟨rfl,h2,h1⟩
section
variable {S:d8} {mp:am->Option Nat} {B:Nat}
def wi (hN:Cf S)(w:an)(Z:ap)(v:Value)(m:PM)(d:MT)(mb:Nat)(gs:List GF)(nm:am)(k:Nat)(cx:rC w B S mp)(hm:iF w (λb=>b<B) mp mb nm gs)(hG:kc S mp d gs)(hnd:Jq d)(hM:iy k w Z v m)(hO:nR k m)(hl:(d9 S 8 d m).length<=140737488355328):
  Calls prog 58 #[ag mb,.agg #[v,ae m.unk]] w (jC (dN S 8 d m) (aa (d9 S 8 d m).length) w):=by
 obtain⟨a,c,rfl⟩:=hM.form;obtain⟨B0,K1⟩:=dR w #[.slice a m.fs.length c,ae m.unk] 49;have HC:=Lg (S:=S) (mp:=mp) (B:=B) 8 _ Z _ m d mb gs nm 1 k (cx.on (dQ B0 cx.le)) (hm.keep λb _ q=>B0.block b q) hG (hM.below B0 (ay _)) hO rfl
 have HZ:Hid (∀W,aj w W->dN S 8 d m=true->Calls prog 102 #[ag mb,.agg #[.slice a m.fs.length c,ae m.unk]] W (gK (d9 S 8 d m) W)):=λW hW hs=>
  sQ hN 8 W Z _ m d mb gs nm k (cx.on (dQ hW cx.le)) (hm.keep λb _ q=>hW.block b q) hG hnd (hM.below hW (ay _)) hO hs hl
 generalize d9 S 8 d m=y at*;generalize dN S 8 d m=ok at*;obtain⟨k1,k2⟩:=K1.rules;go_enter func58,ntmps58;go_wp2_with fail;refine HC.mono ?_;intro e w2 hr;generalize w.alloc (ak #[.slice a m.fs.length c,ae m.unk] 49)=w1 at*
 rcases hr.part with⟨rfl,rfl,b2⟩|⟨rfl,y,z,rfl,b2⟩
 ·have K2:=K1.below b2 K1.lt;clear k1 k2;obtain⟨k1,k2⟩:=K2.rules;have B2:=dG B0 b2;go_wp2_with fail;refine(HZ.out w2 B2 trivial).mono ?_;rintro e w3 ⟨rfl,b3⟩;go_wp2;go_ret;exact jC.ok (dG B2 b3)
 ·unfold dI;go_wp2;exact⟨rfl,jC.no (dG B0 b2)⟩
def IE (hN:Cf S)(w:an)(Z:ap)(v:Value)(m:PM)(d:MT)(mb:Nat)(gs:List GF)(nm:am)(k:Nat)(cx:rC w B S mp)(hm:iF w (λb=>b<B) mp mb nm gs)(hG:kc S mp d gs)(hnd:Jq d)(hM:iy k w Z v m)(hO:nR k m)(hl:(d9 S 8 d m).length<=140737488355328):
  Calls prog 54 #[ag mb,.agg #[v,ae m.unk]] w (jC (dN S 8 d m) (ae ⟨(d9 S 8 d m).toArray⟩) w):=by
 obtain⟨a,c,rfl⟩:=hM.form;obtain⟨B0,K1⟩:=dR w #[.slice a m.fs.length c,ae m.unk] 49;have HC:=wi hN _ Z _ m d mb gs nm k (cx.on (dQ B0 cx.le)) (hm.keep λb _ q=>B0.block b q) hG hnd (hM.below B0 (ay _)) hO hl;have QP:=hM.mono (Y:=λb=>b<w.heap.size) λ_ _ q=>q
 have HW:Hid (∀W N b,aj w W->w.heap.size<=N->N<=W.heap.size->dN S 8 d m=true->eY W N b (d5 b) []->Calls prog 97 #[ag mb,.agg #[.slice a m.fs.length c,ae m.unk],d5 b] W (ix N b [] (d9 S 8 d m) W)):=λW N b hW hN1 QQ hs hw=>
  FD hN 8 W _ _ m d mb gs nm k N b [] (cx.on (dQ hW cx.le)) (hm.keep λb _ q=>hW.block b q) hG hnd (QP.below hW (ay _)) (λi q=>QD) (by have:=cx.le;omega) QQ hO hs hw (by simpa using hl)
 generalize d9 S 8 d m=y at*;generalize dN S 8 d m=ok at*;obtain⟨k1,k2⟩:=K1.rules;have hs1:w.heap.size+1=(w.alloc (ak #[.slice a m.fs.length c,ae m.unk] 49)).heap.size:=QE;go_enter func54,ntmps54;go_wp2_with fail;refine HC.mono ?_;intro e w2 hr;generalize w.alloc (ak #[.slice a m.fs.length c,ae m.unk] 49)=w1 at*
 rcases hr.part with⟨rfl,rfl,b2⟩|⟨rfl,y,z,rfl,b2⟩
 ·have hs2:=b2.size;go_wp2_with fail;refine(tF (B:=w.heap.size+1) y.length hl QD).mono ?_;rintro e w3 ⟨b,rfl,hb,QR,b3⟩;have K3:dK w3 w.heap.size _ _:=(b3.block _ QD).trans (K1.below b2 K1.lt);have hs3:=b3.size;have B3:aj w w3:=(dG B0 b2).trans (dQ b3 QD);clear k1 k2;obtain⟨k1,k2⟩:=K3.rules;go_wp2_with fail;refine(HW.out w3 (w.heap.size+1) b B3 QD QD trivial QR).mono ?_;rintro e w4 ⟨rfl,q1,q2⟩;rw[aR]at q1;have hs4:=q2.bel.size;go_wp2_with fail;refine(yg q1 QD).mono ?_;rintro e w5 ⟨rfl,b5⟩;go_wp2;go_ret;exact jC.ok (B3.trans (dQ (q2.bel.trans b5) QD))
 ·unfold dI;go_wp2;exact⟨rfl,jC.no (dG B0 b2)⟩
end
end
section
open Go.Maps
attribute [local go_sem↓] Go.wp_at_zero Go.wp_at_succ
def jZ (ks:au)(K:an->Prop)(ok:Bool)(v:Value)(w:an)(e:Ending)(w':an):Prop:=dS ks w w'/\K w'/\if ok=true then e= .returned v else∃(x:Nz) (y:Int),e=dI x.1 y
section
def FR (a b:Addr)(w:an):
  CallsD prog 150 #[.pointer (some a),.pointer (some b)] .returning w λe u' w'=>e= .returned (.tuple #[])/\u'= .returning/\w'=w:=by
 refine callsD_of_wpS func150 rfl λc₀ cs hu=> ?_
 apply wpS_seq;apply wpS_region;simp[wpOpsS,go_sem,recoverD,hu,ntmps150,Exit.thenS];refine wpS_of_wp ?_;rw[tE];go_wp2
 cases c₀
 simp_all [bodyPostS,results,results150]
def FS (ab bb:Nat)(k p:Int)(older:List PanicEntry)(w:an)(x y:Value)(ha:w.cell? (ai ab 0)=some x)(hb:w.cell? (ai bb 0)=some y)(fa:w.frozen? (ai ab 0)=false)(fb:w.frozen? (ai bb 0)=false)(hab:¬ab=bb):
  CallsD prog 150 #[ag ab,ag bb] (.panicking ({v:= .iface 142 (.agg #[aa k,aa p]),recovered:=false}::older)) w λe u' w'=>
   e= .returned (.tuple #[])/\u'= .panicking ({v:= .iface 142 (.agg #[aa k,aa p]),recovered:=true}::older)/\
    w'=(((w.setCell (ai ab 0) (aa k)).setCell (ai bb 0) (aa p)).alloc (ak #[aa k,aa p] 142)).drew:=by
 have QZ:=Kr k p;have la:=aP _ _ ha;have lb:=aP _ _ hb;simp only at la lb;obtain⟨p1,p2,p3,p4⟩:=fT (w:=w) (b:=ab) la;obtain⟨s1,s2,s3,s4⟩:=fT (w:=w) (b:=bb) lb;have Q0:¬bb=ab:=λe=>hab e.symm
 refine callsD_of_wpS func150 rfl λc₀ cs hu=> ?_
 apply wpS_seq;apply wpS_region;simp[wpOpsS,go_sem,recoverD,hu,ntmps150,Exit.thenS];refine wpS_of_wp ?_;rw[tE];go_wp2;go_region
 exact⟨rfl,_,rfl,.tuple #[],by simp[results,results150],rfl,rfl,rfl⟩
variable {ks:au} {K:an->Prop} {E B:Nat}
def FT (hks:∀x∈ks,x<E)(hK:ld E B K)(ok:Bool)(v:am)(w:an)(hE:E<=w.heap.size)(hB:w.heap.size+2<=B)(c0 c1 c2 c3:Value)(h:∀w0,aj w w0->w0.heap.size=w.heap.size+2->Calls prog 53 #[c0,c1,c2,c3] w0 (jZ ks K ok (Value.string v) w0)):
  Calls prog 95 #[.func (Fn.func 53) #[] #[c0,c1,c2,c3]] w λe w'=>dS ks w w'/\K w'/\if ok=true then e= .returned (.tuple #[Value.string v,aa 0,aa 0])else∃(x:Nz) (y:Int),e= .returned (.tuple #[ae ⟨#[]⟩,aa x.1,aa y]):=by
 have QW:= @ti;obtain⟨B0,K0,K1⟩:=fK w #[aa 0] #[aa 0] 24 3;have HC:Hid (Calls prog 53 #[c0,c1,c2,c3] _ (jZ ks K ok (Value.string v) _)):=h _ B0 QE;clear h;go_enter_defers func95,ntmps95
 go_wp2_with fail;generalize(w.alloc (ak #[aa 0] 24)).alloc (ak #[aa 0] 3)=w1 at*;refine HC.out.mono ?_;rintro e w2 ⟨QR,QU,he⟩;have K2:=K0.kept QR (λq=>by have:=hks _ q;omega);have K3:=K1.kept QR (λq=>by have:=hks _ q;omega);have C2:=(dS.of_below (bs:=ks) B0).trans QR;obtain⟨k1,k2⟩:=K2.rules;obtain⟨k3,k4⟩:=K3.rules;have z3:=K3.lt
 cases ok with
 |false=>
  rw[dA QE]at he;obtain⟨x,y,rfl⟩:=he;unfold dI;refine leaves_cons (f:=150) (args:= #[ag w.heap.size,ag (w.heap.size+1)]) QE (by simp[go_sem]) ?_;refine(FS w.heap.size (w.heap.size+1) x.1 y [] w2 _ _ (k1 0) (k3 0) (k2 0) (k4 0) QD).mono ?_;rintro e u' QY ⟨rfl,rfl,rfl⟩;have q0:=(((K2.set 0 (aa x.1)).other (c:=w.heap.size+1) 0 (aa y) QD).alloc (ak #[aa x.1,aa y] 142)).cell 0;have q1:=(((K3.other (c:=w.heap.size) 0 (aa x.1) QD).set 0 (aa y)).alloc (ak #[aa x.1,aa y] 142)).cell 0;have C3:dS ks w (((w2.setCell (ai w.heap.size 0) (aa x.1)).setCell (ai (w.heap.size+1) 0) (aa y)).alloc (ak #[aa x.1,aa y] 142)).drew:=(((C2.freshP (ay _) 0 _).freshP (bI _) 0 _).alloc _).drew;have H3:K (((w2.setCell (ai w.heap.size 0) (aa x.1)).setCell (ai (w.heap.size+1) 0) (aa y)).alloc (ak #[aa x.1,aa y] 142)).drew:=hK w2 _ QU QE λz hz hl=>(Below.heap_alloc _ _ z (by simpa using hl)).trans ((dW QD).trans (dW QD))
  simp at q0 q1;simp[Leaves,settle,results,results95,go_sem,q0,q1];exact⟨C3,H3,x.2⟩
 |true=>
  rw[dB rfl]at he;subst he;go_wp2;refine leaves_cons (f:=150) (args:= #[ag w.heap.size,ag (w.heap.size+1)]) QE (by simp[go_sem]) ?_;refine(FR (ai w.heap.size 0) (ai (w.heap.size+1) 0) _).mono ?_;rintro e u' QY ⟨rfl,rfl,rfl⟩;have q0:=((K2.set 0 (aa 0)).other (c:=w.heap.size+1) 0 (aa 0) QD).cell 0;have q1:=((K3.other (c:=w.heap.size) 0 (aa 0) QD).set 0 (aa 0)).cell 0;have C3:dS ks w ((w2.setCell (ai w.heap.size 0) (aa 0)).setCell (ai (w.heap.size+1) 0) (aa 0)):=(C2.freshP (ay _) 0 _).freshP (bI _) 0 _;have H3:K ((w2.setCell (ai w.heap.size 0) (aa 0)).setCell (ai (w.heap.size+1) 0) (aa 0)):=hK w2 _ QU QE λz hz hl=>(dW QD).trans (dW QD)
  simp at q0 q1;simp[Leaves,settle,results,results95,go_sem,q0,q1];exact⟨C3,H3⟩
def FU (hks:∀x∈ks,x<E)(hK:ld E B K)(ok:Bool)(v:am)(w:an)(hE:E<=w.heap.size)(hB:w.heap.size+2<=B)(c0 c1 c2 c3:Value)(h:∀w0,aj w w0->w0.heap.size=w.heap.size+2->Calls prog 53 #[c0,c1,c2,c3] w0 (jZ ks K ok (Value.string v) w0)):
  Calls prog 52 #[.func (Fn.func 53) #[] #[c0,c1,c2,c3]] w λe w'=>dS ks w w'/\K w'/\e= .returned (.tuple #[if ok=true then Value.string v else ae ⟨#[]⟩,aa (if ok=true then 0 else 12)]):=by
 have HC:=FT hks hK ok v w hE hB c0 c1 c2 c3 h;clear h;go_enter func52,ntmps52;go_wp2_with fail;refine HC.mono ?_;rintro e w2 ⟨C2,H2,he⟩
 cases ok with
 |false=>
  rw[dA QE]at he;obtain⟨x,y,rfl⟩:=he;have hx:(x.1 !=0)=true:=by simpa using x.2
  go_wp2;go_ret2;exact⟨C2,H2,rfl⟩
 |true=>
  rw[dB rfl]at he;subst he;go_wp2;go_ret2;exact⟨C2,H2,rfl⟩
def yA (r:am×Int)(w:an)(hks:∀x∈ks,x<w.heap.size)(hK:ld w.heap.size (w.heap.size+6) K)(hk0:K w)(sb:Nat)(sv kv:Value)(bs:List dO)(y:List YM)(P:ap)(nm:am)(a:aw)(n c:Nat)(unk:am)(way:Int)(h1:dK w sb #[sv,kv] 92)(hM:eV w P sv bs y)(hl:y.length<=2001)(hw:way=1\/way=2)
  (hR:(∀m∈y,(m.1.1.toList==nm.toList)=false)->r=(⟨#[]⟩,5))
  (h:∀(i:Nat) (m:YM),y[i]?=some m->(m.1.1.toList==nm.toList)=true->∃ok v,r=(if ok=true then v else⟨#[]⟩,if ok=true then 0 else 12)/\∀(w0:an) (q0 q1 q2 q3:Nat),aj w w0->w0.heap.size=w.heap.size+6->w.heap.size<=q0/\w.heap.size<=q1/\w.heap.size<=q2/\w.heap.size<=q3->w0.cell? (ai q0 0)=some (aa way)->w0.cell? (ai q1 0)=some (ag m.1.2)->dK w0 q2 #[.slice a n c,ae unk] 49->w0.cell? (ai q3 0)=some (ag sb)->
   Calls prog 53 #[ag q0,ag q1,ag q2,ag q3] w0 (jZ ks K ok (Value.string v) w0)):
  Calls prog 24 #[ag sb,aa way,ae nm,.agg #[.slice a n c,ae unk]] w λe w'=>e= .returned (.tuple #[Value.string r.1,aa r.2])/\dS ks w w'/\K w':=by
 have QW:= @ti;obtain⟨w0,QP⟩:∃w0,((w.alloc (ak #[ag sb] 22)).alloc (ak #[aa way] 3)).alloc (ak #[.slice a n c,ae unk] 49)=w0:=⟨_,rfl⟩;have B0:aj w w0:=by rw[<-QP];exact(((Below.refl _ _).alloc (ay _) _).alloc QE _).alloc QF _
 have KS:dK w0 w.heap.size #[ag sb] 22:=by rw[<-QP];exact((dK.new w _ _).alloc _).alloc _
 have KY:dK w0 (w.heap.size+1) #[aa way] 3:=by rw[<-QP];exact(dK.newAt QE _ _).alloc _
 have KM:dK w0 (w.heap.size+1+1) #[.slice a n c,ae unk] 49:=by rw[<-QP];exact dK.newAt QE _ _
 have QS:=vR w0 sb sv kv bs y P nm way (h1.below B0 h1.lt) (hM.keep λx _ hl=>B0.block x hl) hl hw;have QT:Hid (w0.heap.size=w.heap.size+3):=by show _=_;rw[<-QP];simp
 obtain⟨s1,s2⟩:=KS.rules;obtain⟨s3,s4⟩:=KY.rules;go_enter func24,ntmps24;go_wp2_with fail;refine QS.mono ?_;clear QS QP;rintro e w1 ⟨rfl,⟨i,m,hi,hn,rfl⟩|⟨QV,rfl⟩⟩
 ·obtain⟨B1,KP⟩:=dR w1 #[ag m.1.2] 105;have QX:(w1.alloc (ak #[ag m.1.2] 105)).heap.size=w.heap.size+4:=by have:=QT.out;simp;omega
  obtain⟨ok,v,hr,hc⟩:=h i m hi hn;have HR:Hid (r=(if ok=true then v else⟨#[]⟩,if ok=true then 0 else 12)):=hr;clear hr hR
  have HC:Hid (∀w3,Below (w1.alloc (ak #[ag m.1.2] 105)).heap.size (w1.alloc (ak #[ag m.1.2] 105)) w3->w3.heap.size=(w1.alloc (ak #[ag m.1.2] 105)).heap.size+2->Calls prog 53 #[ag (w.heap.size+1),ag w1.heap.size,ag (w.heap.size+1+1),ag w.heap.size] w3 (jZ ks K ok (Value.string v) w3)):=λw3 hb hs=>by
   have QQ:=dG B1 hb;have Q1:=QT.out;exact hc w3 _ _ _ _ (dG B0 QQ) QD ⟨QD,QD,QD,ay _⟩ ((KY.below QQ KY.lt).cell 0) ((KP.below hb KP.lt).cell 0) (KM.below QQ KM.lt) ((KS.below QQ KS.lt).cell 0)
  have HK:=FU hks hK ok v (w1.alloc (ak #[ag m.1.2] 105)) QD QD _ _ _ _ HC.out;have B2:=dG B0 B1;go_wp2_with fail;refine HK.mono ?_;rintro e w3 ⟨C3,H3,rfl⟩
  cases ok
  all_goals
   go_wp2;go_ret2;exact⟨by rw[HR.out];rfl,(dS.of_below B2).trans C3,H3⟩
 ·obtain rfl:=hR QV;have B2:=B0.alloc B0.size (ak #[.pointer none] 105);clear h hR QV;go_wp2;go_ret2;exact⟨rfl,dS.of_below B2,hK w _ hk0 B2.size λz _ hl=>B2.block z hl⟩
end
section
def M5 (a b:Addr)(w:an):
  CallsD prog 156 #[.pointer (some a),.pointer (some b)] .returning w λe u' w'=>e= .returned (.tuple #[])/\u'= .returning/\w'=w:=by
 refine callsD_of_wpS func156 rfl λc₀ cs hu=> ?_
 apply wpS_seq;apply wpS_region;simp[wpOpsS,go_sem,recoverD,hu,ntmps156,Exit.thenS];refine wpS_of_wp ?_;rw[tE];go_wp2
 cases c₀
 simp_all [bodyPostS,results,results156]
def M6 (ab bb:Nat)(k p:Int)(older:List PanicEntry)(w:an)(x y:Value)(ha:w.cell? (ai ab 0)=some x)(hb:w.cell? (ai bb 0)=some y)(fa:w.frozen? (ai ab 0)=false)(fb:w.frozen? (ai bb 0)=false)(hab:¬ab=bb):
  CallsD prog 156 #[ag ab,ag bb] (.panicking ({v:= .iface 142 (.agg #[aa k,aa p]),recovered:=false}::older)) w λe u' w'=>
   e= .returned (.tuple #[])/\u'= .panicking ({v:= .iface 142 (.agg #[aa k,aa p]),recovered:=true}::older)/\
    w'=(((w.setCell (ai ab 0) (aa k)).setCell (ai bb 0) (aa p)).alloc (ak #[aa k,aa p] 142)).drew:=by
 have QZ:=Kr k p;have la:=aP _ _ ha;have lb:=aP _ _ hb;simp only at la lb;obtain⟨p1,p2,p3,p4⟩:=fT (w:=w) (b:=ab) la;obtain⟨s1,s2,s3,s4⟩:=fT (w:=w) (b:=bb) lb;have Q0:¬bb=ab:=λe=>hab e.symm
 refine callsD_of_wpS func156 rfl λc₀ cs hu=> ?_
 apply wpS_seq;apply wpS_region;simp[wpOpsS,go_sem,recoverD,hu,ntmps156,Exit.thenS];refine wpS_of_wp ?_;rw[tE];go_wp2;go_region
 exact⟨rfl,_,rfl,.tuple #[],by simp[results,results156],rfl,rfl,rfl⟩
variable {ks:au} {K:an->Prop} {E B:Nat}
def M8 (hks:∀x∈ks,x<E)(hK:ld E B K)(ok:Bool)(v:Int)(w:an)(hE:E<=w.heap.size)(hB:w.heap.size+2<=B)(c0 c1 c2 c3:Value)(h:∀w0,aj w w0->w0.heap.size=w.heap.size+2->Calls prog 57 #[c0,c1,c2,c3] w0 (jZ ks K ok (Value.int .i64 v) w0)):
  Calls prog 100 #[.func (Fn.func 57) #[] #[c0,c1,c2,c3]] w λe w'=>dS ks w w'/\K w'/\if ok=true then e= .returned (.tuple #[Value.int .i64 v,aa 0,aa 0])else∃(x:Nz) (y:Int),e= .returned (.tuple #[aa 0,aa x.1,aa y]):=by
 have QW:= @ti;obtain⟨B0,K0,K1⟩:=fK w #[aa 0] #[aa 0] 24 3;have HC:Hid (Calls prog 57 #[c0,c1,c2,c3] _ (jZ ks K ok (Value.int .i64 v) _)):=h _ B0 QE;clear h;go_enter_defers func100,ntmps100
 go_wp2_with fail;generalize(w.alloc (ak #[aa 0] 24)).alloc (ak #[aa 0] 3)=w1 at*;refine HC.out.mono ?_;rintro e w2 ⟨QR,QU,he⟩;have K2:=K0.kept QR (λq=>by have:=hks _ q;omega);have K3:=K1.kept QR (λq=>by have:=hks _ q;omega);have C2:=(dS.of_below (bs:=ks) B0).trans QR;obtain⟨k1,k2⟩:=K2.rules;obtain⟨k3,k4⟩:=K3.rules;have z3:=K3.lt
 cases ok with
 |false=>
  rw[dA QE]at he;obtain⟨x,y,rfl⟩:=he;unfold dI;refine leaves_cons (f:=156) (args:= #[ag w.heap.size,ag (w.heap.size+1)]) QE (by simp[go_sem]) ?_;refine(M6 w.heap.size (w.heap.size+1) x.1 y [] w2 _ _ (k1 0) (k3 0) (k2 0) (k4 0) QD).mono ?_;rintro e u' QY ⟨rfl,rfl,rfl⟩;have q0:=(((K2.set 0 (aa x.1)).other (c:=w.heap.size+1) 0 (aa y) QD).alloc (ak #[aa x.1,aa y] 142)).cell 0;have q1:=(((K3.other (c:=w.heap.size) 0 (aa x.1) QD).set 0 (aa y)).alloc (ak #[aa x.1,aa y] 142)).cell 0;have C3:dS ks w (((w2.setCell (ai w.heap.size 0) (aa x.1)).setCell (ai (w.heap.size+1) 0) (aa y)).alloc (ak #[aa x.1,aa y] 142)).drew:=(((C2.freshP (ay _) 0 _).freshP (bI _) 0 _).alloc _).drew;have H3:K (((w2.setCell (ai w.heap.size 0) (aa x.1)).setCell (ai (w.heap.size+1) 0) (aa y)).alloc (ak #[aa x.1,aa y] 142)).drew:=hK w2 _ QU QE λz hz hl=>(Below.heap_alloc _ _ z (by simpa using hl)).trans ((dW QD).trans (dW QD))
  simp at q0 q1;simp[Leaves,settle,results,results100,go_sem,q0,q1];exact⟨C3,H3,x.2⟩
 |true=>
  rw[dB rfl]at he;subst he;go_wp2;refine leaves_cons (f:=156) (args:= #[ag w.heap.size,ag (w.heap.size+1)]) QE (by simp[go_sem]) ?_;refine(M5 (ai w.heap.size 0) (ai (w.heap.size+1) 0) _).mono ?_;rintro e u' QY ⟨rfl,rfl,rfl⟩;have q0:=((K2.set 0 (aa 0)).other (c:=w.heap.size+1) 0 (aa 0) QD).cell 0;have q1:=((K3.other (c:=w.heap.size) 0 (aa 0) QD).set 0 (aa 0)).cell 0;have C3:dS ks w ((w2.setCell (ai w.heap.size 0) (aa 0)).setCell (ai (w.heap.size+1) 0) (aa 0)):=(C2.freshP (ay _) 0 _).freshP (bI _) 0 _;have H3:K ((w2.setCell (ai w.heap.size 0) (aa 0)).setCell (ai (w.heap.size+1) 0) (aa 0)):=hK w2 _ QU QE λz hz hl=>(dW QD).trans (dW QD)
  simp at q0 q1;simp[Leaves,settle,results,results100,go_sem,q0,q1];exact⟨C3,H3⟩
def M9 (hks:∀x∈ks,x<E)(hK:ld E B K)(ok:Bool)(v:Int)(w:an)(hE:E<=w.heap.size)(hB:w.heap.size+2<=B)(c0 c1 c2 c3:Value)(h:∀w0,aj w w0->w0.heap.size=w.heap.size+2->Calls prog 57 #[c0,c1,c2,c3] w0 (jZ ks K ok (Value.int .i64 v) w0)):
  Calls prog 56 #[.func (Fn.func 57) #[] #[c0,c1,c2,c3]] w λe w'=>dS ks w w'/\K w'/\e= .returned (.tuple #[if ok=true then Value.int .i64 v else aa 0,aa (if ok=true then 0 else 12)]):=by
 have HC:=M8 hks hK ok v w hE hB c0 c1 c2 c3 h;clear h;go_enter func56,ntmps56;go_wp2_with fail;refine HC.mono ?_;rintro e w2 ⟨C2,H2,he⟩
 cases ok with
 |false=>
  rw[dA QE]at he;obtain⟨x,y,rfl⟩:=he;have hx:(x.1 !=0)=true:=by simpa using x.2
  go_wp2;go_ret2;exact⟨C2,H2,rfl⟩
 |true=>
  rw[dB rfl]at he;subst he;go_wp2;go_ret2;exact⟨C2,H2,rfl⟩
def IF (r:Int×Int)(w:an)(hks:∀x∈ks,x<w.heap.size)(hK:ld w.heap.size (w.heap.size+6) K)(hk0:K w)(sb:Nat)(sv kv:Value)(bs:List dO)(y:List YM)(P:ap)(nm:am)(a:aw)(n c:Nat)(unk:am)(way:Int)(h1:dK w sb #[sv,kv] 92)(hM:eV w P sv bs y)(hl:y.length<=2001)(hw:way=1\/way=2)
  (hR:(∀m∈y,(m.1.1.toList==nm.toList)=false)->r=(0,5))
  (h:∀(i:Nat) (m:YM),y[i]?=some m->(m.1.1.toList==nm.toList)=true->∃ok v,r=(if ok=true then v else 0,if ok=true then 0 else 12)/\∀(w0:an) (q0 q1 q2 q3:Nat),aj w w0->w0.heap.size=w.heap.size+6->w.heap.size<=q0/\w.heap.size<=q1/\w.heap.size<=q2/\w.heap.size<=q3->w0.cell? (ai q0 0)=some (aa way)->w0.cell? (ai q1 0)=some (ag m.1.2)->dK w0 q2 #[.slice a n c,ae unk] 49->w0.cell? (ai q3 0)=some (ag sb)->
   Calls prog 57 #[ag q0,ag q1,ag q2,ag q3] w0 (jZ ks K ok (Value.int .i64 v) w0)):
  Calls prog 25 #[ag sb,aa way,ae nm,.agg #[.slice a n c,ae unk]] w λe w'=>e= .returned (.tuple #[Value.int .i64 r.1,aa r.2])/\dS ks w w'/\K w':=by
 have QW:= @ti;obtain⟨w0,QP⟩:∃w0,((w.alloc (ak #[ag sb] 22)).alloc (ak #[aa way] 3)).alloc (ak #[.slice a n c,ae unk] 49)=w0:=⟨_,rfl⟩;have B0:aj w w0:=by rw[<-QP];exact(((Below.refl _ _).alloc (ay _) _).alloc QE _).alloc QF _
 have KS:dK w0 w.heap.size #[ag sb] 22:=by rw[<-QP];exact((dK.new w _ _).alloc _).alloc _
 have KY:dK w0 (w.heap.size+1) #[aa way] 3:=by rw[<-QP];exact(dK.newAt QE _ _).alloc _
 have KM:dK w0 (w.heap.size+1+1) #[.slice a n c,ae unk] 49:=by rw[<-QP];exact dK.newAt QE _ _
 have QS:=vR w0 sb sv kv bs y P nm way (h1.below B0 h1.lt) (hM.keep λx _ hl=>B0.block x hl) hl hw;have QT:Hid (w0.heap.size=w.heap.size+3):=by show _=_;rw[<-QP];simp
 obtain⟨s1,s2⟩:=KS.rules;obtain⟨s3,s4⟩:=KY.rules;go_enter func25,ntmps25;go_wp2_with fail;refine QS.mono ?_;clear QS QP;rintro e w1 ⟨rfl,⟨i,m,hi,hn,rfl⟩|⟨QV,rfl⟩⟩
 ·obtain⟨B1,KP⟩:=dR w1 #[ag m.1.2] 105;have QX:(w1.alloc (ak #[ag m.1.2] 105)).heap.size=w.heap.size+4:=by have:=QT.out;simp;omega
  obtain⟨ok,v,hr,hc⟩:=h i m hi hn;have HR:Hid (r=(if ok=true then v else 0,if ok=true then 0 else 12)):=hr;clear hr hR
  have HC:Hid (∀w3,Below (w1.alloc (ak #[ag m.1.2] 105)).heap.size (w1.alloc (ak #[ag m.1.2] 105)) w3->w3.heap.size=(w1.alloc (ak #[ag m.1.2] 105)).heap.size+2->Calls prog 57 #[ag (w.heap.size+1),ag w1.heap.size,ag (w.heap.size+1+1),ag w.heap.size] w3 (jZ ks K ok (Value.int .i64 v) w3)):=λw3 hb hs=>by
   have QQ:=dG B1 hb;have Q1:=QT.out;exact hc w3 _ _ _ _ (dG B0 QQ) QD ⟨QD,QD,QD,ay _⟩ ((KY.below QQ KY.lt).cell 0) ((KP.below hb KP.lt).cell 0) (KM.below QQ KM.lt) ((KS.below QQ KS.lt).cell 0)
  have HK:=M9 hks hK ok v (w1.alloc (ak #[ag m.1.2] 105)) QD QD _ _ _ _ HC.out;have B2:=dG B0 B1;go_wp2_with fail;refine HK.mono ?_;rintro e w3 ⟨C3,H3,rfl⟩
  cases ok
  all_goals
   go_wp2;go_ret2;exact⟨by rw[HR.out];rfl,(dS.of_below B2).trans C3,H3⟩
 ·obtain rfl:=hR QV;have B2:=B0.alloc B0.size (ak #[.pointer none] 105);clear h hR QV;go_wp2;go_ret2;exact⟨rfl,dS.of_below B2,hK w _ hk0 B2.size λz _ hl=>B2.block z hl⟩
end
end
section
attribute [local go_sem↓] Go.wp_at_zero Go.wp_at_succ
def tU (form:Int)(m:PM)(n:Int)(v:LV):PM:=if form=2 then m.put n (m.get n++ [oU v])else if form=0/\v.1=0/\gE v.2 eS=true then m.put n []else m.put n [oU v]
def Cj (form:Int)(m:PM)(n:Int):Fx (LV×Nat)->Fx (PM×Nat)
 | .error x=> .error x
 | .ok x=> .ok (tU form m n x.1,x.2)
def IG {form:Int}(h:form≠2)(m:PM)(n:Int)(r:Fx (LV×Nat)):Cj form m n r=Ke (decide (form=0)) m n r:=by
 cases r with
 |error x=>rfl
 |ok x=>simp only[Cj,Ke,tU,dA h,dD]
def IH {form:Int}(h:form=2)(m:PM)(n:Int)(r:Fx (LV×Nat)):Cj form m n r=Hi m n r:=by
 cases r with
 |error x=>rfl
 |ok x=>simp only[Cj,Hi,tU,dB h]
def Ae (form:Int)(args:Array Value)(w:an):(callFunc (kY form) args).run prog w= .ok (.enter (kY form) args) w:=by
 unfold kY
 split
 ·exact enters_of func193 QI rfl args w
 ·split
  ·exact enters_of func268 QI rfl args w
  ·exact enters_of func195 QI rfl args w
def Ck (S:d8)(k:Nat)(d:MT)(form:Int)(w:an)(Z:ap)(db:Nat)(m:PM)(n:Int)(v:LV)(h:ed S (k+1) (some d) w Z db m)(ok1:ny S (some d) n .vals)(ok2:∀kd,ny S (some d) n kd->kd= .vals)(hl:m.fs.length<1073741824)(hvl:(m.get n).length<1073741824)(hZ:∀b,Z b->b<w.heap.size):
  Calls prog (kY form) #[ag db,aa n,tO v] w (jA S k (some d) w Z db (tU form m n v)):=by
 by_cases h0:form=0
 ·have e1:kY form=193:=by unfold kY;rw[dB h0]
  have e2:tU form m n v=if v.1=0/\gE v.2 eS=true then m.put n []else m.put n [oU v]:=by unfold tU;rw[dA QD];simp[h0]
  rw[e1,e2];exact Ee S k (some d) w Z db m n v h ok1 (.inl ok2) hl hZ
 ·by_cases h2:form=2
  ·have e1:kY form=268:=by unfold kY;rw[dA h0,dB h2]
   have e2:tU form m n v=m.put n (m.get n++ [oU v]):=by unfold tU;rw[dB h2]
   rw[e1,e2];exact vI S k (some d) w Z db m n v h ok1 (.inl ok2) hl hvl
  ·have e1:kY form=195:=by unfold kY;rw[dA h0,dA h2]
   have e2:tU form m n v=m.put n [oU v]:=by unfold tU;rw[dA h2,dA (λq=>h0 q.1)]
   rw[e1,e2];exact vw S k (some d) w Z db m n v h ok1 (.inl ok2) hl
def LY (w:an)(B:Nat)(S:d8)(mp:am->Option Nat)(k:Nat)(d:MT)(f:eP)(g:GF)(Z:ap)(rb db:Nat)(b:am)(e a z deep:Nat)(kind:Int)(m:PM)(v:Value)
  (I:nD w B S mp k d Z rb db b e a z deep m) (hv:MV w (λb=>b<B) mp g v) (fg:FG S mp d f g) (h4:g.form≠4) (hb:S.base f.ty<=15) (hff:dP d.fs f.num=some f):
  lw v [aa kind,ag rb,ag db] w (gR S k d w Z rb db (b.extract 0 e) deep (Cj g.form m f.num (fY (b.extract 0 e) z (S.base f.ty)))):=by
 obtain⟨pb,nb,vb,vv,rfl,h1,h2,h3,QW,q1,q2,q3⟩:=hv;refine⟨422,[_,_,_],rfl,enters_of func422 QI rfl,?_⟩;show Calls prog 422 #[aa kind,ag rb,ag db,ag pb,ag nb,ag vb] w _;rw[fg.eq]at h2 QW;rw[fg.base]at QW;obtain⟨Q1,_,_⟩:=kF fg h4 hb;obtain⟨ok1,ok2⟩:=nE hff Q1;have hes:(b.extract 0 e).size=e:=fX I.eb;have hl:=I.wm.len;have hab:=I.az;have hze:=I.ze;have heb:=I.eb;have hbs:=I.bs;have hrb:=I.rB;have QX:=I.rZ;have QS:=I.hZ;have hrl:rb<w.heap.size:=dK.lt I.hr;have QY:ed S (k+1) (some d) w.drew Z db m:=I.hd.keep (λ_ _ _=>rfl);have hr0:dU w.drew rb (b.extract 0 e) z deep:=I.hr;obtain⟨vf,QQ,rfl,eg,hV⟩:=Id (QW.keep (w':=w.drew) (λ_ _ _=>rfl)) rb (b.extract 0 e) z deep hr0 QD QD QD (I.cx.u:UOK w.drew) (by have:=I.cx.u1;omega) (by have:=I.cx.u2;omega)
 have HA:Hid (∀(w3:an) (v:LV),ed S (k+1) (some d) w3 Z db m->w.heap.size<=w3.heap.size->Calls prog (kY g.form) #[ag db,aa f.num,tO v] w3 (jA S k (some d) w3 Z db (tU g.form m f.num v))):=
  λw3 v Q2 Q3=>Ck S k d g.form w3 Z db m f.num v Q2 ok1 ok2 QD (by have:=hl.2.2 f.num;omega) (λx q=>aC (QS x q).2 Q3)
 have ep:=Ae g.form;have QZ:Hid (∀x,Cj g.form m f.num (.ok x)= .ok (tU g.form m f.num x.1,x.2)):=λ_=>rfl
 have Q0:Hid (∀x,Cj g.form m f.num (.error x)= .error x):=λ_=>rfl
 obtain⟨R,hR⟩:∃R,fY (b.extract 0 e) z (S.base f.ty)=R:=⟨_,rfl⟩;rw[hR]at hV⊢;clear hR;generalize kY g.form=pf at*;generalize Cj g.form m f.num=PR at*;unfold AH at h1;have QT:dK w.drew pb #[.func (.func pf) #[] #[]] 480:=h1;have QU:dK w.drew nb #[aa f.num] 3:=h2;have QV:dK w.drew vb #[.func (.func vf) #[] QQ.toArray] 478:=h3;go_enter func422,ntmps422;go_upto_region 0 with fail
 go_region_held2 (λW=>W.cell? (ai pb 0)=some (.func (.func pf) #[] #[])/\W.cell? (ai nb 0)=some (aa f.num)/\W.cell? (ai vb 0)=some (.func (.func vf) #[] QQ.toArray))
  (first|exact c4|exact c3|exact⟨QT.cell 0,QU.cell 0,QV.cell 0⟩)
  (first
   |(
     refine hV.mono ?_;intro en w3 hq
     rcases hq.part with⟨x,rfl,rfl,QP⟩|⟨x,rfl,rfl,QP,Q4⟩
     ·unfold dI;go_wp2;rw[Q0.out];exact⟨rfl,rfl,Z,(el.of_below (Below.refl _ _).drew).trans (.of_kept QP)⟩
     have c3:w3.cell? (ai pb 0)=some (.func (.func pf) #[] #[])/\w3.cell? (ai nb 0)=some (aa f.num)/\w3.cell? (ai vb 0)=some (.func (.func vf) #[] QQ.toArray):=⟨(QT.kept QP QF).cell 0,(QU.kept QP QF).cell 0,(QV.kept QP QF).cell 0⟩)
   |(
     refine(HA.out w3 x.1 (el.dr QY QP QX) QP.size).mono ?_;rintro en w4 ⟨rfl,Z4,QR,Q5⟩
     have c4:w4.cell? (ai pb 0)=some (.func (.func pf) #[] #[])/\w4.cell? (ai nb 0)=some (aa f.num)/\w4.cell? (ai vb 0)=some (.func (.func vf) #[] QQ.toArray):=⟨((QT.kept QP QF).step QR (λq=>by have:=(QS pb q).1;omega)).cell 0,((QU.kept QP QF).step QR (λq=>by have:=(QS nb q).1;omega)).cell 0,((QV.kept QP QF).step QR (λq=>by have:=(QS vb q).1;omega)).cell 0⟩))
 all_goals
  go_wp2;go_end0;rw[QZ.out];exact⟨rfl,Z4,((el.of_below (Below.refl _ _).drew).trans (.of_kept QP)).trans (.of_step QR),Q5,dK.step Q4 QR QX⟩
def Na (w:an)(B:Nat)(S:d8)(mp:am->Option Nat)(k:Nat)(d:MT)(f:eP)(g:GF)(Z:ap)(rb db:Nat)(b:am)(e a z deep:Nat)(m:PM)(v:Value)
  (I:nD w B S mp k d Z rb db b e a z deep m) (hv:Ld w (λb=>b<B) mp g v) (fg:FG S mp d f g) (hf:g.form=2) (hb:S.base f.ty<=15) (hff:dP d.fs f.num=some f):
  lw v [aa (ei (S.base f.ty)),ag rb,ag db] w (gR S k d w Z rb db (b.extract 0 e) deep (Hi m f.num (fY (b.extract 0 e) z (S.base f.ty)))):=by
 obtain⟨pb,nb,vb,vv,rfl,h1,h2,h3,QU,q1,q2,q3⟩:=hv;refine⟨421,[_,_,_],rfl,enters_of func421 QI rfl,?_⟩;show Calls prog 421 #[aa (ei (S.base f.ty)),ag rb,ag db,ag pb,ag nb,ag vb] w _;rw[fg.eq]at h1 h2 QU;rw[fg.base]at h1 QU;obtain⟨Rf,_,_⟩:=kF fg QD hb;obtain⟨ok1,ok2⟩:=nE hff Rf;have Ri:(b.extract 0 e).size=e:=fX I.eb;have hl:=I.wm.len;have Ru:=I.az;have Rw:=I.ze;have Rj:=I.eb;have Rx:=I.bs;have Rk:=I.rB;have Q0:=I.rZ;have QV:=I.hZ;have Rl:rb<w.heap.size:=dK.lt I.hr;have Q5:ed S (k+1) (some d) w.drew Z db m:=I.hd.keep (λ_ _ _=>rfl);have hr0:dU w.drew rb (b.extract 0 e) z deep:=I.hr;obtain⟨vf,QP,rfl,eg,hV⟩:=Id (QU.keep (w':=w.drew) (λ_ _ _=>rfl)) rb (b.extract 0 e) z deep hr0 QD QD QD (I.cx.u:UOK w.drew) (by have:=I.cx.u1;omega) (by have:=I.cx.u2;omega)
 have hA:∀w3:an,∀v:LV,ed S (k+1) (some d) w3 Z db m->Calls prog 268 #[ag db,aa f.num,tO v] w3 (jA S k (some d) w3 Z db (m.put f.num (m.get f.num++ [oU v]))):=
  λw3 v Q7=>vI S k (some d) w3 Z db m f.num v Q7 ok1 (.inl ok2) QD (by have:=hl.2.2 f.num;omega)
 obtain⟨R,hR⟩:∃R,fY (b.extract 0 e) z (S.base f.ty)=R:=⟨_,rfl⟩;rw[hR]at hV⊢;clear hR;generalize(ei (S.base f.ty):Int)=al at*;have QW:dK w.drew nb #[aa f.num] 3:=h2;have QX:dK w.drew vb #[.func (.func vf) #[] QP.toArray] 478:=h3;obtain⟨k1,k2⟩:=h1.rules;have Rm:(al==al)=true:=QE;go_enter func421,ntmps421;go_upto_region 1 with fail
 go_region_held2 (λW=>W.cell? (ai nb 0)=some (aa f.num)/\W.cell? (ai vb 0)=some (.func (.func vf) #[] QP.toArray))
  (first|exact c4|exact c3|exact⟨QW.cell 0,QX.cell 0⟩)
  (first
   |(
     refine hV.mono ?_;intro en w3 hq
     rcases hq.part with⟨x,rfl,rfl,QR⟩|⟨x,rfl,rfl,QR,RL⟩
     ·unfold dI;go_wp2;exact⟨rfl,rfl,Z,(el.of_below (Below.refl _ _).drew).trans (.of_kept QR)⟩
     have c3:w3.cell? (ai nb 0)=some (aa f.num)/\w3.cell? (ai vb 0)=some (.func (.func vf) #[] QP.toArray):=⟨(QW.kept QR QF).cell 0,(QX.kept QR QF).cell 0⟩)
   |(
     go_at_call 268;refine(hA w3 x.1 (el.dr Q5 QR Q0)).mono ?_;rintro en w4 ⟨rfl,Z4,Q4,Ra⟩
     have c4:w4.cell? (ai nb 0)=some (aa f.num)/\w4.cell? (ai vb 0)=some (.func (.func vf) #[] QP.toArray):=⟨((QW.kept QR QF).step Q4 (λq=>by have:=(QV nb q).1;omega)).cell 0,((QX.kept QR QF).step Q4 (λq=>by have:=(QV vb q).1;omega)).cell 0⟩))
 all_goals
  go_wp2;go_end0;exact⟨rfl,Z4,((el.of_below (Below.refl _ _).drew).trans (.of_kept QR)).trans (.of_step Q4),Ra,dK.step RL Q4 Q0⟩
structure Nb (S:d8)(k:Nat)(d:MT)(B:Nat)(w wr:an)(Z Z':ap)(rb nb db y1 y2:Nat)(b s:am)(deep:Nat)(bs:Nat)(m:PM)(n:Int)(a:Nat)(l:List PV)(F:Nat)(P:Fx (List PV)):Prop where
 st:el w Z rb wr Z'
 rn:dU wr nb (b.extract 0 y2) a deep
 rr:dU wr rb s y2 deep
 dr:ed S (k+1) (some d) wr Z' db (m.put n l)
 lo:y1<=a
 hi:a<=y2
 ll:l.length<=a
 eq:Hid (P=fy b bs y2 F l a)
 fu:y2-a<=F
 zz:∀x,Z' x->B<=x/\x<wr.heap.size
 zn:¬Z' nb
def Nc (w:an)(B:Nat)(S:d8)(mp:am->Option Nat)(k:Nat)(d:MT)(f:eP)(g:GF)(Z:ap)(rb db:Nat)(b:am)(e a z deep:Nat)(m:PM)(v:Value)
  (I:nD w B S mp k d Z rb db b e a z deep m) (hv:Ld w (λb=>b<B) mp g v) (fg:FG S mp d f g) (hf:g.form=2) (hb:S.base f.ty<=15) (hw:ei (S.base f.ty)≠2) (hff:dP d.fs f.num=some f):
  lw v [aa 2,ag rb,ag db] w (gR S k d w Z rb db (b.extract 0 e) deep (oZ (S.base f.ty) b f.num m (eJ (b.extract 0 e) z))):=by
 obtain⟨pb,ub,vb,vv,rfl,h1,h2,h3,QU,q1,q2,q3⟩:=hv;refine⟨421,[_,_,_],rfl,enters_of func421 QI rfl,?_⟩;show Calls prog 421 #[aa 2,ag rb,ag db,ag pb,ag ub,ag vb] w _;rw[fg.eq]at h1 h2 QU;rw[fg.base]at h1 QU;obtain⟨Rf,_,_⟩:=kF fg QD hb;obtain⟨ok1,ok2⟩:=nE hff Rf;have Ri:(b.extract 0 e).size=e:=fX I.eb;have hl:=I.wm.len;have Ru:=I.az;have Rw:=I.ze;have Rj:=I.eb;have Rx:=I.bs;have Rk:=I.rB;have Q0:=I.rZ;have hu1:=I.cx.u1;have hu2:=I.cx.u2;have QV:=I.hZ;have Ry:=I.cx;have Rl:rb<w.heap.size:=dK.lt I.hr;have Q6:=nt w rb _ z deep I.hr QD;have QT:=I.hd.srt;have Q5:=I.hd;obtain⟨R,hR⟩:∃R,eJ (b.extract 0 e) z=R:=⟨_,rfl⟩;rw[hR]at Q6⊢;have HR:Hid (eJ (b.extract 0 e) z=R):=hR;clear hR;have hne:((2:Int)==(ei (S.base f.ty):Int))=false:=QF;have Rz:S.base f.ty≠13:=λq=>hw (by rw[q];rfl)
 have RA:S.base f.ty≠14:=λq=>hw (by rw[q];rfl)
 generalize(ei (S.base f.ty):Int)=al at*
 obtain⟨vf,QP,rfl⟩:∃vf QP,vv= .func (.func vf) #[] QP:=by
  rcases QU with⟨_,rfl⟩|⟨_,rfl⟩|⟨_,_,_,rfl,_⟩
  ·exact⟨_,_,rfl⟩
  ·exact⟨_,_,rfl⟩
  ·exact⟨_,_,rfl⟩
 obtain⟨k1,k2⟩:=h1.rules;have RB:=I.cx.le;clear I;go_enter func421,ntmps421;go_wp2_with fail;refine Q6.mono ?_;intro en w3 hq
 rcases hq.part with⟨x,rfl,rfl,QR⟩|⟨y,nb,rfl,rfl,QR,RM,RN,Q2,Rg⟩
 ·unfold dI;go_wp2;exact⟨rfl,rfl,Z,.of_kept QR⟩
 clear k1 k2 Q6;obtain⟨y1,y2⟩:=y;obtain⟨v0,v1,v2⟩:=it HR.out;rw[Ri]at v2;have Rm:(b.extract 0 e).extract 0 y2=b.extract 0 y2:=jw Rj v2;simp only[Rm]at Q2;have Rn:(b.extract 0 y2).size=y2:=fX QD;have Q7:=el.dr Q5 QR Q0
 have P0:Nb S k d B w w3 Z Z rb nb db y1 y2 b (b.extract 0 e) deep (S.base f.ty) m f.num y1 (m.get f.num) (y2-y1) (fy b (S.base f.ty) y2 (y2-y1) (m.get f.num) y1):=
  ⟨.of_kept QR,Q2,Rg,by rw[El QT.1 QT.2];exact Q7,ay _,v1,by have:=hl.2.2 f.num;omega,rfl,ay _,λx q=>⟨(QV x q).1,aC (QV x q).2 QR.size⟩,λq=>by have:=(QV nb q).2;omega⟩
 obtain⟨P,hP⟩:∃P,fy b (S.base f.ty) y2 (y2-y1) (m.get f.num) y1=P:=⟨_,rfl⟩
 have HQ:Hid (oZ (S.base f.ty) b f.num m (.ok (y1,y2))=Hj m f.num y2 P):=by
  show Hj m f.num y2 (fy b (S.base f.ty) y2 (y2-y1) (m.get f.num) y1)=_;rw[hP]
 rw[hP]at P0;clear hP;go_wp2;go_loopw [21] (λ_ wr=>∃Z' a' l F',Nb S k d B w wr Z Z' rb nb db y1 y2 b (b.extract 0 e) deep (S.base f.ty) m f.num a' l F' P) (λ_ wr=>lr wr nb y2)
 case atStart=>exact⟨Z,y1,_,_,P0⟩
 case round=>
  obtain⟨Z',a',l,F',O⟩:=hrel;have hM:=qC wr nb _ a' deep O.rn;rw[Rn]at hM;have hlo:=O.lo;have hhi:=O.hi;have hll:=O.ll;go_wp2_with fail;refine hM.mono ?_;rintro en w4 ⟨rfl,q,rfl⟩
  by_cases hlt:a'<y2
  ·have hd:decide (a'<y2)=true:=decide_eq_true hlt;obtain⟨F2,rfl⟩:∃F2,F'=F2+1:=⟨F'-1,by have:=O.fu;omega⟩;have Q3:Below B w wr:=O.st.below RB (λx q=>(QV x q).1) Rk;have QY:Below B w (wr.drewN q).drew:=(iE Q3 q).drew;have hu:UOK (wr.drewN q).drew:=(Ry.on Q3).u;have RC:dU (wr.drewN q).drew nb (b.extract 0 y2) a' deep:=O.rn;have Ro:=RM;obtain⟨RO,QQ,Rs,eg,hV⟩:=Id (QU.keep (w':=(wr.drewN q).drew) (λx h _=>QY.block x h)) nb (b.extract 0 y2) a' deep RC QD QD QD hu QD QD;obtain⟨rfl,rfl⟩:vf=RO/\QP=QQ.toArray:=by injection Rs with e1 _ e3;injection e1 with e1;exact⟨e1,e3⟩
   clear Rs
   have Q8:fY (b.extract 0 y2) a' (S.base f.ty)=match gp (b.extract 0 y2) a' (S.base f.ty)with| .error x=> .error x| .ok x=> .ok ((x.1,⟨#[]⟩),x.2):=by
    unfold fY;rw[dA Rz,dA RA]
    all_goals (cases gp (b.extract 0 y2) a' (S.base f.ty)<;>rfl)
   have Q9:=xS (k:=S.base f.ty) (F:=F2) (l:=l) (show y2<=b.size by omega) hlt
   have Q1:Hid (∀x,fY (b.extract 0 y2) a' (S.base f.ty)= .error x->oZ (S.base f.ty) b f.num m (.ok (y1,y2))= .error x):=λx hx=>by
    rw[HQ.out,O.eq.out,Q9];rw[Q8]at hx
    cases hn:gp (b.extract 0 y2) a' (S.base f.ty)with
    |error y=>rw[hn]at hx;cases hx;rfl
    |ok y=>rw[hn]at hx;cases hx
   have Rp:Hid (∀x,fY (b.extract 0 y2) a' (S.base f.ty)= .ok x->P=fy b (S.base f.ty) y2 F2 (l++ [oU x.1]) x.2):=λx hx=>by
    rw[O.eq.out,Q9];rw[Q8]at hx
    cases hn:gp (b.extract 0 y2) a' (S.base f.ty)with
    |error y=>rw[hn]at hx;cases hx
    |ok y=>rw[hn]at hx;cases hx;rfl
   clear Q8 Q9;have Ra:ed S (k+1) (some d) (wr.drewN q).drew Z' db (m.put f.num l):=O.dr.keep (λ_ _ _=>rfl)
   have hA:∀w5:an,∀v:LV,ed S (k+1) (some d) w5 Z' db (m.put f.num l)->Calls prog 268 #[ag db,aa f.num,tO v] w5 (jA S k (some d) w5 Z' db (m.put f.num (l++ [oU v]))):=λw5 v RP=>by
    have h1:=PM.put_len m f.num l;have h2:=BE QT.1 f.num l;have:=vI S k (some d) w5 Z' db (m.put f.num l) f.num v RP ok1 (.inl ok2) QD (by rw[h2];omega);rw[h2,Ek QT.1]at this;exact this
   obtain⟨Rv,Rh⟩:∃Rv,fY (b.extract 0 y2) a' (S.base f.ty)=Rv:=⟨_,rfl⟩
   have RD:Hid (∀x,Rv= .ok x->a'<x.2/\x.2<=y2):=λx hx=>by
    have:=BC hb (Rh.trans hx);rw[Rn]at this;exact⟨this.1,this.2.1⟩
   rw[Rh]at hV Q1 Rp;clear Rh;have QW:dK (wr.drewN q).drew ub #[aa f.num] 3:=h2.below QY QD;have QX:dK (wr.drewN q).drew vb #[.func (.func vf) #[] QQ.toArray] 478:=h3.below QY QD;have RE:dU (wr.drewN q).drew rb (b.extract 0 e) y2 deep:=O.rr;have Rq:el w Z rb (wr.drewN q).drew Z':=O.st.trans (.of_below (iE (Below.refl _ _) q).drew);have Rb:=O.zn;have Rc:=O.zz;have RF:¬Z' rb:=O.st.not Rl Q0;have HM:Hid (lr wr nb y2=y2-a'):=gU O.rn;have RG:Hid (y2-a'<=F2+1):=O.fu;have RH:Below B w wr:=Q3;clear O hM Q3;go_upto_region 4 with fail
   go_region_held2 (λW=>W.cell? (ai ub 0)=some (aa f.num)/\W.cell? (ai vb 0)=some (.func (.func vf) #[] QQ.toArray))
    (first|exact c6|exact c5|exact⟨QW.cell 0,QX.cell 0⟩)
    (first
     |(
       refine hV.mono ?_;intro en w5 RQ
       rcases RQ.part with⟨x,rfl,rfl,QS⟩|⟨x,rfl,rfl,QS,Rt⟩
       ·unfold dI;go_wp2;rw[Q1.out x rfl];exact⟨rfl,rfl,Z',Rq.keptN QS Ro⟩
       have c5:w5.cell? (ai ub 0)=some (aa f.num)/\w5.cell? (ai vb 0)=some (.func (.func vf) #[] QQ.toArray):=⟨(QW.kept QS QF).cell 0,(QX.kept QS QF).cell 0⟩)
     |(
       go_at_call 268;refine(hA w5 x.1 (el.dr Ra QS Rb)).mono ?_;rintro en w6 ⟨rfl,Z6,QZ,RT⟩
       have c6:w6.cell? (ai ub 0)=some (aa f.num)/\w6.cell? (ai vb 0)=some (.func (.func vf) #[] QQ.toArray):=⟨((QW.kept QS QF).step QZ (λq=>by have:=(Rc ub q).1;omega)).cell 0,((QX.kept QS QF).step QZ (λq=>by have:=(Rc vb q).1;omega)).cell 0⟩))
   all_goals
    have RI:=RD.out x rfl;have Rr:dU w6 nb (b.extract 0 y2) x.2 deep:=dK.step Rt QZ Rb;have RJ:=(Rq.keptN QS Ro).trans (.of_step QZ);have RK:dU w6 rb (b.extract 0 e) y2 deep:=dK.step (dK.kept RE QS (by simp;exact λe=>RN e.symm)) QZ RF;have Re:nb<w5.heap.size:=dK.lt Rt
    have PN:Nb S k d B w w6 Z (λi=>Z6 i/\i<w6.heap.size) rb nb db y1 y2 b (b.extract 0 e) deep (S.base f.ty) m f.num x.2 (l++ [oU x.1]) F2 P:=
     ⟨RJ.clip,Rr,RK,RT.clip,QD,RI.2,QF,Rp.out x rfl,by have:=RG.out;omega,λi q=>⟨(QZ.grow i q.1).elim (λe=>(Rc i e).1) (λe=>by have h8:wr.heap.size<=w5.heap.size:=QS.size;have:=RH.size;omega),q.2⟩,λq=>QZ.not Re Rb q.1⟩
    go_wp2;go_roundw
    case rel=>exact⟨_,_,_,_,PN⟩
    case measure=>rw[HM.out,gU Rr];omega
  ·have hd:decide (a'<y2)=false:=decide_eq_false hlt
   have HE:Hid (oZ (S.base f.ty) b f.num m (.ok (y1,y2))= .ok (m.put f.num l,y2)):=by
    show _=_;rw[HQ.out,O.eq.out]
    have:fy b (S.base f.ty) y2 F' l a'= .ok l:=by
     cases F' with
     |zero=>rfl
     |succ F'=>rw[fy,dA hlt]
    rw[this];rfl
   go_wp2;go_end0;rw[HE.out];exact⟨rfl,Z',O.st.trans (.of_below (iE (Below.refl _ _) q)),O.dr.keep (λ_ _ _=>rfl),O.rr⟩
end
end Go.Proofs.YtfebdimolnobaaaGreatDoor
