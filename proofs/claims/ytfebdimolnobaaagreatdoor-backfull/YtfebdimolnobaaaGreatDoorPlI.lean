import Derived.Test.YtfebdimolnobaaaGreatDoorEpA
import Derived.Test.YtfebdimolnobaaaGreatDoorItD
set_option maxRecDepth 100000
set_option maxHeartbeats 8000000
set_option linter.all false
namespace Go.Proofs.YtfebdimolnobaaaGreatDoor
open Go.RowKit Go.Proofs.Tryz
section
open Go.Maps
open VH
def LO (w:aw)(kp mk n:Nat)(pm:an):Prop:=dZ w kp #[.int .i32 0,.int .u32 0,.map (some mk)] 170/\gr w mk n pm
def Jc (w:aw):Calls prog 37 #[] w λe w'=>∃kp mk,e= .returned (ah kp)/\LO w' kp mk 0 (λ_=>none)/\w.heap.size<=kp/\w.heap.size<=mk/\mk≠kp/\ak w w':=by
 have a:= @run_makeMap prog;go_in
 go_wp2;go_ret;refine⟨_,_,rfl,⟨dZ.newAt Vw _ _,?_⟩,bH _,aE _,Vv,(Vt w _).alloc Vw _⟩;exact(gr.made w).O (Below.l _ _ _ Vw)
end
section
open VH
def Qi (c:PV->ap)(p:PV->Bool)(N f:Nat)(cap:ay)(W:aw):Prop:=
 ∀(W':aw) (Z:ax) (x:PV) (mv:Value) (k:Nat),Below N W W'->gV k W' Z mv x.2.2->pi k x.2.2->0<=x.1->x.1<2^64->p x=true->(c x).length<=2^47->
  Vq f (gj x mv::cap).toArray W' (ip (c x) W')
def O6 (c:List PV->ap)(p:PV->Bool)(N f:Nat)(cap:ay)(W:aw):Prop:=
 ∀(W':aw) (Z:ax) (vv:Value) (l:List PV) (k:Nat),Below N W W'->pS (gV k W' Z) W' Z vv l->Qh k l->(∀x∈l,p x=true)->(c l).length<=2^47->
  Vq f (vv::cap).toArray W' (ip (c l) W')
def Gj (S:eF)(iq:aC)(n:Nat)(t:MT)(N:Nat)(W:aw):Prop:=
 ∀(W':aw) (Z:ax) (v:Value) (m:PM) (k:Nat),Below N W W'->gV k W' Z v m->pi k m->d6 S n t m=true->(eI S n t m).length<=2^47->
  Vq 104 #[.pointer iq,.agg #[v,ag m.unk]] W' (ip (eI S n t m) W')
def yH {N:Nat}{a b c:aw}(h:Below N a b)(k:Below b.heap.size b c)(d:N<=a.heap.size):Below N a c:=h.J (eh k (aM d h.size))
section
variable {S:eF} {fl:fw} {n N:Nat} {W:aw}
def Ih {R:MT->PM->ap}{x:PV}{t:MT}(h:fB S fl=16)(a:fC S fl=some t):gp S R fl x=fI (R t x.2.2):=by unfold gp;rw[dR h,a]
def TY (ib:Nat)(iq:aC)(t:MT)(hN:N<=W.heap.size)(u:dZ W ib #[.pointer iq] 116)(z:ib<N)(H:Gj S iq n t N W)(h16:fB S fl=16)(a:fC S fl=some t):
  Qi (gp S (eI S n) fl) (eE S (d6 S n) fl) N 412 [ah ib] W:=by
 intro f Z x E k B i r F G A h;show Vq 412 #[gj x E,ah ib] f _;rw[Ih h16 a]at h⊢;have s:=uW A h16 a;have d:=aM (rk _) h;obtain⟨C,D,rfl⟩:=i.form;have⟨b,m⟩:=ec f (Vm x C D) 55;have c:=yH B b hN;have o:=u.G c z;have j:=H _ Z _ x.2.2 k c (i.G b (aE _)) r s d;have l:=λW=>uV W (eI S n t x.2.2) d
 unfold ip gj;generalize eI S n t x.2.2=y at*;have⟨I,J⟩:=m.I;have⟨K,L⟩:=o.I;go_enter func412,ntmps412;go_wp2_with fail;refine j.V ?_;rintro e w2 ⟨rfl,q⟩;go_wp2_with fail;refine(l w2).V ?_;rintro e w3 ⟨rfl,rfl⟩;go_wp2;go_ret;exact⟨rfl,dW b q⟩
def TZ (hk:fB S fl=13\/fB S fl=14):Qi (gp S (eI S n) fl) (eE S (d6 S n) fl) N 413 [] W:=by
 intro b Z x o k B j s q r t c;show Vq 413 #[gj x o] b _;have i:gp S (eI S n) fl x=fI x.2.1.data.toList:=by unfold gp;rw[dQ Vv,dR hk]
 rw[i]at c⊢;have h:=aM (rk _) c;obtain⟨l,m,rfl⟩:=j.form;have⟨d,f⟩:=ec b (Vm x l m) 55;have a:=λW=>uV W x.2.1.data.toList h
 rw[show x.2.1.data.toList.length=x.2.1.size by simp]at a;unfold ip gj;have⟨u,y⟩:=f.I;go_enter func413,ntmps413;go_wp2_with fail;refine(a _).V ?_;rintro e w3 ⟨rfl,rfl⟩;go_wp2;go_ret;exact⟨rfl,d⟩
def T0 (hk:fB S fl=4\/fB S fl=5):Qi (gp S (eI S n) fl) (eE S (d6 S n) fl) N 414 [] W:=by
 intro a Z x s k B o t b c y u;show Vq 414 #[gj x s] a _;have m:gp S (eI S n) fl x=vi (Cq x.1):=by unfold gp;rw[dQ Vv,dQ Vv,dQ Vv,dQ Vv,dR hk]
 rw[m];have⟨j,l⟩:=xd b c;obtain⟨q,r,rfl⟩:=o.form;have⟨d,i⟩:=ec a (Vm x q r) 55;have h:=λW=>tF W x.1 b c
 have f:=λW=>oY W (Cq x.1) j l
 unfold ip gj;have⟨z,A⟩:=i.I;go_enter func414,ntmps414;go_wp2_with fail;refine(h _).V ?_;rintro e w2 ⟨rfl,rfl⟩;go_wp2_with fail;refine(f _).V ?_;rintro e w3 ⟨rfl,rfl⟩;go_wp2;go_ret;exact⟨rfl,d⟩
def T3 (hk:fB S fl=7\/fB S fl=9\/fB S fl=11):Qi (gp S (eI S n) fl) (eE S (d6 S n) fl) N 415 [] W:=by
 intro a Z x h k B d l i j o m;show Vq 415 #[gj x h] a _;have c:gp S (eI S n) fl x=ph 4 x.1:=by unfold gp;rw[dQ Vv,dQ Vv,dR hk]
 obtain⟨e,f,rfl⟩:=d.form;have b:=(ec a (Vm x e f) 55).1;unfold ip gj;rw[c,iI];go_enter func415,ntmps415;go_wp2;go_ret;exact⟨rfl,b⟩
def T4 (hk:fB S fl=8\/fB S fl=10\/fB S fl=12):Qi (gp S (eI S n) fl) (eE S (d6 S n) fl) N 416 [] W:=by
 intro a Z x h k B d l i j o m;show Vq 416 #[gj x h] a _;have c:gp S (eI S n) fl x=ph 8 x.1:=by unfold gp;rw[dQ Vv,dQ Vv,dQ Vv,dR hk]
 obtain⟨e,f,rfl⟩:=d.form;have b:=(ec a (Vm x e f) 55).1;unfold ip gj;rw[c,iI];go_enter func416,ntmps416;go_wp2;go_ret;exact⟨rfl,b⟩
def T5 (hk:fB S fl<4\/fB S fl=6\/fB S fl=15):Qi (gp S (eI S n) fl) (eE S (d6 S n) fl) N 417 [] W:=by
 intro a Z x o k B j q f h s r;show Vq 417 #[gj x o] a _;have i:gp S (eI S n) fl x=vi x.1:=by unfold gp;rw[dQ Vv,dQ Vv,dQ Vv,dQ Vv,dQ Vv]
 rw[i];obtain⟨l,m,rfl⟩:=j.form;have⟨b,d⟩:=ec a (Vm x l m) 55;have c:=λW=>oY W x.1 f h
 unfold ip gj;have⟨t,u⟩:=d.I;go_enter func417,ntmps417;go_wp2_with fail;refine(c _).V ?_;rintro e w3 ⟨rfl,rfl⟩;go_wp2;go_ret;exact⟨rfl,b⟩
end
section
variable {bv:PV->ap} {p:PV->Bool} {N:Nat} {W:aw}
def SV (vb vf:Nat)(vcap:ay)(hN:N<=W.heap.size)(b:dZ W vb #[.func (.func vf) #[] vcap.toArray] 447)(e:vb<N)(a:∀args w,(callFunc vf args).run prog w= .ok (.enter vf args) w)(H:Qi bv p N vf vcap W):
  O6 (λl=>l.flatMap bv) p N 369 [ah vb] W:=by
 intro d Z a l k B D o C t;show Vq 369 #[a,ah vb] d (ip (l.flatMap bv) d);obtain⟨a,c,rfl⟩:=D.form;obtain⟨a,U,V⟩:=D;have z:=b.G B e;have a:=o.1
 have M:Hid (∀(m:aw) (x:PV) (q:Value),Below d.heap.size d m->x∈l->gV k d Z q x.2.2->Vq vf (gj x q::vcap).toArray m (ip (bv x) m)):=λm x q A b a=>
  H m Z x q k (yH B A hN) (a.G A (aE _)) (o.2 x b).2.2.2 (o.2 x b).1 (o.2 x b).2.1 (C x b) (aM (wZ b) t)
 have P:Hid (∀i,((l.take i).flatMap bv).length<=2^47):=λi=>aM (iX i) t
 clear t C o H;go_enter func369,ntmps369;go_wp2;go_loopw [4,6,9] (λsv _ u wr=>∃j:Nat,u=aa j/\j<=l.length/\sv=aa ((l.take j).flatMap bv).length/\Below d.heap.size d wr) (λ_ _ u _=>l.length-(intOf u).toNat)
 case atStart=>exact⟨0,rfl,aP _,rfl,Below.refl _ _⟩
 case round=>
  obtain⟨j,rfl,a,rfl,f⟩:=hrel;by_cases hlt:j<l.length
  .have⟨x,b⟩:=gx hlt;have⟨q,F,G,I,J,K⟩:=V.get b;obtain⟨c,d,rfl⟩:=F.form;obtain⟨a,rfl,E,r,h⟩:=U.at Vv;have a:=h wr (f.block _ r) _ _ G;have a:=lK (h wr (f.block _ r) _ _ I);have a:=lK (h wr (f.block _ r) _ _ J);have a:=lK (h wr (f.block _ r) _ _ K);have a:(j:Int)<(l.length:Int):=Vv;have⟨L,R⟩:=ec wr (Vm x c d) 55;have s:=dW f L;have y:=M.o _ x _ s (aL b) F;unfold gj at y;have T:=z.G s z.lt;have Y:=P.o (j+1);rw[gi b,aN]at Y;have O:Hid (((l.take (j+1)).flatMap bv).length=((l.take j).flatMap bv).length+(bv x).length):=(by show((l.take (j+1)).flatMap bv).length=_;rw[gi b,aN]);generalize((l.take j).flatMap bv).length=sz at*;have⟨a,c⟩:=T.I;have⟨a,c⟩:=R.I;clear h G I J K b;go_wp2_with fail;refine y.V ?_;rintro e w3 ⟨rfl,X⟩;generalize(bv x).length=yz at*;have a:(sz:Int)+(yz:Int)<=2^47:=Vv;go_wp2;go_roundw
   case rel=>exact⟨j+1,by go_num,Vv,by rw[O.o];go_num,dW s X⟩
   case measure=>simp[intOf];omega
  .obtain rfl:j=l.length:=Vv;rw[bB];go_wp2;go_ret;exact⟨rfl,f⟩
def Mh {c:List PV->ap}(tb ab af:Nat)(acap:ay)(tg:ap)(A:dZ W tb #[aa tg.length] 3)(s:dZ W ab #[.func (.func af) #[] acap.toArray] 262)(u:tb<N)(x:ab<N)(t:∀args w,(callFunc af args).run prog w= .ok (.enter af args) w)(H:O6 c p N af acap W):
  O6 (λl=>tg++fI (c l)) p N 290 [ah tb,ah ab] W:=by
 intro a Z C l k B i q z G;show Vq 290 #[C,ah tb,ah ab] a (ip (tg++fI (c l)) a);have F:tg.length+(fI (c l)).length<=2^47:=(by grind);have D:=rk (c l);obtain⟨I,J,rfl⟩:=i.form;have h:Below a.heap.size a a.drew:=(Below.refl _ _).drew;have b:=A.G B u;have d:=s.G B x;have m:=H a.drew Z _ l k B.drew (pS.G h (aE _) i) q z Vv;have j:=λW=>uV W (c l) Vv
 unfold ip;rw[aN];have E:IntKind.i64.wrap ((tg.length:Int)+((fI (c l)).length:Int))=(tg.length:Int)+((fI (c l)).length:Int):=yG Vv Vv;have r:a.drew.cell? (aj tb 0)=some (aa tg.length)/\a.drew.cell? (aj ab 0)=some (.func (.func af) #[] acap.toArray):=⟨b.drew.cell 0,d.drew.cell 0⟩;generalize tg.length=tl at*;generalize fI (c l)=y at*;go_enter func290,ntmps290;go_upto_region 1 with fail
 go_region_held2 (λW=>W.cell? (aj tb 0)=some (aa tl)/\W.cell? (aj ab 0)=some (.func (.func af) #[] acap.toArray))
  (first|exact o|exact r)
  (first
   |(
     go_at_call 243;refine(j _).V ?_
     rintro e K ⟨rfl,rfl⟩)
   |(
     refine m.V ?_;rintro e w3 ⟨rfl,f⟩
     have o:w3.cell? (aj tb 0)=some (aa tl)/\w3.cell? (aj ab 0)=some (.func (.func af) #[] acap.toArray):=⟨(b.drew.G f b.drew.lt).cell 0,(d.drew.G f d.drew.lt).cell 0⟩))
 all_goals
  go_wp2;go_ret;exact⟨VB,dW h f⟩
def O7 (tb ab af:Nat)(acap:ay)(tg:ap)(A:dZ W tb #[aa tg.length] 3)(r:dZ W ab #[.func (.func af) #[] acap.toArray] 262)(t:tb<N)(u:ab<N)(s:∀args w,(callFunc af args).run prog w= .ok (.enter af args) w)(H:O6 (λl=>l.flatMap bv) p N af acap W):
  O6 (λl=>l.flatMap λv=>tg++bv v) p N 291 [ah tb,ah ab] W:=by
 intro a Z D l k B j o z x;show Vq 291 #[D,ah tb,ah ab] a (ip (l.flatMap λv=>tg++bv v) a)
 have F:tg.length*l.length+(l.flatMap bv).length<=2^47:=by
  have:=x;simp only at this
  rwa [tJ]at this
 obtain⟨G,I,rfl⟩:=j.form;have h:Below a.heap.size a a.drew:=(Below.refl _ _).drew;have b:=A.G B t;have c:=r.G B u;have f:=H a.drew Z _ l k B.drew (pS.G h (aE _) j) o z (show(l.flatMap bv).length<=_ by omega);unfold ip;rw[tJ];have i:(tg.length:Int)*(l.length:Int)=((tg.length*l.length:Nat):Int):=by rw[Int.natCast_mul]
 have q:a.drew.cell? (aj tb 0)=some (aa tg.length)/\a.drew.cell? (aj ab 0)=some (.func (.func af) #[] acap.toArray):=⟨b.drew.cell 0,c.drew.cell 0⟩;generalize tg.length*l.length=pl at*;generalize tg.length=tl at*;change Vq af _ _ (ip (l.flatMap bv) a.drew)at f;generalize l.flatMap bv=y at*;have C:IntKind.i64.wrap (pl:Int)=pl:=yG Vv Vv;have E:IntKind.i64.wrap ((pl:Int)+(y.length:Int))=(pl:Int)+(y.length:Int):=yG Vv Vv;go_enter func291,ntmps291;go_upto_region 1 with fail
 go_region_held2 (λW=>W.cell? (aj tb 0)=some (aa tl)/\W.cell? (aj ab 0)=some (.func (.func af) #[] acap.toArray))
  (first|exact m|exact q)
  (first
   |(
     refine f.V ?_;rintro e w3 ⟨rfl,d⟩
     have m:w3.cell? (aj tb 0)=some (aa tl)/\w3.cell? (aj ab 0)=some (.func (.func af) #[] acap.toArray):=⟨(b.drew.G d b.drew.lt).cell 0,(c.drew.G d c.drew.lt).cell 0⟩))
 all_goals
  go_wp2;go_ret;exact⟨VB,dW h d⟩
end
def SW (w:aw)(Q:ax)(b:Nat)(iq:aC)(v:Value):Prop:=
 ∃f cap,Me v f cap/\∀(S:eF) (fl:fw) (n N:Nat) (W:aw),Kp Q w W->(∀b,Q b->b<w.heap.size->b<N)->N<=W.heap.size->fB S fl=b->(fB S fl=16->∃t,fC S fl=some t/\Gj S iq n t N W)->Qi (gp S (eI S n) fl) (eE S (d6 S n) fl) N f cap W
def vM (w:aw)(Q:ax)(b:Nat)(iq:aC)(v:Value):Prop:=
 ∃f cap,Me v f cap/\∀(S:eF) (fl:fw) (n N:Nat) (W:aw),Kp Q w W->(∀b,Q b->b<w.heap.size->b<N)->N<=W.heap.size->fB S fl=b->(fB S fl=16->∃t,fC S fl=some t/\Gj S iq n t N W)->O6 (nH S (eI S n) fl) (eE S (d6 S n) fl) N f cap W
def Gk (w:aw)(Q:ax)(mp:an)(g:GF)(iq:aC)(v:Value):Prop:=
 ∃f cap,Me v f cap/\∀(S:eF) (d:MT) (fl:fw) (n N:Nat) (W:aw),Kp Q w W->(∀b,Q b->b<w.heap.size->b<N)->N<=W.heap.size->FG S mp d fl g->(0<=fl.num/\fl.num<=536870911)->(fB S fl=16->∃t,fC S fl=some t/\Gj S iq n t N W)->O6 (kN S (eI S n) fl) (eE S (d6 S n) fl) N f cap W
section
variable {w w':aw} {Q Q':ax} {mp:an} {g:GF} {iq:aC} {v:Value} (hk:Mv w Q w' Q')
include hk
def vM.mV {b:Nat}(h:vM w Q b iq v):vM w' Q' b iq v:=by
 obtain⟨f,a,c,d⟩:=h;exact⟨f,a,c,λS fl n N W q e=>d S fl n N W (q.mv hk) λb x l=>e b (hk b x l).1 (hk.lt x l)⟩
def Gk.mV (h:Gk w Q mp g iq v):Gk w' Q' mp g iq v:=by
 obtain⟨f,a,c,e⟩:=h;exact⟨f,a,c,λS d fl n N W q i=>e S d fl n N W (q.mv hk) λb x l=>i b (hk b x l).1 (hk.lt x l)⟩
end
def Pc (c:PV->ap)(p:PV->Bool)(N f:Nat)(cap:ay)(W:aw):Prop:=
 ∀(W':aw) (Z:ax) (x:PV) (mv:Value) (k b:Nat) (l0:ap),Below N W W'->gV k W' Z mv x.2.2->(∀i,Z i->i<N)->pi k x.2.2->0<=x.1->x.1<2^64->p x=true->fJ W' N b (eG b) l0->l0.length+(c x).length<=2^47->
  Vq f (gj x mv::eG b::cap).toArray W' (ja N b l0 (c x) W')
def TB (c:List PV->ap)(p:PV->Bool)(N f:Nat)(cap:ay)(W:aw):Prop:=
 ∀(W':aw) (Z:ax) (vv:Value) (l:List PV) (k b:Nat) (l0:ap),Below N W W'->pS (gV k W' Z) W' Z vv l->(∀i,Z i->i<N)->Qh k l->(∀x∈l,p x=true)->fJ W' N b (eG b) l0->l0.length+(c l).length<=2^47->
  Vq f (vv::eG b::cap).toArray W' (ja N b l0 (c l) W')
def Ri (S:eF)(iq:aC)(n:Nat)(t:MT)(N:Nat)(W:aw):Prop:=
 ∀(W':aw) (Z:ax) (v:Value) (m:PM) (k b:Nat) (l0:ap),Below N W W'->gV k W' Z v m->(∀i,Z i->i<N)->pi k m->d6 S n t m=true->fJ W' N b (eG b) l0->l0.length+(eI S n t m).length<=2^47->
  Vq 99 #[.pointer iq,.agg #[v,ag m.unk],eG b] W' (ja N b l0 (eI S n t m) W')
section
variable {S:eF} {fl:fw} {n N:Nat} {W:aw}
def T6 (ib:Nat)(iq:aC)(t:MT)(hN:N<=W.heap.size)(Y:dZ W ib #[.pointer iq] 116)(hi:ib<N)(H:Gj S iq n t N W)(L:Ri S iq n t N W)(h16:fB S fl=16)(a:fC S fl=some t):
  Pc (gp S (eI S n) fl) (eE S (d6 S n) fl) N 371 [ah ib] W:=by
 intro h Z x mv k b l0 B q E D h0 h1 hp X o;show Vq 371 #[gj x mv,eG b,ah ib] h _;rw[Ih h16 a]at o⊢;have m:=uW hp h16 a;unfold fI at o;rw[aN]at o;obtain⟨r,s,rfl⟩:=q.form;have⟨f,j⟩:=ec h (Vm x r s) 55;have R:=aM hN B.size;have z:=yH B f hN;have l:=Y.G z hi;have M:=H _ Z _ x.2.2 k z (q.G f (aE _)) D m Vv
 have O:Hid (∀(c:aw) (d:ap),Below N h c->fJ c N b (eG b) d->d.length+(eI S n t x.2.2).length<=2^47->Vq 99 #[.pointer iq,.agg #[.slice r x.2.2.fs.length s,ag x.2.2.unk],eG b] c (ja N b d (eI S n t x.2.2) c)):=λc d C hw T=>
  L c Z _ x.2.2 k b d (B.J C) (q.under C E) E D m hw T
 have U:=X.on f;unfold gj;generalize eI S n t x.2.2=y at*;have⟨F,G⟩:=j.I;have⟨I,J⟩:=l.I;clear m;go_enter func371,ntmps371;go_wp2_with fail;generalize h.alloc (Obj.cells (Vm x r s) 55)=w1 at*;refine M.V ?_;rintro e w2 ⟨rfl,i⟩;have A:=dW f i;have VW:=A.size;go_wp2_with fail;refine(qC y.length (U.on i) Vv Vv Vv).V ?_;rintro e w3 ⟨rfl,q1,u⟩;have V:=u.fr _ _ _ Vy Vy (j.G i j.lt);have P:=u.fr _ _ _ Vy Vy (l.G i l.lt);have Q:=(Wr.of A R).J u;clear F G I J;have⟨F,G⟩:=V.I;have⟨I,J⟩:=P.I;go_wp2_with fail;refine(O.o w3 _ Q.bel q1 (by grind)).V ?_;rintro e w4 ⟨rfl,K,r2⟩;go_wp2;go_end0;exact⟨rfl,by rw[bj]at K;exact K,Q.J r2⟩
def T7 (hN:N<=W.heap.size)(hk:fB S fl=13\/fB S fl=14):Pc (gp S (eI S n) fl) (eE S (d6 S n) fl) N 372 [] W:=by
 intro d Z x r k b F B m A z u y C j f;show Vq 372 #[gj x r,eG b] d _;have l:gp S (eI S n) fl x=fI x.2.1.data.toList:=by unfold gp;rw[dQ Vv,dR hk]
 rw[l]at f⊢;obtain⟨o,q,rfl⟩:=m.form;have⟨a,i⟩:=ec d (Vm x o q) 55;have c:=aM hN B.size;have h:=Ib _ (j.on a) f (aM c a.size);unfold gj;have⟨D,E⟩:=i.I;go_enter func372,ntmps372;go_wp2_with fail;refine h.V ?_;rintro e w2 ⟨rfl,s,t⟩;go_wp2;go_end0;exact⟨rfl,s,(Wr.of a c).J t⟩
def T8 (hN:N<=W.heap.size)(hk:fB S fl=4\/fB S fl=5):Pc (gp S (eI S n) fl) (eE S (d6 S n) fl) N 373 [] W:=by
 intro d Z x z k b I B t E D f h F r i;show Vq 373 #[gj x z,eG b] d _;have s:gp S (eI S n) fl x=vi (Cq x.1):=by unfold gp;rw[dQ Vv,dQ Vv,dQ Vv,dQ Vv,dR hk]
 rw[s]at i⊢;have⟨o,q⟩:=xd f h;obtain⟨u,y,rfl⟩:=t.form;have⟨a,m⟩:=ec d (Vm x u y) 55;have c:=aM hN B.size;have l:=λW=>tF W x.1 f h
 have j:=oX _ (r.on a) o q i (aM c a.size);unfold gj;have⟨G,H⟩:=m.I;go_enter func373,ntmps373;go_wp2_with fail;refine(l _).V ?_;rintro e w2 ⟨rfl,rfl⟩;go_wp2_with fail;refine j.V ?_;rintro e w2 ⟨rfl,A,C⟩;go_wp2;go_end0;exact⟨rfl,A,(Wr.of a c).J C⟩
def T9 (hN:N<=W.heap.size)(hk:fB S fl=7\/fB S fl=9\/fB S fl=11):Pc (gp S (eI S n) fl) (eE S (d6 S n) fl) N 374 [] W:=by
 intro d Z x t k b F B q A z j l C m f;show Vq 374 #[gj x t,eG b] d _;have o:gp S (eI S n) fl x=ph 4 x.1:=by unfold gp;rw[dQ Vv,dQ Vv,dR hk]
 rw[o]at f⊢;obtain⟨r,s,rfl⟩:=q.form;have⟨a,i⟩:=ec d (Vm x r s) 55;have c:=aM hN B.size;have h:=L2 _ (m.on a) j l f (aM c a.size);unfold gj;have⟨D,E⟩:=i.I;go_enter func374,ntmps374;go_wp2_with fail;refine h.V ?_;rintro e w2 ⟨rfl,u,y⟩;go_wp2;go_end0;exact⟨rfl,u,(Wr.of a c).J y⟩
def Ua (hN:N<=W.heap.size)(hk:fB S fl=8\/fB S fl=10\/fB S fl=12):Pc (gp S (eI S n) fl) (eE S (d6 S n) fl) N 375 [] W:=by
 intro d Z x t k b F B q A z j l C m f;show Vq 375 #[gj x t,eG b] d _;have o:gp S (eI S n) fl x=ph 8 x.1:=by unfold gp;rw[dQ Vv,dQ Vv,dQ Vv,dR hk]
 rw[o]at f⊢;obtain⟨r,s,rfl⟩:=q.form;have⟨a,i⟩:=ec d (Vm x r s) 55;have c:=aM hN B.size;have h:=Ia _ (m.on a) j l f (aM c a.size);unfold gj;have⟨D,E⟩:=i.I;go_enter func375,ntmps375;go_wp2_with fail;refine h.V ?_;rintro e w2 ⟨rfl,u,y⟩;go_wp2;go_end0;exact⟨rfl,u,(Wr.of a c).J y⟩
def Ub (hN:N<=W.heap.size)(hk:fB S fl<4\/fB S fl=6\/fB S fl=15):Pc (gp S (eI S n) fl) (eE S (d6 S n) fl) N 376 [] W:=by
 intro d Z x t k b F B q A z j l C m f;show Vq 376 #[gj x t,eG b] d _;have o:gp S (eI S n) fl x=vi x.1:=by unfold gp;rw[dQ Vv,dQ Vv,dQ Vv,dQ Vv,dQ Vv]
 rw[o]at f⊢;obtain⟨r,s,rfl⟩:=q.form;have⟨a,i⟩:=ec d (Vm x r s) 55;have c:=aM hN B.size;have h:=oX _ (m.on a) j l f (aM c a.size);unfold gj;have⟨D,E⟩:=i.I;go_enter func376,ntmps376;go_wp2_with fail;refine h.V ?_;rintro e w2 ⟨rfl,u,y⟩;go_wp2;go_end0;exact⟨rfl,u,(Wr.of a c).J y⟩
end
section
variable {bv:PV->ap} {p:PV->Bool} {N:Nat} {W:aw}
def Pd (tb vb vf:Nat)(vcap:ay)(nu kd:Int)(hN:N<=W.heap.size)(ht:dZ W tb #[aa nu,aa kd] 237)(L:dZ W vb #[.func (.func vf) #[] vcap.toArray] 404)(hi:tb<N)(T:vb<N)(K:0<=nu/\nu<=536870911)(q:0<=kd/\kd<8)(hen:∀args w,(callFunc vf args).run prog w= .ok (.enter vf args) w)(H:Pc bv p N vf vcap W):
  TB (λl=>l.flatMap λv=>fH nu kd++bv v) p N 294 [ah tb,ah vb] W:=by
 intro s Z vv l k b m B V F t U hW G;show Vq 294 #[vv,eG b,ah tb,ah vb] s (ja N b m (l.flatMap λv=>fH nu kd++bv v) s);obtain⟨a,c,rfl⟩:=V.form;obtain⟨Wh,VT,VU⟩:=V;have VJ:=aM hN B.size;have VQ:=ht.G B hi;have VR:=L.G B T;have V7:=t.1;obtain⟨f,D⟩:∃f:PV->ap,f=λx=>fH nu kd++bv x:=⟨_,rfl⟩
 have O:Hid (∀x,f x=fH nu kd++bv x):=λx=>by rw[D]
 change m.length+(l.flatMap λv=>fH nu kd++bv v).length<=_ at G;rw[<-D]at G⊢
 have HA:Hid (∀j,m.length+((l.take j).flatMap f).length<=2^47):=λj=>by
  have:=iX (g:=f) (l:=l) j;omega
 have HE:Hid (∀(d:aw) (i:ap),fJ d N b (eG b) i->i.length+(fH nu kd).length<=2^47->N<=d.heap.size->Vq 230 #[eG b,.agg #[aa nu,aa kd]] d (ja N b i (fH nu kd) d)):=λd i I A z=>L6 nu kd K.1 K.2 q.1 q.2 I A z
 have HX:Hid (∀(d:aw) (x:PV) (u:Value) (i:ap),Below N s d->x∈l->gV k s Z u x.2.2->fJ d N b (eG b) i->i.length+(bv x).length<=2^47->Vq vf (gj x u::eG b::vcap).toArray d (ja N b i (bv x) d)):=λd x u i z h hm I A=>
  H d Z x u k b i (B.J z) (hm.under z F) F (t.2 x h).2.2.2 (t.2 x h).1 (t.2 x h).2.1 (U x h) I A
 generalize fH nu kd=tg at*;clear D G U H t K q;go_enter func294,ntmps294;go_wp2;go_loopw [7,10] (λ_ J wr=>∃j:Nat,J=aa j/\j<=l.length/\fJ wr N b (eG b) (m++(l.take j).flatMap f)/\Wr N s wr) (λ_ J _=>l.length-(intOf J).toNat)
 case atStart=>exact⟨0,rfl,aP _,by grind,Wr.refl _ _⟩
 case round=>
  obtain⟨j,rfl,T,C,y⟩:=hrel;have hsz:=y.bel.size;by_cases hlt:j<l.length
  .have⟨x,h⟩:=gx hlt;have⟨u,p1,p2,p3,p4,p5⟩:=VU.get h;obtain⟨ma,mc,rfl⟩:=p1.form;obtain⟨gv,rfl,VM,Wk,o⟩:=VT.at Vv;have r:=y.bel.block _ (F _ VM);have t0:=o wr r _ _ p2;have t1:=lK (o wr r _ _ p3);have t2:=lK (o wr r _ _ p4);have t3:=lK (o wr r _ _ p5);have V8:(j:Int)<(l.length:Int):=Vv;have⟨M,K1⟩:=ec wr (Vm x ma mc) 55;have d:=y.J (Wr.of M Vv);have V9:=C.on M;have R:=HA.o (j+1);rw[gi h,O.o]at R;have HL:Hid (m++(l.take (j+1)).flatMap f=m++(l.take j).flatMap f++tg++bv x):=(by show m++(l.take (j+1)).flatMap f=_;rw[gi h,O.o];grind);have VX:(m++(l.take j).flatMap f).length+tg.length+(bv x).length<=2^47:=(by grind);have VS:=aL h;have VW:=d.bel.size;have Wb:=HE.o _ _ V9 Vv Vv;have T2:=d.fr _ _ _ Vy Vy VQ;generalize m++(l.take j).flatMap f=lj at*;have⟨X,Y⟩:=T2.I;clear o p2 p3 p4 p5 h R r;go_wp2_with fail;generalize wr.alloc (Obj.cells (Vm x ma mc) 55)=w2 at*;refine Wb.V ?_;rintro e w3 ⟨rfl,q1,q2⟩;have E:=d.J q2;have K3:=q2.fr _ _ _ Vy Vy K1;have V3:=E.fr _ _ _ Vy Vy VR;have P:=HX.o w3 x _ _ E.bel VS p1 q1 (by grind);unfold gj at P;clear X Y;have⟨X,Y⟩:=K3.I;have⟨k3,k4⟩:=V3.I;go_wp2_with fail;refine P.V ?_;rintro e w4 ⟨rfl,r1,r2⟩;go_wp2;go_roundw
   case rel=>exact⟨j+1,by go_num,Vv,by rw[HL.o];exact r1,E.J r2⟩
   case measure=>simp[intOf];omega
  .obtain rfl:j=l.length:=Vv;rw[bB]at C;go_wp2;go_end0;exact⟨rfl,C,y⟩
def Mi (tb ab af vb vf:Nat)(acap vcap:ay)(nu kd:Int)(hN:N<=W.heap.size)(ht:dZ W tb #[aa nu,aa kd] 237)(K:dZ W ab #[.func (.func af) #[] acap.toArray] 262)(P:dZ W vb #[.func (.func vf) #[] vcap.toArray] 404)(hi:tb<N)(L:ab<N)(hj:vb<N)(M:0<=nu/\nu<=536870911)(h:0<=kd/\kd<8)
  (hen:∀args w,(callFunc vf args).run prog w= .ok (.enter vf args) w) (hea:∀args w,(callFunc af args).run prog w= .ok (.enter af args) w) (H:Pc bv p N vf vcap W) (q:O6 (λl=>l.flatMap bv) p N af acap W):
  TB (λl=>fH nu kd++fI (l.flatMap bv)) p N 370 [ah tb,ah ab,ah vb] W:=by
 intro m Z vv l k b i B O E o J hW F;show Vq 370 #[vv,eG b,ah tb,ah ab,ah vb] m (ja N b i (fH nu kd++fI (l.flatMap bv)) m);change i.length+(fH nu kd++fI (l.flatMap bv)).length<=_ at F;obtain⟨a,c,rfl⟩:=O.form;have VJ:=aM hN B.size;have VQ:=ht.G B hi;have Wd:=K.G B L;have VR:=P.G B hj;have V7:=o.1;unfold fI at F⊢;simp only[aN]at F;have V:Hid (∀j,((l.take j).flatMap bv).length<=(l.flatMap bv).length):=λj=>iX (g:=bv) (l:=l) j
 have X:=L6 nu kd M.1 M.2 h.1 h.2 hW Vv VJ
 have Y:Hid (∀d,Below N m d->Vq af (.slice a l.length c::acap).toArray d (ip (l.flatMap bv) d)):=λd u=>
  q d Z _ l k (B.J u) (O.under u E) o J (show(l.flatMap bv).length<=_ by omega)
 have HX:Hid (∀(d:aw) (x:PV) (A:Value) (z:ap),Below N m d->x∈l->gV k m Z A x.2.2->fJ d N b (eG b) z->z.length+(bv x).length<=2^47->Vq vf (gj x A::eG b::vcap).toArray d (ja N b z (bv x) d)):=λd x A z u f hm hw VL=>
  H d Z x A k b z (B.J u) (hm.under u E) E (o.2 x f).2.2.2 (o.2 x f).1 (o.2 x f).2.1 (J x f) hw VL
 obtain⟨Wh,VT,VU⟩:=O;obtain⟨y,HY⟩:∃y,Hid (l.flatMap bv=y):=⟨_,rfl⟩;rw[HY.o]at F V Y⊢;generalize fH nu kd=tg at*;clear J H q o M h;have⟨G,I⟩:=VQ.I;go_enter func370,ntmps370;go_wp2_with fail;refine X.V ?_;rintro e w1 ⟨rfl,q1,t⟩;have T:=t.fr _ _ _ Vy Vy Wd;clear G I;have⟨G,I⟩:=T.I;go_wp2_with fail;refine(Y.o w1 t.bel).V ?_;rintro e w2 ⟨rfl,D⟩;have hs1:=t.bel.size;have VW:=D.size;go_wp2_with fail;refine(qC y.length (q1.on D) Vv (by grind) Vv).V ?_;rintro e w3 ⟨rfl,r1,r2⟩;have W3:=(t.J (Wr.of D Vv)).J r2;have hlen:(i++tg++vi (y.length)).length+y.length<=2^47:=(by grind);have HF:Hid (i++(tg++(vi (y.length)++y))=i++tg++vi (y.length)++y):=(by show i++(tg++(vi (y.length)++y))=_;grind);generalize i++tg++vi (y.length)=lh at*;clear G I T q1 r2 t X D;go_wp2;go_loopw [8,19] (λ_ R wr=>∃j:Nat,R=aa j/\j<=l.length/\fJ wr N b (eG b) (lh++(l.take j).flatMap bv)/\Wr N m wr) (λ_ R _=>l.length-(intOf R).toNat)
 case atStart=>grind
 case round=>
  obtain⟨j,rfl,hj,VN,C⟩:=hrel;have hsz:=C.bel.size;by_cases hlt:j<l.length
  .have⟨x,f⟩:=gx hlt;have⟨A,p1,p2,p3,p4,p5⟩:=VU.get f;obtain⟨ma,mc,rfl⟩:=p1.form;obtain⟨gv,rfl,VM,Wk,r⟩:=VT.at Vv;have s:=C.bel.block _ (E _ VM);have t0:=r wr s _ _ p2;have t1:=lK (r wr s _ _ p3);have t2:=lK (r wr s _ _ p4);have t3:=lK (r wr s _ _ p5);have V8:(j:Int)<(l.length:Int):=Vv;have⟨U,K1⟩:=ec wr (Vm x ma mc) 55;have d:=C.J (Wr.of U Vv);have hA:=V.o (j+1);rw[gi f,aN]at hA;have HL:Hid (lh++(l.take (j+1)).flatMap bv=lh++(l.take j).flatMap bv++bv x):=(by show lh++(l.take (j+1)).flatMap bv=_;rw[gi f,bj]);have VX:(lh++(l.take j).flatMap bv).length+(bv x).length<=2^47:=(by grind);have VO:=HX.o _ x _ _ d.bel (aL f) p1 (VN.on U) VX;unfold gj at VO;have V2:=d.fr _ _ _ Vy Vy VR;generalize lh++(l.take j).flatMap bv=lj at*;have⟨G,I⟩:=K1.I;have⟨k3,k4⟩:=V2.I;clear r p2 p3 p4 p5 f hA s;go_wp2_with fail;refine VO.V ?_;rintro e w4 ⟨rfl,s1,s2⟩;go_wp2;go_roundw
   case rel=>exact⟨j+1,by go_num,Vv,by rw[HL.o];exact s1,d.J s2⟩
   case measure=>simp[intOf];omega
  .obtain rfl:j=l.length:=Vv;rw[bB,HY.o]at VN;go_wp2;go_end0;exact⟨rfl,by rw[HF.o];omega,C⟩
end
def vN (w:aw)(Q:ax)(b:Nat)(iq:aC)(v:Value):Prop:=
 ∃f cap,Me v f cap/\∀(S:eF) (fl:fw) (n N:Nat) (W:aw),Kp Q w W->(∀b,Q b->b<w.heap.size->b<N)->N<=W.heap.size->fB S fl=b->(fB S fl=16->∃t,fC S fl=some t/\Gj S iq n t N W/\Ri S iq n t N W)->Pc (gp S (eI S n) fl) (eE S (d6 S n) fl) N f cap W
def Ey (w:aw)(Q:ax)(mp:an)(g:GF)(iq:aC)(v:Value):Prop:=
 ∃f cap,Me v f cap/\∀(S:eF) (d:MT) (fl:fw) (n N:Nat) (W:aw),Kp Q w W->(∀b,Q b->b<w.heap.size->b<N)->N<=W.heap.size->FG S mp d fl g->(0<=fl.num/\fl.num<=536870911)->(fB S fl=16->∃t,fC S fl=some t/\Gj S iq n t N W/\Ri S iq n t N W)->TB (kN S (eI S n) fl) (eE S (d6 S n) fl) N f cap W
section
variable {w w':aw} {Q Q':ax} {mp:an} {g:GF} {iq:aC} {v:Value} (hk:Mv w Q w' Q')
include hk
def vN.mV {b:Nat}(h:vN w Q b iq v):vN w' Q' b iq v:=by
 obtain⟨f,a,c,d⟩:=h;exact⟨f,a,c,λS fl n N W q e=>d S fl n N W (q.mv hk) λb x l=>e b (hk b x l).1 (hk.lt x l)⟩
def Ey.mV (h:Ey w Q mp g iq v):Ey w' Q' mp g iq v:=by
 obtain⟨f,a,c,e⟩:=h;exact⟨f,a,c,λS d fl n N W q i=>e S d fl n N W (q.mv hk) λb x l=>i b (hk b x l).1 (hk.lt x l)⟩
end
end
def mq (form:Int):Nat:=if form=0 then 193 else if form=2 then 268 else 195
def jN (form:Int):Nat:=if form=2 then 190 else 191
def Jm (v:Value):Prop:=∃f cap,v= .func (.func f) #[] cap
def Rj (w:World)(Q:Nat->Prop)(mp:ByteArray->Option Nat)(g:GF)(v:Value):Prop:=
 ∃pb nb vb vv,v= .func (.func 422) #[] #[.pointer (some ⟨pb,0,none⟩),.pointer (some ⟨nb,0,none⟩),.pointer (some ⟨vb,0,none⟩)]/\dZ w pb #[Dk (mq g.form)] 480/\dZ w nb #[.int .i64 g.f.num] 3/\dZ w vb #[vv] 478/\nG w Q (jC mp g.f.ty) vv/\Q pb/\Q nb/\Q vb
def Pe (w:World)(Q:Nat->Prop)(mp:ByteArray->Option Nat)(g:GF)(v:Value):Prop:=
 ∃ab nb vb vv,v= .func (.func 421) #[] #[.pointer (some ⟨ab,0,none⟩),.pointer (some ⟨nb,0,none⟩),.pointer (some ⟨vb,0,none⟩)]/\dZ w ab #[.int .i64 (eM (jC mp g.f.ty))] 235/\dZ w nb #[.int .i64 g.f.num] 3/\dZ w vb #[vv] 478/\nG w Q (jC mp g.f.ty) vv/\Q ab/\Q nb/\Q vb
def Rk (w:World)(Q:Nat->Prop)(mp pm:ByteArray->Option Nat)(g:GF)(v:Value):Prop:=
 ∃ib lb pb nb p,v= .func (.func 419) #[] #[.pointer (some ⟨ib,0,none⟩),.pointer (some ⟨lb,0,none⟩),.pointer (some ⟨pb,0,none⟩),.pointer (some ⟨nb,0,none⟩)]/\dZ w ib #[.pointer (some ⟨p,0,none⟩)] 116/\dZ w lb #[.int .i64 (ly mp g)] 3/\dZ w pb #[Dk (jN g.form)] 477/\dZ w nb #[.int .i64 g.f.num] 3/\pm g.f.ty=some p/\Q ib/\Q lb/\Q pb/\Q nb
def Qj (w:World)(Q:Nat->Prop)(mp:ByteArray->Option Nat)(A:Nat->Prop)(g:GF)(v:Value):Prop:=
 ∃ib lb nb sb p,v= .func (.func 418) #[] #[.pointer (some ⟨ib,0,none⟩),.pointer (some ⟨lb,0,none⟩),.pointer (some ⟨nb,0,none⟩),.pointer (some ⟨sb,0,none⟩)]/\dZ w ib #[.pointer (some ⟨p,0,none⟩)] 116/\dZ w lb #[.int .i64 (ly mp g)] 3/\dZ w nb #[.int .i64 g.f.num] 3/\dZ w sb #[.bool (iM (jC mp g.f.key))] 4/\A p/\Q ib/\Q lb/\Q nb/\Q sb
def Dm (w:World)(Q:Nat->Prop)(mp pm:ByteArray->Option Nat)(g:GF)(v:Value):Prop:=
 if jC mp g.f.ty=16 then Rk w Q mp pm g v else if iw mp g=true then Pe w Q mp g v else Rj w Q mp g v
def xf (w:World)(Q:Nat->Prop)(R:GF->Value->Prop)(g:GF)(v:Value):Prop:=
 if g.riv= []then R g v else∃vb rb rv u,v= .func (.func 296) #[] #[.pointer (some ⟨vb,0,none⟩),.pointer (some ⟨rb,0,none⟩)]/\dZ w vb #[rv] 35/\eP w Q 3 1 rv g.riv.length (gE g.riv)/\dZ w rb #[u] 266/\Q vb/\Q rb/\R g u
def NS (mp pm:ByteArray->Option Nat)(g:GF)(iv:Value):Prop:=if jC mp g.f.ty=16 then∃p,iv= .pointer (some ⟨p,0,none⟩)/\pm g.f.ty=some p else iv= .pointer none
structure nI (w:World)(Q:Nat->Prop)(mp:ByteArray->Option Nat)(R L:GF->Value->Prop)(g:GF)(x:sD):Prop where
 n:x.n=g.f.num
 kind:x.c1= .int .i64 (eM (eK mp g))
 packs:x.c2= .bool (iw mp g)
 riv:eP w Q 3 1 x.c3 g.riv.length (gE g.riv)
 enc:∃iq,L g (.pointer iq)/\Jk w Q mp g iq x.c4/\Gk w Q mp g iq x.c5/\Ey w Q mp g iq x.c6
 read:xf w Q R g x.c7
def iO (w:World)(Q:Nat->Prop)(mp:ByteArray->Option Nat)(R L:GF->Value->Prop):List GF->List sD->Prop
 | [],l=>l= []
 |g::gs,l=>∃x r,l=x::r/\nI w Q mp R L g x/\iO w Q mp R L gs r
def rV (w:World)(Q:Nat->Prop)(mp:ByteArray->Option Nat)(R L:GF->Value->Prop)(gs:List GF)(pb:Nat):Prop:=
 ∃v l,dZ w pb #[v] 254/\Q pb/\eP w Q 268 8 v l.length (l.flatMap jg)/\iO w Q mp R L gs l
def mr (w:World)(Q:Nat->Prop)(mp pm:ByteArray->Option Nat)(g:GF)(v:Value):Prop:=
 if g.form=4 then Qj w Q mp (rV w Q mp (Dm w Q mp pm) (NS mp pm) [lN oh g.f.key 1,lN qe g.f.ty 2]) g v else Dm w Q mp pm g v
def je (w:World)(Q:Nat->Prop)(mp pm:ByteArray->Option Nat)(g:GF)(iv:Value):Prop:=
 if g.form=4 then∃p,iv= .pointer (some ⟨p,0,none⟩)/\rV w Q mp (Dm w Q mp pm) (NS mp pm) [lN oh g.f.key 1,lN qe g.f.ty 2] p
 else if jC mp g.f.ty=16 then∃p,iv= .pointer (some ⟨p,0,none⟩)/\pm g.f.ty=some p
 else iv= .pointer none
def iP (w:World)(Q:Nat->Prop)(mp pm:ByteArray->Option Nat)(gs:List GF)(pb:Nat):Prop:=rV w Q mp (mr w Q mp pm) (je w Q mp pm) gs pb
section
variable {w w':World} {Q Q':Nat->Prop} {mp pm pm':ByteArray->Option Nat} {R R' L L':GF->Value->Prop} {g:GF} {v:Value}
def eP.mV (hk:Mv w Q w' Q'){T:TypeId}{k n:Nat}{v:Value}{xs:List Value}(h:eP w Q T k v n xs):eP w' Q' T k v n xs:=
 ⟨eD h.1 λb hb=>(hk b (h.2 b hb) (h.1.lt b hb).2).2,λb hb=>(hk b (h.2 b hb) (h.1.lt b hb).2).1⟩
def Mv.bx (hk:Mv w Q w' Q'){b:Nat}{cs:Array Value}{T:TypeId}(h:dZ w b cs T)(q:Q b):dZ w' b cs T:=(hk b q h.lt).2.J h
def nF.mV (hk:Mv w Q w' Q'){k:Nat}(h:nF w Q k v):nF w' Q' k v:=by
 rcases h with h|⟨t,nb,bb,h1,h2,h3,h4,h5,h6⟩;.exact .inl h
 .exact .inr ⟨t,nb,bb,h1,h2,hk.bx h3 h5,hk.bx h4 h6,(hk _ h5 h3.lt).1,(hk _ h6 h4.lt).1⟩
def nG.mV (hk:Mv w Q w' Q'){k:Nat}(h:nG w Q k v):nG w' Q' k v:=by
 rcases h with h|h|⟨h0,nb,nv,h1,h2,h3,h4⟩;.exact .inl h
 .exact .inr (.inl h)
 .exact .inr (.inr ⟨h0,nb,nv,h1,hk.bx h2 h3,(hk _ h3 h2.lt).1,h4.mV hk⟩)
def Rj.mV (hk:Mv w Q w' Q')(h:Rj w Q mp g v):Rj w' Q' mp g v:=by
 obtain⟨pb,nb,vb,vv,h1,h2,h3,h4,h5,q1,q2,q3⟩:=h;exact⟨pb,nb,vb,vv,h1,hk.bx h2 q1,hk.bx h3 q2,hk.bx h4 q3,h5.mV hk,(hk _ q1 h2.lt).1,(hk _ q2 h3.lt).1,(hk _ q3 h4.lt).1⟩
def Pe.mV (hk:Mv w Q w' Q')(h:Pe w Q mp g v):Pe w' Q' mp g v:=by
 obtain⟨pb,nb,vb,vv,h1,h2,h3,h4,h5,q1,q2,q3⟩:=h;exact⟨pb,nb,vb,vv,h1,hk.bx h2 q1,hk.bx h3 q2,hk.bx h4 q3,h5.mV hk,(hk _ q1 h2.lt).1,(hk _ q2 h3.lt).1,(hk _ q3 h4.lt).1⟩
def Rk.mV (hk:Mv w Q w' Q')(hp:∀t p,pm t=some p->pm' t=some p)(h:Rk w Q mp pm g v):Rk w' Q' mp pm' g v:=by
 obtain⟨ib,lb,pb,nb,p,h1,h2,h3,h4,h5,h6,q1,q2,q3,q4⟩:=h;exact⟨ib,lb,pb,nb,p,h1,hk.bx h2 q1,hk.bx h3 q2,hk.bx h4 q3,hk.bx h5 q4,hp _ _ h6,(hk _ q1 h2.lt).1,(hk _ q2 h3.lt).1,(hk _ q3 h4.lt).1,(hk _ q4 h5.lt).1⟩
def Qj.mV {A A':Nat->Prop}(hk:Mv w Q w' Q')(ha:∀p,A p->A' p)(h:Qj w Q mp A g v):Qj w' Q' mp A' g v:=by
 obtain⟨ib,lb,pb,nb,p,h1,h2,h3,h4,h5,h6,q1,q2,q3,q4⟩:=h;exact⟨ib,lb,pb,nb,p,h1,hk.bx h2 q1,hk.bx h3 q2,hk.bx h4 q3,hk.bx h5 q4,ha _ h6,(hk _ q1 h2.lt).1,(hk _ q2 h3.lt).1,(hk _ q3 h4.lt).1,(hk _ q4 h5.lt).1⟩
def Dm.mV (hk:Mv w Q w' Q')(hp:∀t p,pm t=some p->pm' t=some p)(h:Dm w Q mp pm g v):Dm w' Q' mp pm' g v:=by
 unfold Dm at*;split at h;.rename_i h0;rw[dR h0];exact Rk.mV hk hp h
 .rename_i h0;rw[dQ h0];split at h;.rename_i h1;rw[dR h1];exact Pe.mV hk h
  .rename_i h1;rw[dQ h1];exact Rj.mV hk h
def xf.mV (hk:Mv w Q w' Q')(hR:∀v,R g v->R' g v)(h:xf w Q R g v):xf w' Q' R' g v:=by
 unfold xf at*;split at h;.rename_i h0;rw[dR h0];exact hR v h
 .rename_i h0;rw[dQ h0];obtain⟨vb,rb,rv,u,h1,h2,h3,h4,q1,q2,h5⟩:=h;exact⟨vb,rb,rv,u,h1,hk.bx h2 q1,h3.mV hk,hk.bx h4 q2,(hk _ q1 h2.lt).1,(hk _ q2 h4.lt).1,hR u h5⟩
def NS.mV (hp:∀t p,pm t=some p->pm' t=some p)(h:NS mp pm g v):NS mp pm' g v:=by
 unfold NS at*;split at h;.rename_i h1;rw[dR h1];obtain⟨p,h2,h3⟩:=h;exact⟨p,h2,hp _ _ h3⟩
 .rename_i h1;rw[dQ h1];exact h
def nI.mV (hk:Mv w Q w' Q')(hR:∀v,R g v->R' g v)(hL:∀v,L g v->L' g v){x:sD}(h:nI w Q mp R L g x):nI w' Q' mp R' L' g x:=
 ⟨h.n,h.kind,h.packs,h.riv.mV hk,h.enc.imp λ_ q=>⟨hL _ q.1,q.2.1.mV hk,q.2.2.1.mV hk,q.2.2.2.mV hk⟩,h.read.mV hk hR⟩
def iO.mV (hk:Mv w Q w' Q'):∀{gs:List GF} {l:List sD},(∀g∈gs,∀v,R g v->R' g v)->(∀g∈gs,∀v,L g v->L' g v)->iO w Q mp R L gs l->iO w' Q' mp R' L' gs l
 | [],_,_,_,h=>h
 |g::_,_,hR,hL,⟨x,r,h1,h2,h3⟩=>⟨x,r,h1,h2.mV hk (hR g Vw) (hL g Vw),iO.mV hk (λg hg=>hR g (by simp[hg])) (λg hg=>hL g (by simp[hg])) h3⟩
def rV.mV (hk:Mv w Q w' Q'){gs:List GF}{pb:Nat}(hR:∀g∈gs,∀v,R g v->R' g v)(hL:∀g∈gs,∀v,L g v->L' g v)(h:rV w Q mp R L gs pb):rV w' Q' mp R' L' gs pb:=by
 obtain⟨v,l,h1,h2,h3,h4⟩:=h;exact⟨v,l,hk.bx h1 h2,(hk _ h2 h1.lt).1,h3.mV hk,h4.mV hk hR hL⟩
def mr.mV (hk:Mv w Q w' Q')(hp:∀t p,pm t=some p->pm' t=some p)(h:mr w Q mp pm g v):mr w' Q' mp pm' g v:=by
 unfold mr at*;split at h;.rename_i h0;rw[dR h0];exact Qj.mV hk (λp hq=>hq.mV hk (λg _ v h=>h.mV hk hp) λg _ v h=>h.mV hp) h
 .rename_i h0;rw[dQ h0];exact Dm.mV hk hp h
def je.mV (hk:Mv w Q w' Q')(hp:∀t p,pm t=some p->pm' t=some p)(h:je w Q mp pm g v):je w' Q' mp pm' g v:=by
 unfold je at*;split at h;.rename_i h0;rw[dR h0];obtain⟨p,h1,h2⟩:=h;exact⟨p,h1,h2.mV hk (λ_ _ _ q=>q.mV hk hp) λ_ _ _ q=>q.mV hp⟩
 .rename_i h0;rw[dQ h0];exact NS.mV hp h
def je.lk (h4:g.form≠4):je w Q mp pm g v<->NS mp pm g v:=by
 unfold je;rw[dQ h4];exact Iff.rfl
def iP.mV (hk:Mv w Q w' Q')(hp:∀t p,pm t=some p->pm' t=some p){gs:List GF}{pb:Nat}(h:iP w Q mp pm gs pb):iP w' Q' mp pm' gs pb:=rV.mV hk (λ_ _ _ h=>mr.mV hk hp h) (λ_ _ _ h=>je.mV hk hp h) h
def iP.O (hk:∀b,Q b->b<w.heap.size->w'.heap[b]?=w.heap[b]?)(hp:∀t p,pm t=some p->pm' t=some p){gs:List GF}{pb:Nat}(h:iP w Q mp pm gs pb):iP w' Q mp pm' gs pb:=h.mV (.O hk) hp
def mr.O (hk:∀b,Q b->b<w.heap.size->w'.heap[b]?=w.heap[b]?)(hp:∀t p,pm t=some p->pm' t=some p)(h:mr w Q mp pm g v):mr w' Q mp pm' g v:=h.mV (.O hk) hp
def xf.O (hk:∀b,Q b->b<w.heap.size->w'.heap[b]?=w.heap[b]?)(hR:∀v,R g v->R' g v)(h:xf w Q R g v):xf w' Q R' g v:=h.mV (.O hk) hR
def iO.len:∀{gs:List GF} {l:List sD},iO w Q mp R L gs l->l.length=gs.length
 | [],_,h=>by rw[show _= []from h];rfl
 |_::_,_,⟨b,r,h1,_,h3⟩=>by rw[h1];simp[h3.len]
def iO.snoc {g:GF}{x:sD}(h2:nI w Q mp R L g x):∀{gs:List GF} {l:List sD},iO w Q mp R L gs l->iO w Q mp R L (gs++ [g]) (l++ [x])
 | [],_,h=>by rw[show _= []from h];exact⟨x,[],rfl,h2,rfl⟩
 |_::_,_,⟨c,r,h1,h3,h4⟩=>by rw[h1];exact⟨c,r++ [x],rfl,h3,iO.snoc h2 h4⟩
def iO.get:∀{gs:List GF} {l:List sD},iO w Q mp R L gs l->∀{i:Nat} {x:sD},l[i]?=some x->∃g,gs[i]?=some g/\nI w Q mp R L g x
 | [],_,h,i,x,hx=>by rw[show _= []from h]at hx;simp at hx
 |g::_,_,⟨b,r,h1,h3,h4⟩,0,x,h=>by
  subst h1;simp at h;subst h
  exact⟨g,rfl,h3⟩
 |_::_,_,⟨b,r,h1,h3,h4⟩,i+1,x,h=>by
  subst h1;have⟨c,q1,q2⟩:=h4.get (i:=i) (x:=x) (by simpa using h);exact⟨c,by simpa using q1,q2⟩
def iO.nums:∀{gs:List GF} {l:List sD},iO w Q mp R L gs l->l.map (·.n)=gs.map (·.f.num)
 | [],_,h=>by rw[show _= []from h];rfl
 |_::_,_,⟨b,r,h1,h2,h3⟩=>by rw[h1];simp[h3.nums,h2.n]
end
def nT (w:World)(Q:Nat->Prop)(S:eF)(mp pm:ByteArray->Option Nat):Prop:=∀t p,pm t=some p->∃d gs,S.msg t=some d/\iP w Q mp pm gs p/\lJ S mp d gs
def nT.O {w w':World}{Q:Nat->Prop}{S:eF}{mp pm:ByteArray->Option Nat}(h:nT w Q S mp pm)(hk:∀b,Q b->b<w.heap.size->w'.heap[b]?=w.heap[b]?):nT w' Q S mp pm:=λt p hp=>by
 have⟨d,gs,h1,h2,h3⟩:=h t p hp;exact⟨d,gs,h1,h2.O hk (λ_ _ q=>q),h3⟩
def Mj (S:eF)(mp pm:ByteArray->Option Nat)(B:Nat)(b:ByteArray)(F:Nat):Prop:=
 ∀(w:World) (Z:Nat->Prop) (sub:MT) (m:PM) (a e deep k pb:Nat) (gs:List GF) (rb db:Nat),tz w B S mp->nT w (λb=>b<B) S mp pm->iP w (λb=>b<B) mp pm gs pb->lJ S mp sub gs->mj S sub->ei w rb (b.extract 0 e) a deep->eQ S (k+1) (some sub) w Z db m->
  (∀x,Z x->B<=x/\x<w.heap.size)->B<=rb->¬Z rb->a<=e->e<=b.size->e-a<F->k+deep=8->WM S a sub m->
  Vq 89 #[.pointer (some ⟨pb,0,none⟩),.pointer (some ⟨rb,0,none⟩),.pointer (some ⟨db,0,none⟩)] w (iE S k sub w Z rb db (b.extract 0 e) deep (pR e (eY S b F sub m a e deep)))
section
open VH
section
variable {w:aw} {b c n:Nat} {T:TypeId} {v:Value}
theorem Jn (w:aw)(o:Obj)(b:Nat)(cs:aq)(T:TypeId):dZ (w.alloc o) b cs T<->if b=w.heap.size then o= .cells cs T (0,0)else dZ w b cs T:=by
 unfold dZ;by_cases h:b=w.heap.size;.subst h;rw[dR rfl,heap_alloc_new];simp
 .rw[dQ h];by_cases hl:b<w.heap.size;.rw[Below.l w o b hl]
  .rw[cL Vx,cL Vv]
theorem Ml (w:aw)(b:Nat)(cs:aq)(T:TypeId):dZ w.drew b cs T<->dZ w b cs T:=Iff.rfl
theorem dZ.deep {cs:aq}(h:dZ w b cs T):
  (∀off,w.cell? (aj b off)=cs[off]?)/\(∀o1 off,(w.alloc o1).cell? (aj b off)=cs[off]?)/\(∀o1 o2 off,((w.alloc o1).alloc o2).cell? (aj b off)=cs[off]?)/\(∀o1 o2 o3 off,(((w.alloc o1).alloc o2).alloc o3).cell? (aj b off)=cs[off]?)/\(∀o1 o2 o3 o4 off,((((w.alloc o1).alloc o2).alloc o3).alloc o4).cell? (aj b off)=cs[off]?):=
 ⟨h.cell,λ_=>(h.alloc _).cell,λ_ _=>((h.alloc _).alloc _).cell,λ_ _ _=>(((h.alloc _).alloc _).alloc _).cell,λ_ _ _ _=>((((h.alloc _).alloc _).alloc _).alloc _).cell⟩
theorem nG.form {Q:ax}{k:Nat}(h:nG w Q k v):Jm v:=by
 rcases h with⟨_,rfl⟩|⟨_,rfl⟩|⟨_,_,_,rfl,_⟩;.exact⟨_,_,rfl⟩
 .exact⟨_,_,rfl⟩
 .exact⟨_,_,rfl⟩
theorem Below.a2 (w:aw)(o1 o2:Obj):ak w ((w.alloc o1).alloc o2):=((Below.refl _ _).alloc (aE _) _).alloc Vw _
theorem Below.a3 (w:aw)(o1 o2 o3:Obj):ak w (((w.alloc o1).alloc o2).alloc o3):=(Below.a2 w o1 o2).alloc Vx _
theorem Below.a4 (w:aw)(o1 o2 o3 o4:Obj):ak w ((((w.alloc o1).alloc o2).alloc o3).alloc o4):=(Below.a3 w o1 o2 o3).alloc Vx _
theorem et {off:Nat}(h:c≠b):(w.setCell (aj c off) v).heap[b]?=w.heap[b]?:=by rw[dY,dQ h]
def jo (w:aw)(b:Nat)(T:TypeId):Prop:=∃u,dZ w b #[u] T
theorem dZ.set1 (h:jo w b T)(v:Value):dZ (w.setCell (aj b 0) v) b #[v] T:=by
 obtain⟨u,h⟩:=h;simpa using h.set 0 v
theorem jo.newAt (h:n=w.heap.size)(v:Value)(T:TypeId):jo (w.alloc (.cells #[v] T)) n T:=⟨_,dZ.newAt h _ _⟩
theorem jo.alloc (h:jo w b T)(o:Obj):jo (w.alloc o) b T:=h.imp λ_ q=>q.alloc o
theorem jo.drew (h:jo w b T):jo w.drew b T:=h
theorem jo.other (h:jo w b T)(off:Nat)(v:Value)(a:c≠b):jo (w.setCell (aj c off) v) b T:=h.imp λ_ q=>q.other off v a
theorem jo.G {w1:aw}(h:jo w b T)(a:Below n w w1)(c:b<n):jo w1 b T:=h.imp λ_ q=>q.G a c
theorem Ez {w':aw}(h:Below n w w'):(∀b off,b<n->w'.cell? (aj b off)=w.cell? (aj b off))/\(∀b off,b<n->w'.frozen? (aj b off)=w.frozen? (aj b off)):=⟨λb off a=>h.cell (p:=(aj b off)) a,λb off a=>h.frozen (p:=(aj b off)) a⟩
theorem Rl {p q:Prop}(h:p)(k:p->q):q:=k h
theorem Uc {fb:Nat}{a b c d e:Value}(h:dZ w fb #[a,b,c,d,e] T):w.cell? (aj fb 0)=some a/\w.cell? (aj fb 2)=some c/\w.cell? (aj fb 3)=some d:=⟨h.cell 0,h.cell 2,h.cell 3⟩
def jO (w:aw)(A:aw->Value->Prop)(e:Ending)(w':aw):Prop:=∃v,e= .returned v/\A w' v/\ak w w'
section
variable (w:aw) (Q P:ax) (mp pm:an) (g:GF) (fb:Nat)
theorem yI (hQ:∀b,w.heap.size<=b->Q b)(h:fi w P mp g fb)(h4:g.form≠4)(hb:jC mp g.f.ty<=15):Calls prog 380 #[ah fb] w (jO w λw' v=>Rj w' Q mp g v):=by
 have a:= @wA;have⟨a,c,d,_,E,F⟩:=h.blk;have K:eK mp g=jC mp g.f.ty:=by unfold eK;rw[dQ h4]
 rw[K]at d;obtain⟨r,rfl⟩:=gL F;obtain⟨z,B,A,rfl⟩:=d7 E.1;have l:=λW=>AM W (jC mp g.f.ty) (.pointer r) hb
 clear F E h
 have I:(g.form==0)=true/\mq g.form=193\/(g.form==0)=false/\(g.form==2)=true/\mq g.form=268\/(g.form==0)=false/\(g.form==2)=false/\mq g.form=195:=by
  unfold mq;by_cases h0:g.form=0;.exact .inl ⟨by simp[h0],by rw[dR h0]⟩
  .by_cases h2:g.form=2;.exact .inr (.inl ⟨by simp[h0],by simp[h2],by rw[dQ h0,dR h2]⟩)
   .exact .inr (.inr ⟨by simp[h0],by simp[h2],by rw[dQ h0,dQ h2]⟩)
 have⟨o,u,D,E,F⟩:=d.deep;have L:=d.lt;go_in
 go_upto_region 1 with fail
 go_cut [3,4]from 6 to 14 (λx y i=>∃s n t,x=ah s/\y=ah n/\dZ i s #[t] 478/\dZ i n #[aa g.f.num] 3/\dZ i fb #[aa g.f.num,aa g.form,aa (jC mp g.f.ty),.pointer r,.slice z B A] 220/\nG i Q (jC mp g.f.ty) t/\w.heap.size<=s/\w.heap.size<=n/\ak w i)
 case first=>
  go_region_held2 (λW=>W.cell? (aj fb 0)=some (aa g.f.num)/\W.cell? (aj fb 2)=some (aa (jC mp g.f.ty))/\W.cell? (aj fb 3)=some (.pointer r))
   ((go_light;refine Uc (b:=aa g.form) (e:= .slice z B A) (T:=220) ?_;repeat (first|exact m|exact d|refine dZ.alloc ?_ _|refine dZ.drew ?_|refine dZ.other ?_ _ _ Vv)))
   (first|(go_at_call 420;refine(l _).V ?_;rintro e w2 ⟨t,rfl,f,c⟩;obtain⟨M,J,rfl⟩:=f.form;refine Rl (p:=dZ w2 fb #[aa g.f.num,aa g.form,aa (jC mp g.f.ty),.pointer r,.slice z B A] 220) ?_ ?_;(first|exact dZ.G d.drew c L|exact dZ.G (d.alloc _).drew c (d.alloc _).lt|exact dZ.G ((d.alloc _).alloc _).drew c ((d.alloc _).alloc _).lt);intro m;have z2:=m.lt;have⟨i,x,y,H,K⟩:=m.deep;have⟨j,k⟩:=Ez c;(try simp only[ci,World.size_drew]at j k);(first|(refine Rl (p:=w.heap.size+1<w2.heap.size/\w.heap.size<w2.heap.size) ?_ ?_;(have q:=c.size;simp at q;omega);rintro⟨C,G⟩;have⟨N,O,R,S⟩:=gW (w:=w2) (b:=w.heap.size) G;have⟨T,W,X,Y⟩:=gW (w:=w2) (b:=w.heap.size+1) C;have U:=λa=>j w.heap.size a Vv;have V:=λa=>k w.heap.size a Vv;have Z:=λa=>j (w.heap.size+1) a Vv;have c4:=λa=>k (w.heap.size+1) a Vv)|(refine Rl (p:=w.heap.size<w2.heap.size) ?_ ?_;(have q:=c.size;simp at q;omega);intro C;have⟨N,O,R,S⟩:=gW (w:=w2) (b:=w.heap.size) C;have U:=λa=>j w.heap.size a Vv;have V:=λa=>k w.heap.size a Vv)|skip);clear j k))
  all_goals
   go_wp2;go_meet
   case rel=>
    go_light;have a:w.heap.size<=w2.heap.size:=by have q:=c.size;simp at q;omega
    refine⟨_,_,_,rfl,rfl,?_,?_,?_,f.mV (λb q l=>⟨hQ b (by simp at q;omega),?_⟩),Vv,Vv,?_⟩;.repeat (first|exact dZ.newAt VE _ _|exact jo.newAt VE _ _|refine dZ.set1 ?_ _|refine dZ.other ?_ _ _ Vv|refine dZ.alloc ?_ _|refine jo.other ?_ _ _ Vv|refine jo.G ?_ c VE|refine jo.drew ?_|refine jo.alloc ?_ _)
    .repeat (first|exact dZ.newAt VE _ _|exact jo.newAt VE _ _|refine dZ.set1 ?_ _|refine dZ.other ?_ _ _ Vv|refine dZ.alloc ?_ _|refine jo.other ?_ _ _ Vv|refine jo.G ?_ c VE|refine jo.drew ?_|refine jo.alloc ?_ _)
    .repeat (first|exact m|refine dZ.alloc ?_ _|refine dZ.other ?_ _ _ Vv)
    .simp at q;repeat (first|rfl|(rw[Below.l _ _ b VE])|(rw[et Vv]))
    .repeat (first|exact Below.refl _ _|refine dW ?_ c|refine Below.drew ?_|refine Below.alloc ?_ VE _|refine Below.setCell ?_ VE _)
 case rest=>
  obtain⟨s,n,t,rfl,rfl,Y,Z,a,f,c,d,G⟩:=hcut;obtain⟨M,J,rfl⟩:=f.form;have⟨i,x,y,H,K⟩:=a.deep;clear o u D E F;have M:=G.size;rcases I with⟨H,u⟩|⟨H,X,u⟩|⟨H,X,u⟩
  all_goals
   go_wp2;go_ret;have D:∀o,ak wc (wc.alloc o):=λo=>(Below.refl _ _).alloc (aE _) _
   refine⟨_,rfl,⟨_,_,_,_,rfl,?_,Z.alloc _,Y.alloc _,f.mV (λb q l=>⟨q,(D _).block b l⟩),hQ _ M,hQ _ d,hQ _ c⟩,dW G (D _)⟩;rw[u];exact dZ.new _ _ _
end
end
def je.form {w:aw}{Q:ax}{mp pm:an}{g:GF}{iv:Value}(h:je w Q mp pm g iv):∃q,iv= .pointer q:=by
 unfold je at h;split at h;.obtain⟨p,rfl,_⟩:=h;exact⟨_,rfl⟩
 .split at h;.obtain⟨p,rfl,_⟩:=h;exact⟨_,rfl⟩
  .exact⟨_,h⟩
def yJ:Prop:=∀(w:aw) (Q P:ax) (mp:an) (g:GF) (fb:Nat),(∀b,w.heap.size<=b->Q b)->fi w P mp g fb->g.form≠4->jC mp g.f.ty<=15->Vq 379 #[ah fb] w (jO w λw' v=>Pe w' Q mp g v)
def Cu:Prop:=∀(w:aw) (Q P:ax) (mp:an) (g:GF) (fb p:Nat),(∀b,w.heap.size<=b->Q b)->fi w P mp g fb->g.form=4->Vq 377 #[ah fb,ah p] w (jO w λw' v=>Qj w' Q mp (λx=>x=p) g v)
section
variable (w:aw) (Q P:ax) (mp pm:an) (g:GF) (fb:Nat)
def uZ (p:Nat)(hQ:∀b,w.heap.size<=b->Q b)(h:fi w P mp g fb)(u:pm g.f.ty=some p):Calls prog 378 #[ah fb,ah p] w (jO w λw' v=>Rk w' Q mp pm g v):=by
 have D:= @wA;have⟨H,L,r,_,j,k⟩:=h.blk;obtain⟨G,rfl⟩:=gL k;obtain⟨I,K,J,rfl⟩:=d7 j.1;have f:∀W,(∀b,b<w.heap.size->W.heap[b]?=w.heap[b]?)->Vq 186 #[ah fb] W λe w'=>e= .returned (aa (ly mp g))/\w'=W:=λW s=>td W P mp g fb (h.O (λb _ t=>s b t))
 have A:∀a,∀b,b<w.heap.size->(w.alloc a).drew.heap[b]?=w.heap[b]?:=λa b d=>Below.l w a b d
 have B:∀a c,∀b,b<w.heap.size->((w.alloc a).alloc c).drew.heap[b]?=w.heap[b]?:=λa c b d=>(Below.a2 w a c).block b d
 have C:∀a c i,∀b,b<w.heap.size->(((w.alloc a).alloc c).alloc i).drew.heap[b]?=w.heap[b]?:=λa c i b d=>(Below.a3 w a c i).block b d
 have⟨E,x,y,z,F⟩:=r.deep;clear k j h
 have o:(g.form==2)=true/\jN g.form=190\/(g.form==2)=false/\jN g.form=191:=by
  unfold jN;by_cases h2:g.form=2;.exact .inl ⟨by simp[h2],by rw[dR h2]⟩
  .exact .inr ⟨by simp[h2],by rw[dQ h2]⟩
 obtain⟨m,l⟩:=Vu (ly mp g);rw[l]at f;rcases o with⟨q,n⟩|⟨q,n⟩
 all_goals
  go_in
  go_upto_region 1 with fail
  go_region_held3 (λW=>W.cell? (aj fb 0)=some (aa g.f.num))
   (first|exact z _ _ _ 0|exact y _ _ 0|exact x _ 0)
   (first|(go_at_call 186;refine(f _ (A _)).V ?_;rintro e w2 ⟨rfl,rfl⟩)|(go_at_call 186;refine(f _ (B _ _)).V ?_;rintro e w2 ⟨rfl,rfl⟩)|(go_at_call 186;refine(f _ (C _ _ _)).V ?_;rintro e w2 ⟨rfl,rfl⟩))
  all_goals
   go_wp2;go_ret;refine⟨_,rfl,⟨_,_,_,_,p,rfl,?_,?_,?_,?_,u,hQ _ Vv,hQ _ Vv,hQ _ Vv,hQ _ Vv⟩,(Below.a4 w _ _ _ _).drew⟩;all_goals simp[Jn,Ml,Dk,n,l]<;>omega
def mr.fn {w:aw}{Q:ax}{mp pm:an}{g:GF}{v:Value}(h:mr w Q mp pm g v):Jm v:=by
 unfold mr at h;split at h;.obtain⟨_,_,_,_,_,rfl,_⟩:=h;exact⟨_,_,rfl⟩
 .unfold Dm at h;split at h;.obtain⟨_,_,_,_,_,rfl,_⟩:=h;exact⟨_,_,rfl⟩
  .split at h;.obtain⟨_,_,_,_,rfl,_⟩:=h;exact⟨_,_,rfl⟩
   .obtain⟨_,_,_,_,rfl,_⟩:=h;exact⟨_,_,rfl⟩
def yK (iv:Value)(HP:yJ)(HE:Cu)(hQ:∀b,w.heap.size<=b->Q b)(h:fi w P mp g fb)(d:je w Q mp pm g iv):Calls prog 295 #[ah fb,iv] w (jO w λw' v=>mr w' Q mp pm g v):=by
 have⟨K,O,j,_,t,u⟩:=h.blk;obtain⟨J,rfl⟩:=gL u;obtain⟨L,N,M,rfl⟩:=d7 t.1;have k:=mT w P mp g fb h;have y:∀w1:aw,ak w w1->∀b,w1.heap.size<=b->Q b:=λw1 j b A=>hQ b (by have:=j.size;omega)
 have z:∀w1:aw,ak w w1->fi w1 P mp g fb:=λw1 A=>h.O (λb _ E=>A.block b E)
 clear u t;unfold je at d;by_cases h4:g.form=4
 .rw[dR h4]at d;obtain⟨p,rfl,n⟩:=d;have D:(g.form==4)=true:=by simp[h4]
  have r:=HE w Q P mp g fb p hQ h h4;have⟨H,I⟩:=j.I;go_in
  go_wp2_with fail;refine r.V ?_;rintro e w2 ⟨v,rfl,i,c⟩
  have a:mr w2 Q mp pm g v:=by
   unfold mr;rw[dR h4]
   exact i.mV (.O λ_ _ _=>rfl) λx G=>by
    subst G;exact n.mV (.O λb _ l=>c.block b l) (λ_ _ _ q=>q.mV (.O λb _ l=>c.block b l) (λ_ _ q=>q)) λ_ _ _ q=>q
  obtain⟨s,m,rfl⟩:=a.fn;go_wp2;go_ret;exact⟨_,rfl,a,c⟩
 .rw[dQ h4]at d;have D:(g.form==4)=false:=by simp[h4]
  have B:eK mp g=jC mp g.f.ty:=by unfold eK;rw[dQ h4]
  rw[B]at j;have o:∀w' v,Dm w' Q mp pm g v->mr w' Q mp pm g v:=λw' v q=>by unfold mr;rw[dQ h4];exact q
  have⟨H,I⟩:=j.I;by_cases h16:jC mp g.f.ty=16
  .rw[dR h16]at d;obtain⟨p,rfl,n⟩:=d;have C:((jC mp g.f.ty:Int)==16)=true:=by simp[h16]
   have r:=uZ w Q P mp pm g fb p hQ h n;go_in
   go_wp2_with fail;refine r.V ?_;rintro e w2 ⟨v,rfl,i,c⟩;have a:mr w2 Q mp pm g v:=o _ _ (by unfold Dm;rw[dR h16];exact i);obtain⟨s,m,rfl⟩:=a.fn;go_wp2;go_ret;exact⟨_,rfl,a,c⟩
  .rw[dQ h16]at d;subst d;have C:((jC mp g.f.ty:Int)==16)=false:=Vx;have F:=uy mp g.f.ty
   cases hpk:iw mp g with
   |true=>
    rw[hpk]at k;go_in
    go_wp2_with fail;refine k.V ?_;rintro e w1 ⟨rfl,f⟩;go_wp2_with fail;refine(HP w1 Q P mp g fb (y w1 f) (z w1 f) h4 Vv).V ?_;rintro e w2 ⟨v,rfl,i,c⟩;have a:mr w2 Q mp pm g v:=o _ _ (by unfold Dm;rw[dQ h16,dR hpk];exact i);obtain⟨s,m,rfl⟩:=a.fn;go_wp2;go_ret
    exact⟨_,rfl,a,dW f c⟩
   |false=>
    rw[hpk]at k;go_in
    go_wp2_with fail;refine k.V ?_;rintro e w1 ⟨rfl,f⟩;go_wp2_with fail;refine(yI w1 Q P mp g fb (y w1 f) (z w1 f) h4 Vv).V ?_;rintro e w2 ⟨v,rfl,i,c⟩;have a:mr w2 Q mp pm g v:=o _ _ (by unfold Dm;rw[dQ h16,dQ (by rw[hpk];simp)];exact i);obtain⟨s,m,rfl⟩:=a.fn;go_wp2;go_ret;exact⟨_,rfl,a,dW f c⟩
def Ab (iv:Value)(HP:yJ)(HE:Cu)(hQ:∀b,w.heap.size<=b->Q b)(hPQ:∀b,P b->Q b)(h:fi w P mp g fb)(c:je w Q mp pm g iv):Calls prog 213 #[ah fb,iv] w (jO w λw' v=>xf w' Q (mr w' Q mp pm) g v):=by
 have u:= @wA;have⟨E,H,m,_,i,j⟩:=h.blk;have r:=yK w Q P mp pm g fb iv HP HE hQ h c;obtain⟨x,rfl⟩:=c.form;obtain⟨D,rfl⟩:=gL j;obtain⟨F,G,rfl⟩:=iB i.1;clear j c h;go_in
 go_wp2_with fail;refine r.V ?_;rintro e w2 ⟨v,rfl,d,a⟩;have⟨I,t,k⟩:=d.fn;have p:=m.G a m.lt;have⟨y,z,A,B,C⟩:=p.deep;have s:=a.size;by_cases h0:g.riv= []
 .have n:((g.riv.length:Int)==0)=true:=by simp[h0]
  subst k;go_wp2;go_ret;have f:∀o,ak w2 (w2.alloc o):=λo=>(Below.refl _ _).alloc (aE _) _
  refine⟨_,rfl,(show xf _ Q (mr _ Q mp pm) g _ from ?_),dW a (f _)⟩;unfold xf;rw[dR h0];exact d.mV (.O λb _ l=>(f _).block b l) (λ_ _ q=>q)
 .have n:((g.riv.length:Int)==0)=false:=by simpa using h0
  subst k;go_wp2;go_ret;refine⟨_,rfl,(show xf _ Q (mr _ Q mp pm) g _ from ?_),dW a (Below.a2 w2 _ _)⟩;unfold xf;rw[dQ h0];refine⟨_,_,_,_,rfl,dZ.newAt Vw _ _,?_,(dZ.new w2 _ _).alloc _,hQ _ Vv,hQ _ Vv,?_⟩;.exact eP.mV (λb q l=>⟨hPQ b q,(dW a (Below.a2 w2 _ _)).block b l⟩) i
  .exact d.mV (.O λb _ l=>(Below.a2 w2 _ _).block b l) (λ_ _ q=>q)
end
end
section
variable {lo b:Nat} {W:aw} {t v:Value} {T:TypeId}
structure Bx (lo:Nat)(W:aw)(on st vr:Bool)(t:Value)(b:Nat)(T:TypeId)(v:Value):Prop where
 made:on=true->t=ah b/\lo<=b/\jo W b T
 put:st=true->dZ W b #[v] T
 dep:st=true->on=true/\vr=true
section
variable {lo:Nat} {W W':aw} {on st vr:Bool} {t:Value} {b:Nat} {T:TypeId} {v:Value}
theorem Bx.start:Bx lo W false false false t b T v:=⟨nofun,nofun,nofun⟩
theorem Bx.G (h:Bx lo W on st vr t b T v)(hb:Below W.heap.size W W'):Bx lo W' on st vr t b T v:=
 ⟨λe=>by
  have⟨c,d,u,a⟩:=h.made e
  exact⟨c,d,u,a.G hb a.lt⟩,λe=>(h.put e).G hb (h.put e).lt,h.dep⟩
theorem Bx.alloc (h:Bx lo W on st vr t b T v)(o:Obj):Bx lo (W.alloc o) on st vr t b T v:=h.G ((Below.refl _ _).alloc (aE _) o)
theorem Bx.val (h:Bx lo W on st false t b T v)(v':Value):Bx lo W on st true t b T v':=
 ⟨h.made,λe=>(by cases(h.dep e).2),λe=>(by cases(h.dep e).2)⟩
theorem Bx.new (h:Bx lo W false st vr t b T v)(hl:lo<=W.heap.size)(u:Value):Bx lo (W.alloc (.cells #[u] T)) true st vr (ah W.heap.size) W.heap.size T v:=
 ⟨λ_=>⟨rfl,hl,u,dZ.new _ _ _⟩,λe=>(by cases(h.dep e).1),λe=>(by cases(h.dep e).1)⟩
theorem Bx.store (h:Bx lo W true st true t b T v):Bx lo (W.setCell (aj b 0) v) true true true t b T v:=by
 have⟨a,c,d⟩:=h.made rfl;have q:=dZ.set1 d v;exact⟨λ_=>⟨a,c,v,q⟩,λ_=>q,λ_=>⟨rfl,rfl⟩⟩
theorem Bx.other (h:Bx lo W on st vr t b T v){c:Nat}(a:on=true->c≠b)(x:Value):Bx lo (W.setCell (aj c 0) x) on st vr t b T v:=
 ⟨λe=>by
  have⟨d,f,g⟩:=h.made e
  exact⟨d,f,g.other 0 x (a e)⟩,λe=>(h.put e).other 0 x (a (h.dep e).1),h.dep⟩
theorem Bx.lt (h:Bx lo W on st vr t b T v)(e:on=true):b<W.heap.size:=by
 have⟨_,_,u,a⟩:=h.made e;exact a.lt
end
def oz (on1 on2:Bool)(b1 b2:Nat):Prop:=on1=true->on2=true->b1≠b2
theorem oz.sy {on1 on2:Bool}{b1 b2:Nat}(h:oz on1 on2 b1 b2):oz on2 on1 b2 b1:=λa c e=>h c a e.sy
theorem oz.new1 {on st vr:Bool}(h:Bx lo W on st vr t b T v):oz true on W.heap.size b:=λ_ e q=>by
 have:=h.lt e;omega
theorem oz.new2 {on st vr:Bool}(h:Bx lo W on st vr t b T v):oz on true b W.heap.size:=(oz.new1 h).sy
def Jt (on vr:Bool)(b n1 n2:Nat):Prop:=on=true->vr=true->b<n1\/n2<=b
section
variable {lo:Nat} {W W':aw} {on:Bool} {t:Value} {b:Nat} {T:TypeId} {n:Nat}
end
theorem iF (h:jo W b T):∃u,(∀off,W.cell? (aj b off)=(#[u]:aq)[off]?)/\(∀off,W.frozen? (aj b off)=false):=by
 obtain⟨u,h⟩:=h;exact⟨u,h.I⟩
end
section
variable {P:FY} {Q:Value->PM->Prop} {Z:ax}
theorem Mz (a:∀mv m C,(∀b,C b->Z b)->P mv m C->Q mv m):∀{l:List PV} {ms:ay} {Y:ax},(∀b,Y b->Z b)->j0 (λmv (v:PV) C=>P mv v.2.2 C) Y ms l->kC Q (sy ms l) l
 | [],[],_,_,_=>rfl
 |v::l,mv::ms,Y,hY,h=>by
  obtain⟨A,B,c,d,e,f,_⟩:=h;exact⟨mv,sy ms l,rfl,a _ _ A (λb q=>hY b (e b q)) c,Mz a (λb q=>hY b (f b q)) d⟩
theorem MA {w:aw}(a:∀mv m C,(∀b,C b->Z b)->P mv m C->Q mv m):∀{l:List PF} {ms:ay} {Y:ax},(∀b,Y b->Z b)->j0 (λvv (f:PF) A=>kA P w A vv f.2) Y ms l->mD Q w Z (sA ms l) l
 | [],[],_,_,_=>rfl
 |v::l,mv::ms,Y,hY,h=>by
  obtain⟨A,B,⟨g,n,i,o,j,k⟩,d,c,e,_⟩:=h;refine⟨mv,sA ms l,rfl,⟨_,i.V λb q _=>hY b (c b q),Mz a (λb q=>hY b (c b (j b q))) k⟩,MA a (λb q=>hY b (e b q)) d⟩
theorem qy.toIn:∀{k:Nat} {w:aw} {v:Value} {m:PM} {Z:ax},qy k w v m Z->qZ k w Z v m
 |0,_,_,_,_,h=>h
 |k+1,w,v,m,Z,h=>by
  obtain⟨g,Y,a,i,c,d⟩:=h;exact⟨_,a,MA (P:=qy k w) (λj m C e f=>qZ.V (λb q _=>e b q) (qy.toIn f)) c d⟩
end


section
variable {S:eF} {R:MT->PM->Bool} {d:MT} (hd:(d.fs.map (·.num)).Nodup) {m:PM} {n:Int} {f:fw} {k:Nat} (hx:gX S R d [] m.fs=true) (hr:pT (k+1) m) (hf:ed d.fs n=some f)
include hx hf
end
end Go.Proofs.YtfebdimolnobaaaGreatDoor
