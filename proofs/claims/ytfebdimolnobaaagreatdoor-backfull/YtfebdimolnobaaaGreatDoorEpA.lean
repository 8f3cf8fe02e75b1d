import Derived.Test.YtfebdimolnobaaaGreatDoorWkN
set_option maxRecDepth 100000
set_option maxHeartbeats 8000000
set_option linter.all false
namespace Go.Proofs.YtfebdimolnobaaaGreatDoor
open Go.RowKit Go.Proofs.Tryz
section
open VH
structure Me (v:Value)(f:Nat)(cap:ay):Prop where
 eq:v= .func (.func f) #[] cap.toArray
 en:∀args w,(callFunc f args).run prog w= .ok (.enter f args) w
def Kp (Q:ax)(w W:aw):Prop:=∀b,Q b->b<w.heap.size->W.heap[b]?=w.heap[b]?
def Kp.bx {Q:ax}{w W:aw}(h:Kp Q w W){b:Nat}{cs:aq}{T:TypeId}(q:Q b)(a:dZ w b cs T):dZ W b cs T:=(h b q a.lt).J a
def NR (p:PV->Bool)(n:Nat)(f:Nat)(cap:ay)(W:aw):Prop:=
 ∀(W':aw) (Z:ax) (x:PV) (mv:Value) (k deep:Nat),Below W.heap.size W W'->gV k W' Z mv x.2.2->pi k x.2.2->0<=x.1->x.1<2^64->x.2.1.size<=4398046511104->n+1+deep=9->
  Vq f (gj x mv::aa deep::cap).toArray W' (eH (p x) W')
def O1 (q:List PV->Bool)(n:Nat)(f:Nat)(cap:ay)(W:aw):Prop:=
 ∀(W':aw) (Z:ax) (vv:Value) (l:List PV) (k deep:Nat),Below W.heap.size W W'->pS (gV k W' Z) W' Z vv l->Qh k l->n+1+deep=9->
  Vq f (vv::aa deep::cap).toArray W' (eH (q l) W')
def Jh (S:eF)(iq:aC)(n:Nat)(t:MT)(W:aw):Prop:=
 ∀(W':aw) (Z:ax) (v:Value) (m:PM) (k deep:Nat),Below W.heap.size W W'->gV k W' Z v m->pi k m->n+deep=9->
  Vq 103 #[.pointer iq,.agg #[v,ag m.unk],aa deep] W' (eH (d6 S n t m) W')
def AW (w:aw):Vq 157 #[.bool true] w λe w'=>e= .returned (.tuple #[])/\w=w':=(iy w).V λ_ _ h=>⟨h.1,h.2.sy⟩
def AX (w:aw):Vq 157 #[.bool false] w λe w'=>e=d5 12 0/\w=w':=(io w).V λ_ _ h=>⟨h.1,h.2.sy⟩
section
variable {p:PV->Bool} {n:Nat} {W:aw}
def Mf (vb vf:Nat)(vcap:ay)(K:dZ W vb #[.func (.func vf) #[] vcap.toArray] 398)(T:∀args w,(callFunc vf args).run prog w= .ok (.enter vf args) w)(H:NR p n vf vcap W):
  O1 (λl=>(l.length==1)&&l.all p) n 367 [ah vb] W:=by
 intro d Z a l k deep B G P S;show Vq 367 #[a,aa deep,ah vb] d (eH ((l.length==1)&&l.all p) d);obtain⟨R,o⟩:∃R,Hid (((l.length==1)&&l.all p)=R):=⟨_,rfl⟩;rw[o.o];obtain⟨a,c,rfl⟩:=G.form;have q:=K.G B K.lt;by_cases h1:l.length=1
 .have O:((l.length:Int)==1)=true:=Vx;obtain⟨x,rfl⟩:=List.length_eq_one_iff.1 h1;obtain⟨a,J,L⟩:=G;have⟨b,I,V,X,Y,a⟩:=L.get (i:=0) (v:=x) rfl;obtain⟨s,t,rfl⟩:=I.form;obtain⟨b,rfl,c,j,h⟩:=J.at Vw;have u:=h d.drew rfl _ _ V;have A:=lK (h d.drew rfl _ _ X);have C:=lK (h d.drew rfl _ _ Y);have D:=lK (h d.drew rfl _ _ a);simp only[Nat.zero_mul,Jf]at u A C D;have m:=P.2 x aZ;have E:=H d.drew Z x _ k deep B.drew (I.G (Below.refl _ _).drew (aE _)) m.2.2.2 m.1 m.2.1 m.2.2.1 S;unfold gj at E;have g:Hid (R=p x):=(by show R=p x;rw[<-o.o];simp);generalize p x=r at*;have F:Below d.heap.size d d.drew:=(Below.refl _ _).drew;have Q:d.drew.cell? (aj vb 0)=some (.func (.func vf) #[] vcap.toArray)/\d.drew.cell? b=some (.int .u64 x.1)/\d.drew.cell? (aj b.block (b.off+1))=some (ag x.2.1)/\d.drew.cell? (aj b.block (b.off+2))=some (.slice s x.2.2.fs.length t)/\d.drew.cell? (aj b.block (b.off+3))=some (ag x.2.2.unk):=⟨q.drew.cell 0,u,A,C,D⟩;clear h1;go_enter func367,ntmps367;go_upto_region 1 with(go_at_call 157;refine(AW _).V ?_;rintro e w2 ⟨rfl,rfl⟩)
  go_region_held2 (λW=>W.cell? (aj vb 0)=some (.func (.func vf) #[] vcap.toArray)/\W.cell? b=some (.int .u64 x.1)/\W.cell? (aj b.block (b.off+1))=some (ag x.2.1)/\W.cell? (aj b.block (b.off+2))=some (.slice s x.2.2.fs.length t)/\W.cell? (aj b.block (b.off+3))=some (ag x.2.2.unk))
   (first|exact Q|exact M)
   (first
    |(
      refine E.V ?_;intro e w3 U;rcases U.part with⟨rfl,rfl,f⟩|⟨rfl,y,z,rfl,f⟩;rotate_left;.have N:=dW F f;unfold d5;go_wp2;rw[g.o];exact⟨rfl,eH.no N⟩
      have M:w3.cell? (aj vb 0)=some (.func (.func vf) #[] vcap.toArray)/\w3.cell? b=some (.int .u64 x.1)/\w3.cell? (aj b.block (b.off+1))=some (ag x.2.1)/\w3.cell? (aj b.block (b.off+2))=some (.slice s x.2.2.fs.length t)/\w3.cell? (aj b.block (b.off+3))=some (ag x.2.2.unk):=⟨(q.drew.G f q.drew.lt).cell 0,(f.cell (p:=b) j).J u,(f.cell (p:=(aj b.block (b.off+1))) j).J A,(f.cell (p:=(aj b.block (b.off+2))) j).J C,(f.cell (p:=(aj b.block (b.off+3))) j).J D⟩))
  go_wp2;go_end0;rw[g.o];exact eH.ok (dW F f)
 .have O:((l.length:Int)==1)=false:=Vx;have g:Hid (R=false):=(by show R=false;rw[<-o.o];simp[h1]);go_enter func367,ntmps367;go_wp2_with (go_at_call 157;refine(AX _).V ?_;rintro e w2 ⟨rfl,rfl⟩;unfold d5)
  rw[g.o];exact⟨rfl,eH.no (Below.refl _ _)⟩
def Mg (vb vf:Nat)(vcap:ay)(K:dZ W vb #[.func (.func vf) #[] vcap.toArray] 398)(a:∀args w,(callFunc vf args).run prog w= .ok (.enter vf args) w)(H:NR p n vf vcap W):
  O1 (λl=>decide (0<l.length)&&l.all p) n 366 [ah vb] W:=by
 intro d Z a l k deep B G i Y;show Vq 366 #[a,aa deep,ah vb] d (eH (decide (0<l.length)&&l.all p) d);obtain⟨R,t⟩:∃R,Hid ((decide (0<l.length)&&l.all p)=R):=⟨_,rfl⟩;rw[t.o];obtain⟨a,c,rfl⟩:=G.form;have E:=K.G B K.lt;have a:=i.1;by_cases h1:0<l.length
 .have X:decide (0<(l.length:Int))=true:=Vx;obtain⟨a,T,U⟩:=G;have q:Hid (R=l.all p):=(by show R=l.all p;rw[<-t.o,decide_eq_true h1,df])
  have P:Hid (∀(h:aw) (x:PV) (m:Value),Below d.heap.size d h->x∈l->gV k d Z m x.2.2->Vq vf (gj x m::aa deep::vcap).toArray h (eH (p x) h)):=λh x m F b a=>
   H h Z x m k deep (dW B F) (a.G F (aE _)) (i.2 x b).2.2.2 (i.2 x b).1 (i.2 x b).2.1 (i.2 x b).2.2.1 Y
  go_enter func366,ntmps366;go_wp2_with (go_at_call 157;refine(AW _).V ?_;rintro e w2 ⟨rfl,rfl⟩)
  go_loopw [6,13] (λ_ v wr=>∃j:Nat,v=aa j/\j<=l.length/\Hid ((l.take j).all p=true)/\Below d.heap.size d wr) (λ_ v _=>l.length-(intOf v).toNat)
  case atStart=>exact⟨0,rfl,aP _,rfl,Below.refl _ _⟩
  case round=>
   obtain⟨j,rfl,a,A,f⟩:=hrel;by_cases hlt:j<l.length
   .have⟨x,b⟩:=gx hlt;have⟨m,I,J,L,M,N⟩:=U.get b;obtain⟨c,d,rfl⟩:=I.form;obtain⟨h,rfl,a,s,g⟩:=T.at Vv;have a:=g wr (f.block _ s) _ _ J;have a:=lK (g wr (f.block _ s) _ _ L);have a:=lK (g wr (f.block _ s) _ _ M);have a:=lK (g wr (f.block _ s) _ _ N);have a:(j:Int)<(l.length:Int):=Vv;have⟨O,Q⟩:=ec wr (Vm x c d) 55;have o:=dW f O;have D:=P.o _ x _ o (aL b) I;unfold gj at D;have S:=E.G o E.lt;have C:Hid ((l.take (j+1)).all p=p x):=(by show(l.take (j+1)).all p=_;rw[Ev b,A.o,df]);generalize p x=r at*;have⟨a,c⟩:=Q.I;have⟨a,c⟩:=S.I;clear g J L M N b;go_wp2_with fail;refine D.V ?_;intro e w3 a;rcases a.part with⟨rfl,rfl,u⟩|⟨rfl,y,z,rfl,u⟩
    .go_wp2;go_roundw
     case rel=>exact⟨j+1,by go_num,Vv,C.o,dW o u⟩
     case measure=>simp[intOf];omega
    .unfold d5;go_wp2;rw[q.o,Ie C.o];exact⟨rfl,eH.no (dW o u)⟩
   .obtain rfl:j=l.length:=Vv
    have V:Hid (l.all p=true):=by
     show l.all p=true;have:=A.o
     rwa [bB]at this
    go_wp2;go_end0;rw[q.o,V.o];exact eH.ok f
 .have X:decide (0<(l.length:Int))=false:=decide_eq_false Vv;have q:Hid (R=false):=(by show R=false;rw[<-t.o,decide_eq_false h1,cV]);go_enter func366,ntmps366;go_wp2_with (go_at_call 157;refine(AX _).V ?_;rintro e w2 ⟨rfl,rfl⟩;unfold d5)
  rw[q.o];exact⟨rfl,eH.no (Below.refl _ _)⟩
def Ji {q:List PV->Bool}(eb ef sb:Nat)(ecap:ay)(sg:Bool)(s:dZ W eb #[.func (.func ef) #[] ecap.toArray] 260)(g:dZ W sb #[.bool sg] 4)(K:∀args w,(callFunc ef args).run prog w= .ok (.enter ef args) w)(H:O1 q n ef ecap W)
  (L:∀l k,Qh k l->q l=true->∀e∈l,Eu e):
  O1 (λl=>q l&&jI sg none l) n 365 [ah eb,ah sb] W:=by
 intro d Z P l k deep B m h I;show Vq 365 #[P,aa deep,ah eb,ah sb] d (eH (q l&&jI sg none l) d);obtain⟨a,c,rfl⟩:=m.form;have C:=s.G B s.lt;have o:=g.G B g.lt
 have F:∀b,Below d.heap.size d b->pS (gV (k-1+1) b Z) b Z (.slice a l.length c) l:=λb j=>by
  have:=pS.G j (aE _) m
  cases k with
  |zero=>
   obtain⟨D,N,O⟩:=this;refine⟨D,N,?_⟩
   cases l with
   |nil=>exact O
   |cons x r=>exact(h.2 x aZ).2.2.2.elim
  |succ k=>exact this
 have v:Hid (q l=true->∀b,Below d.heap.size d b->Vq 240 #[.slice a l.length c,.bool sg] b (eH (jI sg none l) b)):=λJ b j=>
  AV b _ l sg (F b j) (L l k h J) h.1
 have A:=H d Z _ l k deep B m h I;generalize q l=ql at*;generalize jI sg none l=r at*;have⟨t,u⟩:=C.I;go_enter func365,ntmps365;go_wp2_with fail;refine A.V ?_;intro e w2 M;rcases M.part with⟨rfl,rfl,f⟩|⟨rfl,y,z,rfl,f⟩
 .have G:=o.G f o.lt;clear t u;have⟨t,u⟩:=G.I;go_wp2_with fail;refine(v.o trivial w2 f).V ?_;intro e w3 E;rcases E.part with⟨rfl,rfl,i⟩|⟨rfl,y,z,rfl,i⟩;.go_wp2;go_end0;exact eH.ok (dW f i)
  .unfold d5;go_wp2;exact⟨rfl,eH.no (dW f i)⟩
 .unfold d5;go_wp2;exact⟨rfl,eH.no f⟩
def Jj (vb vf:Nat)(vcap:ay)(q:dZ W vb #[.func (.func vf) #[] vcap.toArray] 398)(L:∀args w,(callFunc vf args).run prog w= .ok (.enter vf args) w)(H:NR p n vf vcap W):
  NR (λx=> !(decide (x.1=0)&&ox x.2.1)&&p x) n 288 [ah vb] W:=by
 intro a Z x N k deep B o J F G I K;show Vq 288 #[gj x N,aa deep,ah vb] a (eH (!(decide (x.1=0)&&ox x.2.1)&&p x) a);obtain⟨c,d,rfl⟩:=o.form;have l:=q.G B q.lt;have⟨j,h⟩:=ec a (Vm x c d) 55;have v:=AR (a.alloc (Obj.cells (Vm x c d) 55)) x (.slice c x.2.2.fs.length d);have A:Hid (∀b,Below a.heap.size a b->Vq vf (gj x (.slice c x.2.2.fs.length d)::aa deep::vcap).toArray b (eH (p x) b)):=λb m=>H b Z x _ k deep (dW B m) (o.G m (aE _)) J F G I K
 unfold gj at*;generalize p x=r at*;generalize(!(decide (x.1=0)&&ox x.2.1))=s at*;have⟨t,u⟩:=h.I;go_enter func288,ntmps288;go_wp2_with fail;refine v.V ?_;intro e w2 M;generalize a.alloc (Obj.cells (Vm x c d) 55)=w1 at*;rcases M.part with⟨rfl,rfl,g⟩|⟨rfl,y,z,rfl,g⟩
 .have f:=dW j g;have D:=l.G f l.lt;have C:=h.G g h.lt;clear t u;have⟨t,u⟩:=C.I;have⟨O,P⟩:=D.I;go_wp2_with fail;refine(A.o w2 f).V ?_;intro e w3 E;rcases E.part with⟨rfl,rfl,i⟩|⟨rfl,y,z,rfl,i⟩;.go_wp2;go_end0;exact eH.ok (dW f i)
  .unfold d5;go_wp2;exact⟨rfl,eH.no (dW f i)⟩
 .unfold d5;go_wp2;exact⟨rfl,eH.no (dW j g)⟩
end
section
variable {w w':aw} {Q Q':ax}
theorem Rg (r:Bool)(w:aw):Vq 157 #[.bool r] w (eH r w):=by
 cases r;.exact(AX w).V λ_ _ h=>by obtain⟨rfl,rfl⟩:=h;exact eH.no (Below.refl _ _)
 .exact(AW w).V λ_ _ h=>by obtain⟨rfl,rfl⟩:=h;exact eH.ok (Below.refl _ _)
section
variable {S:eF} {fl:fw} {n:Nat} {W:aw}
theorem TU (ib:Nat)(iq:aC)(t:MT)(p:dZ W ib #[.pointer iq] 116)(H:Jh S iq n t W)(h16:fB S fl=16)(c:fC S fl=some t):
  NR (eE S (d6 S n) fl) n 360 [ah ib] W:=by
 intro a Z x K k deep B q G L M N O;show Vq 360 #[gj x K,aa deep,ah ib] a (eH (eE S (d6 S n) fl x) a);have u:eE S (d6 S n) fl x=((decide (x.1=0)&&ox x.2.1)&&d6 S n t x.2.2):=by unfold eE;rw[dR h16,c]
 rw[u];obtain⟨d,f,rfl⟩:=q.form;have m:=p.G B p.lt;have⟨l,i⟩:=ec a (Vm x d f) 55;have A:=Qg (a.alloc (Obj.cells (Vm x d f) 55)) x (.slice d x.2.2.fs.length f)
 have C:Hid (∀b,Below a.heap.size a b->Vq 103 #[.pointer iq,.agg #[.slice d x.2.2.fs.length f,ag x.2.2.unk],aa ((deep:Int)+1)] b (eH (d6 S n t x.2.2) b)):=λb o=>by
  have:=H b Z _ x.2.2 k (deep+1) (dW B o) (q.G o (aE _)) G Vv
  rwa [show(((deep+1:Nat):Int))=(deep:Int)+1 by omega]at this
 have I:(deep:Int)<=9:=Vv;unfold gj at*;clear u;generalize d6 S n t x.2.2=r at*;generalize(decide (x.1=0)&&ox x.2.1)=s at*;have⟨v,w⟩:=i.I;go_enter func360,ntmps360;go_wp2_with fail;refine A.V ?_;intro e w2 J;generalize a.alloc (Obj.cells (Vm x d f) 55)=w1 at*;rcases J.part with⟨rfl,rfl,h⟩|⟨rfl,y,z,rfl,h⟩
 .have g:=dW l h;have E:=m.G g m.lt;have D:=i.G h i.lt;clear v w;have⟨v,w⟩:=D.I;have⟨P,Q⟩:=E.I;go_wp2_with fail;refine(C.o w2 g).V ?_;intro e w3 F;rcases F.part with⟨rfl,rfl,j⟩|⟨rfl,y,z,rfl,j⟩;.go_wp2;go_end0;exact eH.ok (dW g j)
  .unfold d5;go_wp2;exact⟨rfl,eH.no (dW g j)⟩
 .unfold d5;go_wp2;exact⟨rfl,eH.no (dW l h)⟩
theorem TV (hu:∀W',Below W.heap.size W W'->UOK W')(h13:fB S fl=13):NR (eE S (d6 S n) fl) n 361 [] W:=by
 intro W' Z x w k deep B u E A C D F;show Vq 361 #[gj x w,aa deep] W' (eH (eE S (d6 S n) fl x) W');have j:eE S (d6 S n) fl x=((decide (x.1=0)&&zG x.2.2)&&Lib.validD x.2.1.data.toList):=by unfold eE;rw[h13];rfl
 rw[j];obtain⟨c,d,rfl⟩:=u.form;have⟨h,g⟩:=ec W' (Vm x c d) 55;have o:=Ge (W'.alloc (Obj.cells (Vm x c d) 55)) x c d;have p:Hid (∀a,Below W'.heap.size W' a->Vq 325 #[ag x.2.1] a λe w'=>e= .returned (.bool (Lib.validD x.2.1.data.toList))/\Below a.heap.size a w'):=λa t=>BO a x.2.1 Vv (hu a (dW B t))
 unfold gj at*;clear j;generalize Lib.validD x.2.1.data.toList=r at*;generalize(decide (x.1=0)&&zG x.2.2)=s at*;have⟨l,m⟩:=g.I;go_enter func361,ntmps361;go_wp2_with fail;refine o.V ?_;intro e w2 v;generalize W'.alloc (Obj.cells (Vm x c d) 55)=w1 at*;rcases v.part with⟨rfl,rfl,b⟩|⟨rfl,y,z,rfl,b⟩
 .have f:=dW h b;have q:=g.G b g.lt;clear l m;have⟨l,m⟩:=q.I;go_wp2_with fail;refine(p.o w2 f).V ?_;rintro e w3 ⟨rfl,i⟩;cases r
  .go_wp2_with (go_at_call 157;refine(AX _).V ?_;rintro e w2 ⟨rfl,rfl⟩;unfold d5)
   exact⟨rfl,eH.no (dW f i)⟩
  .go_wp2_with (go_at_call 157;refine(AW _).V ?_;rintro e w2 ⟨rfl,rfl⟩)
   go_end0;exact eH.ok (dW f i)
 .unfold d5;go_wp2;exact⟨rfl,eH.no (dW h b)⟩
theorem TW (h14:fB S fl=14):NR (eE S (d6 S n) fl) n 362 [] W:=by
 intro a Z x m k deep B j r o p q t;show Vq 362 #[gj x m,aa deep] a (eH (eE S (d6 S n) fl x) a);have g:eE S (d6 S n) fl x=(decide (x.1=0)&&zG x.2.2):=by unfold eE;rw[h14];rfl
 rw[g];obtain⟨c,d,rfl⟩:=j.form;have⟨f,i⟩:=ec a (Vm x c d) 55;have h:=Ge (a.alloc (Obj.cells (Vm x c d) 55)) x c d;unfold gj at*;clear g;generalize(decide (x.1=0)&&zG x.2.2)=s at*;have⟨u,v⟩:=i.I;go_enter func362,ntmps362;go_wp2_with fail;refine h.V ?_;intro e w2 l;rcases l.part with⟨rfl,rfl,b⟩|⟨rfl,y,z,rfl,b⟩;.go_wp2;go_end0;exact eH.ok (dW f b)
 .unfold d5;go_wp2;exact⟨rfl,eH.no (dW f b)⟩
theorem TX (cb cf:Nat)(cut:Int->Int)(p:dZ W cb #[.func (.func cf) #[] #[]] 423)(K:∀args w,(callFunc cf args).run prog w= .ok (.enter cf args) w)(q:∀(W:aw) (x:Int),0<=x->x<2^64->Vq cf #[.int .u64 x] W λe w'=>e= .returned (.int .u64 (cut x))/\W=w')
  (t:∀x,(cut x==x)=zH (fB S fl) x) (h16:fB S fl≠16) (h13:fB S fl≠13) (h14:fB S fl≠14):NR (eE S (d6 S n) fl) n 364 [ah cb] W:=by
 intro a Z x P k deep B L R H I Q T;show Vq 364 #[gj x P,aa deep,ah cb] a (eH (eE S (d6 S n) fl x) a);have u:eE S (d6 S n) fl x=((ox x.2.1&&zG x.2.2)&&zH (fB S fl) x.1):=by unfold eE;rw[dQ h16,dQ h13,dQ h14]
 rw[u];obtain⟨d,f,rfl⟩:=L.form;have o:=p.G B p.lt;have⟨j,g⟩:=ec a (Vm x d f) 55;have C:=Es (a.alloc (Obj.cells (Vm x d f) 55)) x d f;have A:=λW=>q W x.1 H I
 have U:=t x.1;unfold gj at*;clear u q t;generalize zH (fB S fl) x.1=r at*;generalize cut x.1=cx at*;generalize(ox x.2.1&&zG x.2.2)=s at*;have⟨N,O⟩:=g.I;go_enter func364,ntmps364;go_wp2_with fail;refine C.V ?_;intro e w2 M;generalize a.alloc (Obj.cells (Vm x d f) 55)=w1 at*;rcases M.part with⟨rfl,rfl,c⟩|⟨rfl,y,z,rfl,c⟩
 .have l:=dW j c;have i:=o.G l o.lt;have h:=g.G c g.lt;have G:ak w2 w2.drew:=(Below.refl _ _).drew;have m:=dW l G;clear N O;have J:w2.drew.cell? (aj cb 0)=some (.func (.func cf) #[] #[])/\w2.drew.cell? (aj a.heap.size 0)=some (.int .u64 x.1):=⟨i.drew.cell 0,h.drew.cell 0⟩;have E:=A w2.drew;go_upto_region 2 with fail
  go_region_held2 (λW=>W.cell? (aj cb 0)=some (.func (.func cf) #[] #[])/\W.cell? (aj a.heap.size 0)=some (.int .u64 x.1))
   (first|exact F|exact J)
   (first
    |(
      go_at_call 157;refine(Rg r _).V ?_;intro e w3 D;rcases D.part with⟨rfl,rfl,b⟩|⟨rfl,y,z,rfl,b⟩;rotate_left;.have v:=dW m b;unfold d5;go_wp2;exact⟨rfl,eH.no v⟩
      have F:w3.cell? (aj cb 0)=some (.func (.func cf) #[] #[])/\w3.cell? (aj a.heap.size 0)=some (.int .u64 x.1):=⟨(i.drew.G b i.drew.lt).cell 0,(h.drew.G b h.drew.lt).cell 0⟩)
    |(
      refine E.V ?_
      rintro e w3 ⟨rfl,rfl⟩))
  all_goals
   go_wp2;go_end0;exact eH.ok (dW m b)
 .unfold d5;go_wp2;exact⟨rfl,eH.no (dW j c)⟩
end
def SU (w:aw)(Q:ax)(b:Nat)(iq:aC)(v:Value):Prop:=
 ∃f cap,Me v f cap/\∀(S:eF) (fl:fw) (n:Nat) (W:aw),Kp Q w W->fB S fl=b->(∀W',Below W.heap.size W W'->UOK W')->(fB S fl=16->∃t,fC S fl=some t/\Jh S iq n t W)->NR (eE S (d6 S n) fl) n f cap W
def Jk (w:aw)(Q:ax)(mp:an)(g:GF)(iq:aC)(v:Value):Prop:=
 ∃f cap,Me v f cap/\∀(S:eF) (d:MT) (fl:fw) (n:Nat) (W:aw),Kp Q w W->FG S mp d fl g->(∀W',Below W.heap.size W W'->UOK W')->(fB S fl=16->∃t,fC S fl=some t/\Jh S iq n t W)->O1 (fG S (d6 S n) fl) n f cap W
def Mv (w:aw)(Q:ax)(w':aw)(Q':ax):Prop:=∀b,Q b->b<w.heap.size->Q' b/\w'.heap[b]?=w.heap[b]?
theorem Mv.O (a:∀b,Q b->b<w.heap.size->w'.heap[b]?=w.heap[b]?):Mv w Q w' Q:=λb q l=>⟨q,a b q l⟩
theorem Mv.V (a:∀b,Q b->b<w.heap.size->Q' b):Mv w Q w Q':=λb q l=>⟨a b q l,rfl⟩
theorem Mv.lt (h:Mv w Q w' Q'){b:Nat}(q:Q b)(l:b<w.heap.size):b<w'.heap.size:=by
 have:=(h b q l).2;rw[bU l]at this;exact(bK.1 this).1
theorem Kp.mv {W:aw}(a:Kp Q' w' W)(h:Mv w Q w' Q'):Kp Q w W:=λb q l=>(a b (h b q l).1 (h.lt q l)).J (h b q l).2
theorem Jk.mV {mp:an}{g:GF}{iq:aC}{v:Value}(e:Mv w Q w' Q')(h:Jk w Q mp g iq v):Jk w' Q' mp g iq v:=by
 obtain⟨f,a,b,c⟩:=h;exact⟨f,a,b,λS d fl n W q=>c S d fl n W (q.mv e)⟩
end
def Ig (S:eF)(R:MT->PM->ap)(f:fw)(l:List PV):(nH S R f l).length<=(kN S R f l).length:=by
 unfold kN;split;.have:=rk (nH S R f l);rw[aN];omega
 .rw[tJ];exact Nat.le_add_left _ _
def yG {c:Int}(a:0<=c)(h1:c<=2^47):IntKind.i64.wrap c=c:=by
 simp[IntKind.wrap,IntKind.bits,IntKind.signed];omega
def O4 (n k:Int):(fH n k).length<=10:=(nY 9 (n*8+k)).1
def O5 {S:eF}{mp:an}{B n:Nat}(H:O2 S mp B n)(Y:Ew S)(w:aw)(Z:ax)(v:Value)(l:List PV)(d:MT)(f:fw)(g:GF)(fb:Nat)(k:Nat)(F:tz w B S mp)(s:fi w (λb=>b<B) mp g fb)(j:FG S mp d f g)(i:0<=f.num/\f.num<=536870911)(K:pS (gV k w Z) w Z v l)(P:Qh k l)
  (Q:∀x∈l,eE S (d6 S n) f x=true) (p:(kN S (eI S n) f l).length<=2^47):
  Vq 162 #[ah fb,v] w (ip (kN S (eI S n) f l) w):=by
 obtain⟨a,c,rfl⟩:=K.form;have⟨pv,rv,m,_,X,N⟩:=s.blk;obtain⟨R,rfl⟩:=gL N;have M:=aM (Ig S (eI S n) f l) p;have u:=yD w _ mp g fb s;rw[j.eq,j.tk]at u;have z:0<=oZ S f/\oZ S f<8:=by rw[<-j.tk];exact tG mp g
 have L:Hid (∀W,Vq 242 #[.agg #[aa f.num,aa (oZ S f)]] W λe w'=>e= .returned (aa (fH f.num (oZ S f)).length)/\Below W.heap.size W w'):=λW=>Qf W f.num (oZ S f) i.1 i.2 z.1 z.2
 have t:Hid (∀W,ak w W->Vq 209 #[ah fb] W λe w'=>e= .returned (.bool (iN S f))/\Below W.heap.size W w'):=λW o=>by
  have:=mT W _ mp g fb (s.O λb _ q=>o.block b q)
  rwa [j.pk]at this
 have J:Hid (∀W,ak w W->Vq 233 #[.agg #[aa (eK mp g),.pointer R],.slice a l.length c] W (ip (nH S (eI S n) f l) W)):=λW o=>
  Ex H Y W Z _ l d f g fb (.pointer R) k (F.on (eh o F.le)) (s.O λb _ q=>o.block b q) j (pS.G o (aE _) K) P ⟨rv,m.G o m.lt⟩ Q M
 have U:Hid (∀W,Vq 243 #[aa (nH S (eI S n) f l).length] W λe w'=>e= .returned (aa (fI (nH S (eI S n) f l)).length)/\w'=W):=λW=>uV W _ M
 have htl:=O4 f.num (oZ S f)
 have hlen:(kN S (eI S n) f l).length=if iN S f then(fH f.num (oZ S f)).length+(fI (nH S (eI S n) f l)).length else(fH f.num (oZ S f)).length*l.length+(nH S (eI S n) f l).length:=by
  unfold kN;split;.rw[aN]
  .rw[tJ];rfl
 unfold ip;rw[hlen]at p⊢;clear hlen;clear N X s z Q P K H F i j;generalize nH S (eI S n) f l=y at*;generalize oZ S f=tk at*
 cases hpk:iN S f with
 |true=>
  rw[hpk]at t p;rw[dR rfl]at p⊢;generalize(fI y).length=yl at*;generalize(fH f.num tk).length=tl at*;go_enter func162,ntmps162;go_wp2_with fail;refine u.V ?_;rintro e w2 ⟨rfl,A⟩;go_wp2_with fail;refine(L.o w2).V ?_;rintro e w3 ⟨rfl,C⟩;have r:=dW A C;go_wp2_with fail;refine(t.o w3 r).V ?_;rintro e I ⟨rfl,D⟩;have h:=dW r D;have G:=m.G h m.lt;have⟨k1,k2⟩:=G.I;go_wp2_with fail;refine(J.o I h).V ?_;rintro e T ⟨rfl,E⟩;go_wp2_with fail;refine(U.o T).V ?_;rintro e w6 ⟨rfl,rfl⟩;have V:(tl:Int)+(yl:Int)<=2^47:=Vv;go_wp2;go_ret
  exact⟨by rw[dG];rfl,dW h E⟩
 |false=>
  rw[hpk]at t p;rw[dQ Vw]at p⊢;generalize(fH f.num tk).length=tl at*;have O:(tl:Int)*(l.length:Int)=((tl*l.length:Nat):Int):=by rw[Int.natCast_mul]
  generalize tl*l.length=pl at*;go_enter func162,ntmps162;go_wp2_with fail;refine u.V ?_;rintro e w2 ⟨rfl,A⟩;go_wp2_with fail;refine(L.o w2).V ?_;rintro e w3 ⟨rfl,C⟩;have r:=dW A C;go_wp2_with fail;refine(t.o w3 r).V ?_;rintro e I ⟨rfl,D⟩;have h:=dW r D;have G:=m.G h m.lt;have⟨k1,k2⟩:=G.I;go_wp2_with fail;refine(J.o I h).V ?_;rintro e T ⟨rfl,E⟩;have V:(pl:Int)+(y.length:Int)<=2^47:=Vv;go_wp2;go_ret;exact⟨by rw[dG];rfl,dW h E⟩
def uY {S:eF}{mp:an}{B:Nat}(hN:Ew S):∀n,O2 S mp B n:=by
 intro n
 induction n with
 |zero=>
  intro w Z v m d mb T nm k F hm t P H U p
  cases p
 |succ n ih=>
  intro w Z v m d mb T nm k F hm t P H U p y
  cases k with
  |zero=>exact H.elim
  |succ k=>
  obtain⟨cs,hr,VV⟩:=H;obtain⟨a,c,rfl⟩:=hr.form;obtain⟨ho1,ho2,VW⟩:=U;rw[d6,aQ]at p;have X:=λx h=>yE (x:=x) p.1 h
  have⟨B0,K1⟩:=ec w #[.slice a m.fs.length c,ag m.unk] 49;rw[eI]at y;unfold ip;rw[eI];rw[aN]at y⊢;rw[show m.unk.data.toList.length=m.unk.size by simp]at y⊢
  have HC:Hid (∀(W:aw) (x:PF) (f:fw) (g:GF) (o:Nat) (v:Value),ak w W->x∈m.fs->ed d.fs x.1=some f->FG S mp d f g->fi W (λb=>b<B) mp g o->pS (gV k w Z) w Z v x.2->Vq 162 #[ah o,v] W (ip (kj S (eI S n) d x) W)):=λW x f g o v u h j G E I=>by
   have⟨f',q1,q2⟩:=X x h;obtain rfl:f=f':=by rw[j]at q1;exact Option.some.inj q1
   have hb:kj S (eI S n) d x=kN S (eI S n) f x.2:=by unfold kj;rw[j]
   have N:(kj S (eI S n) d x).length<=2^47:=aM (wZ h) Vv;rw[hb]at N⊢;exact O5 ih hN W Z v x.2 d f g o k (F.on (eh u F.le)) E G (P _ _ j) (pS.G u (aE _) I) (VW x h) (λv I=>yF q2 I) N
  have HT:Hid (∀i,((m.fs.take i).flatMap (kj S (eI S n) d)).length+m.unk.size<=2^47):=λi=>by
   have:=iX (g:=kj S (eI S n) d) (l:=m.fs) i;show _<=_;omega
  generalize kj S (eI S n) d=bx at*;clear y p;have⟨k1,k2⟩:=K1.I;go_enter func102,ntmps102;go_wp2;generalize w.alloc (am #[.slice a m.fs.length c,ag m.unk] 49)=w1 at*;go_loopw [5,7,14] (λsv _ J wr=>∃i:Nat,J=aa i/\i<=m.fs.length/\sv=aa (((m.fs.take i).flatMap bx).length+m.unk.size:Nat)/\ak w1 wr) (λ_ _ J _=>m.fs.length-(intOf J).toNat)
  case atStart=>exact⟨0,rfl,aP _,Vw,Below.refl _ _⟩
  case round=>
   obtain⟨i,rfl,hi,rfl,L⟩:=hrel;clear k1 k2;have r:=dW B0 L;by_cases hlt:i<m.fs.length
   .have⟨x,h⟩:=gx hlt;have⟨vv,p1,p2,p3⟩:=VV.get h;obtain⟨z,A,rfl⟩:=p1.form;obtain⟨g0,rfl,hzg0,Q,D⟩:=hr.at Vv;have t0:=D wr (r.block _ Q) _ _ p2;have t1:=lK (D wr (r.block _ Q) _ _ p3);have⟨C,s⟩:=ec wr #[aa x.1,.slice z x.2.length A] 58;have K:=dW r C;have VU:=dW L C;have⟨f,j,_⟩:=X x (aL h);have⟨g,Y,G⟩:=t.yes _ _ j;have M:=qW _ (λb=>b<B) mp mb nm T x.1 (hm.O λb _ q=>K.drew.block b q) t.srt t.len;rw[Y]at M;have HZ:=λo q=>HC.o _ x f g o _ K.drew (aL h) j G q p1
    have V:=HT.o (i+1);rw[gi h,aN]at V;have HS:Hid (((m.fs.take (i+1)).flatMap bx).length+m.unk.size=((m.fs.take i).flatMap bx).length+m.unk.size+(bx x).length):=(by show((m.fs.take (i+1)).flatMap bx).length+m.unk.size=_;rw[gi h,aN];omega);have hT2:((m.fs.take i).flatMap bx).length+m.unk.size+(bx x).length<=2^47:=Vv;generalize((m.fs.take i).flatMap bx).length+m.unk.size=sz at*;have hij:(i:Int)<(m.fs.length:Int):=Vv;have VK:IntKind.i64.wrap ((sz:Int)+((bx x).length:Int))=(sz:Int)+((bx x).length:Int):=yG Vv Vv;clear D p2 p3 C h Y j V;go_upto_region 5 with fail
    generalize wr.alloc (am #[aa x.1,.slice z x.2.length A] 58)=w2 at*;generalize wr.heap.size=vb at*;have u:w2.drew.cell? (aj vb 0)=some (aa x.1)/\w2.drew.cell? (aj vb 1)=some (.slice z x.2.length A):=⟨s.drew.cell 0,s.drew.cell 1⟩
    go_region_held2 (λW=>W.cell? (aj vb 0)=some (aa x.1)/\W.cell? (aj vb 1)=some (.slice z x.2.length A))
     (first|exact u|exact⟨O.cell 0,O.cell 1⟩)
     (first
      |(
        go_at_call 153;refine M.V ?_
        rintro e w3 ⟨⟨o,rfl,E⟩,rfl⟩)
      |(
        go_at_call 162;refine(HZ _ E).V ?_;rintro e w3 ⟨rfl,R⟩
        have O:=s.G (w:=w2.drew) R s.lt))
    go_wp2;go_roundw
    case rel=>exact⟨i+1,by go_num,Vv,by rw[HS.o,dG],dW VU.drew R⟩
    case measure=>simp[intOf];omega
   .obtain rfl:i=m.fs.length:=Vv;rw[bB];go_wp2;go_ret;exact⟨rfl,r⟩
def gV.under {w w':aw}{Z:ax}{N k:Nat}{v:Value}{m:PM}(h:gV k w Z v m)(c:Below N w w')(a:∀i,Z i->i<N):gV k w' Z v m:=h.O λb q _=>c.block b (a b q)
def pS.under {w w':aw}{Z:ax}{N k:Nat}{v:Value}{l:List PV}(h:pS (gV k w Z) w Z v l)(c:Below N w w')(a:∀i,Z i->i<N):pS (gV k w' Z) w' Z v l:=
 h.O (λ_ _ q=>q.under c a) λb q _=>c.block b (a b q)
def Rh (S:eF)(mp:an)(B n:Nat):Prop:=
 ∀(w:aw) (Z:ax) (v:Value) (m:PM) (d:MT) (mb:Nat) (gs:List GF) (nm:au) (k N b:Nat) (l:ap),tz w B S mp->jk w (λb=>b<B) mp mb nm gs->lJ S mp d gs->NQ d->gV k w Z v m->(∀i,Z i->i<N)->B<=N->N<=w.heap.size->pi k m->d6 S n d m=true->fJ w N b (eG b) l->l.length+(eI S n d m).length<=2^47->
  Vq 97 #[ah mb,.agg #[v,ag m.unk],eG b] w (ja N b l (eI S n d m) w)
def O8 {S:eF}{mp:an}{B n:Nat}(H:Rh S mp B n)(M:Ew S)(w:aw)(Z:ax)(mv:Value)(x:PV)(d:MT)(f:fw)(g:GF)(fb:Nat)(pv:Value)(k N b:Nat)(l:ap)(v:tz w B S mp)(a:fi w (λb=>b<B) mp g fb)(K:FG S mp d f g)(L:gV k w Z mv x.2.2)(Q:∀i,Z i->i<N)(A:B<=N)(m:N<=w.heap.size)(y:pi k x.2.2)(z:0<=x.1)(h1:x.1<2^64)
  (C:∃rv,dZ w fb #[aa g.f.num,aa g.form,aa (eK mp g),pv,rv] 220) (hs:eE S (d6 S n) f x=true) (Y:fJ w N b (eG b) l) (c:l.length+(gp S (eI S n) f x).length<=2^47):
  Calls prog 234 #[.agg #[aa (eK mp g),pv],gj x mv,eG b] w (ja N b l (gp S (eI S n) f x) w):=by
 obtain⟨I,J,rfl⟩:=L.form;have VR:=Mc K;unfold gj;rw[K.gb];by_cases h16:fB S f=16
 .have⟨t,s,u,nm,rv,E,e,h,j⟩:=Gi v a K h16;obtain⟨a,r⟩:=C;obtain rfl:pv=ah s:=(by have:=(dZ.cell e 3).sy.J (dZ.cell r 3);simpa using this.sy);have P:gp S (eI S n) f x=fI (eI S n t x.2.2):=by unfold gp;rw[dR h16,E]
  have O:=uW hs h16 E;rw[P]at c;unfold fI at c;rw[aN]at c;rw[P,h16];have⟨a,o,p⟩:=gN w #[aa 16,ah s] (Vm x I J) 216 55;have G:=uY M n _ Z _ x.2.2 t s u nm k (v.on (eh a v.le)) (h.O λb q _=>a.block b (by have:=v.le;omega)) j (uX M E) (L.G a (aE _)) y O Vv
  have K:Hid (∀(W:aw) (D:ap),Below N w W->fJ W N b (eG b) D->D.length+(eI S n t x.2.2).length<=2^47->Vq 97 #[ah s,.agg #[.slice I x.2.2.fs.length J,ag x.2.2.unk],eG b] W (ja N b D (eI S n t x.2.2) W)):=λW D F T R=>
   H W Z _ x.2.2 t s u nm k N b D (v.on (eh F A)) (h.O λb q _=>F.block b Vv) j (uX M E) (L.under F Q) Q A (by have:=F.size;omega) y O T R
  have h:=Y.on a;generalize eI S n t x.2.2=y at*;have⟨R,T⟩:=o.I;have⟨U,V⟩:=p.I;clear e r H P O;go_in
  go_wp2_with fail;generalize(w.alloc (am #[aa 16,ah s] 216)).alloc (Obj.cells (Vm x I J) 55)=w1 at*;refine G.V ?_;rintro e w2 ⟨rfl,G⟩;have X:=dW a G;have j:=X.size;go_wp2_with fail;refine(qC y.length (h.on G) Vv Vv Vv).V ?_;rintro e w3 ⟨rfl,u,j⟩;have r:=j.fr _ _ _ Vy Vy (o.G G o.lt);have s:=j.fr _ _ _ Vy Vy (p.G G p.lt);have Q:=(Wr.of X m).J j;clear R T U V;have⟨R,T⟩:=r.I;have⟨U,V⟩:=s.I;go_wp2_with fail;refine(K.o w3 _ Q.bel u (by rw[aN];omega)).V ?_;rintro e t ⟨rfl,r,s⟩;go_wp2;go_end0;exact⟨rfl,by rw[bj]at r;exact r,Q.J s⟩
 .have⟨t,v⟩:=xd z h1;have⟨a,o,p⟩:=gN w #[aa (fB S f),pv] (Vm x I J) 216 55;have h:=Y.on a;have Y:=a.size;have r:=aM m Y;have s:=λW=>tF W x.1 z h1
  clear hs H C Y;rcases AS VR with q|q|q|q|q|q|q|q|q|q|q|q|q|q|q|q|q
  case inr.inr.inr.inr.inr.inr.inr.inr.inr.inr.inr.inr.inr.inr.inr.inr=>exact absurd q h16
  all_goals
   rw[q]at a o p h r;have⟨R,T⟩:=o.I;have⟨U,V⟩:=p.I;clear h16;unfold gp at c⊢;simp only[q,Nat.reduceEqDiff,if_false,if_true,or_self,or_true,or_false]at c⊢;go_in
   go_wp2_with (first|(go_at_call 318;refine(Ib _ h c r).V ?_;rintro e w2 ⟨rfl,u,j⟩)|(go_at_call 319;refine(L2 _ h z h1 c r).V ?_;rintro e w2 ⟨rfl,u,j⟩)|(go_at_call 320;refine(Ia _ h z h1 c r).V ?_;rintro e w2 ⟨rfl,u,j⟩)|(go_at_call 321;refine(s _).V ?_;rintro e w2 ⟨rfl,rfl⟩)|(go_at_call 315;(first|refine(oX _ h z h1 c r).V ?_|refine(oX _ h t v c r).V ?_);rintro e w2 ⟨rfl,u,j⟩))
   go_end0;exact⟨rfl,u,(Wr.of a m).J j⟩
def Tz (S:eF)(R:MT->PM->ap)(f:fw)(l:List PV):ap:=if iN S f then fH f.num (oZ S f)++vi (nH S R f l).length else []
def TA (S:eF)(f:fw):ap:=if iN S f then []else fH f.num (oZ S f)
def Pa (S:eF)(R:MT->PM->ap)(f:fw)(l:List PV):kN S R f l=Tz S R f l++l.flatMap λv=>TA S f++gp S R f v:=by
 unfold kN Tz TA;split;.simp only[aX];rw[fI,bj];rfl
 .rfl
def Pb {S:eF}{mp:an}{B n:Nat}(H:Rh S mp B n)(hN:Ew S)(w:aw)(Z:ax)(v:Value)(l:List PV)(d:MT)(f:fw)(g:GF)(fb k N b:Nat)(l0:ap)(cx:tz w B S mp)(hf:fi w (λb=>b<B) mp g fb)(Q:FG S mp d f g)(R:0<=f.num/\f.num<=536870911)(hv:pS (gV k w Z) w Z v l)(hZ:∀i,Z i->i<N)(VO:B<=N)(VQ:N<=w.heap.size)(X:Qh k l)
  (hs:∀x∈l,eE S (d6 S n) f x=true) (s:fJ w N b (eG b) l0) (hl:l0.length+(kN S (eI S n) f l).length<=2^47):
  Vq 152 #[ah fb,v,eG b] w (ja N b l0 (kN S (eI S n) f l) w):=by
 obtain⟨a,c,rfl⟩:=hv.form;have⟨pv,rv,r,hfB,VY,Wd⟩:=hf.blk;obtain⟨O,rfl⟩:=gL Wd;have V8:(nH S (eI S n) f l).length<=2^47:=by have:=Ig S (eI S n) f l;omega
 have VV:0<=oZ S f/\oZ S f<8:=by rw[<-Q.tk];exact tG mp g
 have hk:∀{W},Below N w W->fi W (λb=>b<B) mp g fb:=λs=>hf.O λb q _=>s.block b Vv
 have HT:Hid (∀W,Below N w W->Vq 231 #[ah fb] W λe w'=>e= .returned (.agg #[aa f.num,aa (oZ S f)])/\Below W.heap.size W w'):=λW s=>by
  have:=yD W _ mp g fb (hk s)
  rwa [Q.eq,Q.tk]at this
 have HE:Hid (∀(W:aw) (C:ap),Below N w W->fJ W N b (eG b) C->C.length+(fH f.num (oZ S f)).length<=2^47->Vq 230 #[eG b,.agg #[aa f.num,aa (oZ S f)]] W (ja N b C (fH f.num (oZ S f)) W)):=λW C P hw VP=>
  L6 f.num (oZ S f) R.1 R.2 VV.1 VV.2 hw VP (by have:=P.size;omega)
 have HP:Hid (∀W,Below N w W->Vq 209 #[ah fb] W λe w'=>e= .returned (.bool (iN S f))/\Below W.heap.size W w'):=λW s=>by
  have:=mT W _ mp g fb (hk s)
  rwa [Q.pk]at this
 have HV:Hid (∀W,Below N w W->Vq 233 #[.agg #[aa (eK mp g),.pointer O],.slice a l.length c] W (ip (nH S (eI S n) f l) W)):=λW s=>
  Ex (uY hN n) hN W Z _ l d f g fb (.pointer O) k (cx.on (eh s VO)) (hk s) Q (hv.under s hZ) X ⟨rv,(s.block fb Vv).J r⟩ hs V8
 have HX:Hid (∀(W:aw) (x:PV) (Y:Value) (C:ap),Below N w W->x∈l->gV k w Z Y x.2.2->fJ W N b (eG b) C->C.length+(gp S (eI S n) f x).length<=2^47->Vq 234 #[.agg #[aa (eK mp g),.pointer O],gj x Y,eG b] W (ja N b C (gp S (eI S n) f x) W)):=λW x Y C P o hm hw VP=>
  O8 H hN W Z Y x d f g fb (.pointer O) k N b C (cx.on (eh P VO)) (hk P) Q (hm.under P hZ) hZ VO (by have:=P.size;omega) (X.2 x o).2.2.2 (X.2 x o).1 (X.2 x o).2.1 ⟨rv,(P.block fb Vv).J r⟩ (hs x o) hw VP
 obtain⟨vcs,We,Wf⟩:=hv;have hll:=X.1;rw[Pa]at hl⊢;have HD:Hid (Tz S (eI S n) f l=if iN S f then fH f.num (oZ S f)++vi (nH S (eI S n) f l).length else []):=rfl;have HG:Hid (TA S f=if iN S f then []else fH f.num (oZ S f)):=rfl;generalize Tz S (eI S n) f l=hd at*;generalize TA S f=tg at*;generalize nH S (eI S n) f l=y at*;generalize gp S (eI S n) f=bv at*;generalize fH f.num (oZ S f)=tb at*;generalize oZ S f=tk at*;generalize iN S f=pk at*;generalize eK mp g=gb at*;obtain⟨m,VZ⟩:∃m:PV->ap,m=λx=>tg++bv x:=⟨_,rfl⟩
 have HB:Hid (∀x,m x=tg++bv x):=λx=>by rw[VZ]
 rw[<-VZ]at hl⊢;rw[aN]at hl
 have HA:Hid (∀j,l0.length+hd.length+((l.take j).flatMap m).length<=2^47):=λj=>by
  have:=iX (g:=m) (l:=l) j;omega
 clear VZ Wd VY hf VV hs X H cx R Q hk hl;have P1:=HP.o w (Below.refl _ _)
 cases pk with
 |false=>
  have VS:Hid (hd= []):=HD.o;obtain rfl:tg=tb:=HG.o;go_enter func152,ntmps152;go_wp2_with fail;refine P1.V ?_;rintro e w1 ⟨rfl,b1⟩;have W1:=Wr.of b1 VQ;have Wl:=s.on b1;go_wp2;go_loopw [7,24] (λ_ U wr=>∃j:Nat,U=aa j/\j<=l.length/\fJ wr N b (eG b) (l0++(l.take j).flatMap m)/\Wr N w wr) (λ_ U _=>l.length-(intOf U).toNat)
  case atStart=>grind
  case round=>
   obtain⟨j,rfl,hj,VL,F⟩:=hrel;have hsz:=F.bel.size;by_cases hlt:j<l.length
   .have⟨x,o⟩:=gx hlt;have⟨Y,p1,p2,p3,p4,p5⟩:=Wf.get o;obtain⟨J,K,rfl⟩:=p1.form;obtain⟨gv,rfl,VN,Wh,u⟩:=We.at Vv;have z:=F.bel.block _ (hZ _ VN);have t0:=u wr z _ _ p2;have t1:=lK (u wr z _ _ p3);have t2:=lK (u wr z _ _ p4);have t3:=lK (u wr z _ _ p5);have Wm:(j:Int)<(l.length:Int):=Vv;have⟨B1,K1⟩:=ec wr (Vm x J K) 55;have A:=F.J (Wr.of B1 Vv);have VT:=VL.on B1;have I:=HA.o (j+1);rw[gi o,HB.o]at I;have HL:Hid (l0++(l.take (j+1)).flatMap m=l0++(l.take j).flatMap m++tg++bv x):=(by show l0++(l.take (j+1)).flatMap m=_;rw[gi o,HB.o];grind);have Wn:(l0++(l.take j).flatMap m).length+tg.length+(bv x).length<=2^47:=(by grind);have VM:=aL o;generalize l0++(l.take j).flatMap m=lj at*;clear u p2 p3 p4 p5 o I z;have Wo:=A.bel.size;have P2:=HP.o _ A.bel;go_wp2_with fail;generalize wr.alloc (Obj.cells (Vm x J K) 55)=w2 at*;refine P2.V ?_;rintro e w3 ⟨rfl,G⟩;have W3:=A.J (Wr.of G Vv);go_wp2_with fail;refine(HT.o w3 W3.bel).V ?_;rintro e L ⟨rfl,b4⟩;have B4:=dW G b4;have p:=A.J (Wr.of B4 Vv);go_wp2_with fail;refine(HE.o L lj p.bel (VT.on B4) Vv).V ?_;rintro e wc ⟨rfl,VW,q2⟩;have E:=p.J q2;have t:=q2.fr _ _ _ Vy Vy (K1.G B4 K1.lt);have h3:dZ wc fb _ _:=(E.bel.block fb Vv).J r;have VU:=HX.o wc.drew x _ (lj++tg) E.bel.drew VM p1 (VW.on (Vs wc).drew) (by rw[aN];omega);unfold gj at VU;go_upto_region 8 with fail
    generalize wr.heap.size=vb at*
    have hC:wc.drew.cell? (aj fb 2)=some (aa gb)/\wc.drew.cell? (aj fb 3)=some (.pointer O)/\wc.drew.cell? (aj vb 0)=some (.int .u64 x.1)/\wc.drew.cell? (aj vb 1)=some (ag x.2.1)/\wc.drew.cell? (aj vb 2)=some (.slice J x.2.2.fs.length K)/\wc.drew.cell? (aj vb 3)=some (ag x.2.2.unk):=
     ⟨h3.drew.cell 2,h3.drew.cell 3,t.drew.cell 0,t.drew.cell 1,t.drew.cell 2,t.drew.cell 3⟩
    go_region_held2 (λW=>W.cell? (aj fb 2)=some (aa gb)/\W.cell? (aj fb 3)=some (.pointer O)/\W.cell? (aj vb 0)=some (.int .u64 x.1)/\W.cell? (aj vb 1)=some (ag x.2.1)/\W.cell? (aj vb 2)=some (.slice J x.2.2.fs.length K)/\W.cell? (aj vb 3)=some (ag x.2.2.unk))
     (first|exact hC|exact⟨M.cell 2,M.cell 3,D.cell 0,D.cell 1,D.cell 2,D.cell 3⟩)
     (first
      |(
        go_at_call 234;refine VU.V ?_;rintro e L ⟨rfl,q1,V⟩;have p:Wr N w L:=⟨E.bel.drew.J V.bel,λi cs T r h2 h=>V.fr i cs T r h2 (E.fr i cs T r h2 h)⟩;have M:dZ L fb _ _:=(p.bel.block fb Vv).J r
        have D:=V.fr _ _ _ Vy Vy t))
    go_wp2;go_roundw
    case rel=>exact⟨j+1,by go_num,Vv,by rw[HL.o];exact q1,p⟩
    case measure=>simp[intOf];omega
   .obtain rfl:j=l.length:=Vv;rw[bB]at VL;go_wp2;go_end0
    exact⟨rfl,by rw[VS.o,aX];omega,F⟩
 |true=>
  have VS:Hid (hd=tb++vi y.length):=HD.o;have Wp:Hid (tg= []):=HG.o;have I:=HA.o 0;rw[VS.o]at I;simp only[aN]at I;go_enter func152,ntmps152;go_wp2_with fail;refine P1.V ?_;rintro e w2 ⟨rfl,b2⟩;have A:=Wr.of b2 VQ;go_wp2_with fail;refine(HT.o w2 A.bel).V ?_;rintro e w3 ⟨rfl,G⟩;have B3:=dW b2 G;have W3:=Wr.of B3 VQ;go_wp2_with fail;refine(HE.o w3 l0 W3.bel (s.on B3) Vv).V ?_;rintro e L ⟨rfl,q1,q2⟩;have p:=W3.J q2;have M:=(p.bel.block fb Vv).J r;have⟨k1,k2⟩:=dZ.I M;go_wp2_with fail;refine(HV.o L p.bel).V ?_;rintro e w5 ⟨rfl,b5⟩;have Wq:=p.bel.size;have Ws:=b5.size;go_wp2_with fail;refine(qC y.length (q1.on b5) V8 (by grind) Vv).V ?_;rintro e w1 ⟨rfl,r1,r2⟩;have W1:=(p.J (Wr.of b5 Vv)).J r2;have Wl:fJ w1 N b (eG b) (l0++hd):=by rw[VS.o,<-bj];exact r1
  clear k1 k2 M VS q1 q2 b5 r1 r2 p W3 A B3 b2 G Wq Ws I;go_wp2;go_loopw [7,24] (λ_ U wr=>∃j:Nat,U=aa j/\j<=l.length/\fJ wr N b (eG b) (l0++hd++(l.take j).flatMap m)/\Wr N w wr) (λ_ U _=>l.length-(intOf U).toNat)
  case atStart=>grind
  case round=>
   obtain⟨j,rfl,hj,VL,F⟩:=hrel;have hsz:=F.bel.size;by_cases hlt:j<l.length
   .have⟨x,o⟩:=gx hlt;have⟨Y,p1,p2,p3,p4,p5⟩:=Wf.get o;obtain⟨J,K,rfl⟩:=p1.form;obtain⟨gv,rfl,VN,Wh,u⟩:=We.at Vv;have z:=F.bel.block _ (hZ _ VN);have t0:=u wr z _ _ p2;have t1:=lK (u wr z _ _ p3);have t2:=lK (u wr z _ _ p4);have t3:=lK (u wr z _ _ p5);have Wm:(j:Int)<(l.length:Int):=Vv;have⟨B1,K1⟩:=ec wr (Vm x J K) 55;have A:=F.J (Wr.of B1 Vv);have VT:=VL.on B1;have I:=HA.o (j+1);rw[gi o,HB.o]at I;have HL:Hid (l0++hd++(l.take (j+1)).flatMap m=l0++hd++(l.take j).flatMap m++tg++bv x):=(by show l0++hd++(l.take (j+1)).flatMap m=_;rw[gi o,HB.o];grind);have Wn:(l0++hd++(l.take j).flatMap m).length+tg.length+(bv x).length<=2^47:=(by grind);have VM:=aL o;generalize l0++hd++(l.take j).flatMap m=lj at*;clear u p2 p3 p4 p5 o I z;have Wo:=A.bel.size;have P2:=HP.o _ A.bel;go_wp2_with fail;generalize wr.alloc (Obj.cells (Vm x J K) 55)=w2 at*;refine P2.V ?_;rintro e wc ⟨rfl,G⟩;have VW:fJ wc N b (eG b) (lj++tg):=by rw[Wp.o,bV];exact VT.on G
    have E:=A.J (Wr.of G Vv);have t:=K1.G G K1.lt;have h3:dZ wc fb _ _:=(E.bel.block fb Vv).J r;have VU:=HX.o wc.drew x _ (lj++tg) E.bel.drew VM p1 (VW.on (Vs wc).drew) (by rw[aN];omega);unfold gj at VU;go_upto_region 8 with fail
    generalize wr.heap.size=vb at*
    have hC:wc.drew.cell? (aj fb 2)=some (aa gb)/\wc.drew.cell? (aj fb 3)=some (.pointer O)/\wc.drew.cell? (aj vb 0)=some (.int .u64 x.1)/\wc.drew.cell? (aj vb 1)=some (ag x.2.1)/\wc.drew.cell? (aj vb 2)=some (.slice J x.2.2.fs.length K)/\wc.drew.cell? (aj vb 3)=some (ag x.2.2.unk):=
     ⟨h3.drew.cell 2,h3.drew.cell 3,t.drew.cell 0,t.drew.cell 1,t.drew.cell 2,t.drew.cell 3⟩
    go_region_held2 (λW=>W.cell? (aj fb 2)=some (aa gb)/\W.cell? (aj fb 3)=some (.pointer O)/\W.cell? (aj vb 0)=some (.int .u64 x.1)/\W.cell? (aj vb 1)=some (ag x.2.1)/\W.cell? (aj vb 2)=some (.slice J x.2.2.fs.length K)/\W.cell? (aj vb 3)=some (ag x.2.2.unk))
     (first|exact hC|exact⟨M.cell 2,M.cell 3,D.cell 0,D.cell 1,D.cell 2,D.cell 3⟩)
     (first
      |(
        go_at_call 234;refine VU.V ?_;rintro e L ⟨rfl,q1,V⟩;have p:Wr N w L:=⟨E.bel.drew.J V.bel,λi cs T r h2 h=>V.fr i cs T r h2 (E.fr i cs T r h2 h)⟩;have M:dZ L fb _ _:=(p.bel.block fb Vv).J r
        have D:=V.fr _ _ _ Vy Vy t))
    go_wp2;go_roundw
    case rel=>exact⟨j+1,by go_num,Vv,by rw[HL.o];exact q1,p⟩
    case measure=>simp[intOf];omega
   .obtain rfl:j=l.length:=Vv;rw[bB]at VL;go_wp2;go_end0;exact⟨rfl,by grind,F⟩
def Jl {S:eF}{mp:an}{B:Nat}(hN:Ew S):∀n,Rh S mp B n:=by
 intro n
 induction n with
 |zero=>
  intro w Z v m d mb gs nm k N b l cx hm u Wk P z J VQ hO s
  cases s
 |succ n ih=>
  intro w Z v m d mb gs nm k N b l cx hm u Wk P z J VQ hO s hW Q
  cases k with
  |zero=>exact P.elim
  |succ k=>
  obtain⟨cs,hr,Ww⟩:=P;obtain⟨a,c,rfl⟩:=hr.form;obtain⟨ho1,ho2,Wx⟩:=hO;rw[d6,aQ]at s;have hX:=λx j=>yE (x:=x) s.1 j
  have⟨X,K1⟩:=ec w #[.slice a m.fs.length c,ag m.unk] 49;have W0:=Wr.of X VQ;have hW0:=hW.on X;rw[eI]at Q⊢;rw[aN]at Q
  have HC:Hid (∀(W:aw) (x:PF) (f:fw) (g:GF) (o:Nat) (v:Value) (t:ap),Below N w W->x∈m.fs->ed d.fs x.1=some f->FG S mp d f g->fi W (λb=>b<B) mp g o->pS (gV k w Z) w Z v x.2->fJ W N b (eG b) t->t.length+(kj S (eI S n) d x).length<=2^47->Vq 152 #[ah o,v,eG b] W (ja N b t (kj S (eI S n) d x) W)):=λW x f g o v t H j r O E R hw VP=>by
   have⟨f',V,p⟩:=hX x j;obtain rfl:f=f':=by grind
   have hb:kj S (eI S n) d x=kN S (eI S n) f x.2:=by unfold kj;rw[r]
   rw[hb]at VP⊢;exact Pb ih hN W Z v x.2 d f g o k N b t (cx.on (eh H J)) E O (Wk _ _ r) (R.under H z) z J (by have:=H.size;omega) (Wx x j) (λv R=>yF p R) hw VP
  have HT:Hid (∀i,l.length+((m.fs.take i).flatMap (kj S (eI S n) d)).length+m.unk.data.toList.length<=2^47):=λi=>by
   have:=iX (g:=kj S (eI S n) d) (l:=m.fs) i;omega
  generalize kj S (eI S n) d=bx at*;clear Q s;have⟨k1,k2⟩:=K1.I;go_enter func97,ntmps97;go_wp2;generalize w.alloc (am #[.slice a m.fs.length c,ag m.unk] 49)=w1 at*;go_loopw [7,11] (λ_ U wr=>∃i:Nat,U=aa i/\i<=m.fs.length/\fJ wr N b (eG b) (l++(m.fs.take i).flatMap bx)/\Wr N w1 wr) (λ_ U _=>m.fs.length-(intOf U).toNat)
  case atStart=>exact⟨0,rfl,aP _,by grind,Wr.refl _ _⟩
  case round=>
   obtain⟨i,rfl,hi,I,M⟩:=hrel;clear k1 k2;have L:=W0.J M;have hsz:=L.bel.size;by_cases hlt:i<m.fs.length
   .have⟨x,j⟩:=gx hlt;have⟨vv,p1,p2,p3⟩:=Ww.get j;obtain⟨A,C,rfl⟩:=p1.form;obtain⟨g0,rfl,V7,Wh,F⟩:=hr.at Vv;have G:=L.bel.block _ (z _ V7);have t0:=F wr G _ _ p2;have t1:=lK (F wr G _ _ p3);have⟨Y,D⟩:=ec wr #[aa x.1,.slice A x.2.length C] 58;have K:=M.J (Wr.of Y Vv);have V9:=W0.J K;have VT:=I.on Y.drew;have⟨f,r,_⟩:=hX x (aL j);have⟨g,hg,O⟩:=u.yes _ _ r;have HF:=qW _ (λb=>b<B) mp mb nm gs x.1 (hm.O λb q _=>V9.bel.drew.block b Vv) u.srt u.len;rw[hg]at HF;have y:=HT.o (i+1);rw[gi j,aN]at y;have Wu:(l++(m.fs.take i).flatMap bx).length+(bx x).length<=2^47:=by grind
    have HZ:=λo q=>HC.o _ x f g o _ _ V9.bel.drew (aL j) r O q p1 VT Wu
    have HS:Hid (l++(m.fs.take (i+1)).flatMap bx=l++(m.fs.take i).flatMap bx++bx x):=(by show l++(m.fs.take (i+1)).flatMap bx=_;rw[gi j,bj]);generalize l++(m.fs.take i).flatMap bx=li at*;have hij:(i:Int)<(m.fs.length:Int):=Vv;clear F p2 p3 j hg r y G;go_upto_region 4 with fail
    generalize wr.alloc (am #[aa x.1,.slice A x.2.length C] 58)=w2 at*;generalize wr.heap.size=vb at*;have hC:w2.drew.cell? (aj vb 0)=some (aa x.1)/\w2.drew.cell? (aj vb 1)=some (.slice A x.2.length C):=⟨D.drew.cell 0,D.drew.cell 1⟩
    go_region_held2 (λW=>W.cell? (aj vb 0)=some (aa x.1)/\W.cell? (aj vb 1)=some (.slice A x.2.length C))
     (first|exact hC|exact⟨Wb.cell 0,Wb.cell 1⟩)
     (first
      |(
        go_at_call 153;refine HF.V ?_
        rintro e w3 ⟨⟨o,rfl,E⟩,rfl⟩)
      |(
        go_at_call 152;refine(HZ _ E).V ?_;rintro e w3 ⟨rfl,V,p⟩;have Wb:=p.fr _ _ _ Vy Vy D.drew
        have Wv:Wr N w1 w3:=⟨K.bel.drew.J p.bel,λi cs T h1 h2 h=>p.fr i cs T h1 h2 (K.fr i cs T h1 h2 h)⟩))
    go_wp2;go_roundw
    case rel=>exact⟨i+1,by go_num,Vv,by rw[HS.o];exact V,Wv⟩
    case measure=>simp[intOf];omega
   .obtain rfl:i=m.fs.length:=Vv;have y:=HT.o m.fs.length;rw[bB]at I y;have K2:=M.fr _ _ _ Vy Vy K1;have⟨k3,k4⟩:=K2.I;have HR:=uU m.unk I (by grind) Vv;go_wp2_with fail;refine HR.V ?_;rintro e w3 ⟨rfl,V,p⟩;go_wp2;go_end0;exact⟨rfl,by grind,L.J p⟩
end
end Go.Proofs.YtfebdimolnobaaaGreatDoor
