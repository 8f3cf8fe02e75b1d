import Derived.Test.YtfebdimolnobaaaGreatDoorItD
set_option maxRecDepth 100000
set_option maxHeartbeats 8000000
set_option linter.all false
namespace Go.Proofs.YtfebdimolnobaaaGreatDoor
open Go.RowKit Go.Proofs.Tryz
section
open Go.Maps Go.Sort
open VH
section
variable {ks:List LV} {ps:aB} {w:aw}
theorem AI:∀{ks:List LV} {ps:aB} {q:LV},ks.length=ps.length->q∈ks->∃p,j7 ks ps q=some p
 | [],_,_,_,h=>by cases h
 |_::_,[],_,h,_=>by simp at h
 |k::ks,p::ps,q,hl,h=>by
  rw[j7];by_cases e:k.1=q.1/\gQ k.2 q.2=true;.exact⟨p,dR e⟩
  .rw[dQ e];rcases aR.1 h with rfl|h;.exact absurd ⟨rfl,gR.2 rfl⟩ e
   .exact AI (by simpa using hl) h
theorem Ee:∀{ks:List LV} {ps:aB} {i:Nat} {q:LV} {p:Nat},ks.Pairwise lI->ks[i]?=some q->ps[i]?=some p->j7 ks ps q=some p
 | [],_,_,_,_,_,h,_=>by simp at h
 |_::_,[],_,_,_,_,_,h=>by simp at h
 |k::ks,p::ps,0,q,p',_,h,h'=>by
  simp at h h';subst h h'
  rw[j7,dR ⟨rfl,gR.2 rfl⟩]
 |k::ks,p::ps,i+1,q,p',hp,h,h'=>by
  simp at h h';rw[bu]at hp;have a:=hp.1 q (aL h);rw[j7,dQ (λe=>lP a ⟨e.1,gR.1 e.2⟩)];exact Ee hp.2 h h'
theorem AJ:∀{a b:List LV},a.Pairwise lI->b.Pairwise lI->(∀x,x∈a<->x∈b)->a=b
 | [],[],_,_,_=>rfl
 | [],y::b,_,_,h=>by have:=(h y).2 Vw;cases this
 |x::a,[],_,_,h=>by have:=(h x).1 Vw;cases this
 |x::a,y::b,h1,h2,h=>by
  rw[bu]at h1 h2
  have e:x=y:=by
   rcases aR.1 ((h x).1 Vw)with e|e;.exact e
   .rcases aR.1 ((h y).2 Vw)with d|d;.exact d.sy
    .exact absurd (kh (h1.1 y d) (h2.1 x e)) (pC _)
  subst e;congr 1;refine AJ h1.2 h2.2 λz=>⟨λc=> ?_,λc=> ?_⟩
  .rcases aR.1 ((h z).1 (by simp[c]))with e|e;.subst e;exact absurd (h1.1 _ c) (pC _)
   .exact e
  .rcases aR.1 ((h z).2 (by simp[c]))with e|e;.subst e;exact absurd (h2.1 _ c) (pC _)
   .exact e
theorem ON {D:DataW Unit}{ss l:List LV}(i:∀(k:LV) kl,Go.keyOf prog 386 (kV k)=some kl->∀z,D.atKey kl z=SJ (j7 ks ps k) z)
  (s:ks.length=ps.length) (r:∀k∈ks,zW k) (u:ks.Pairwise lI) (f:qz D (λ_=>false) ss) (c:l.Perm ss) (n:l.Pairwise (λa b=>¬lI b a)):l=ks:=by
 have m:∀x,x∈ss<->x∈ks:=λx=>by
  have g:zW x->(x∈ss<->x∈ks):=λv=>by
   have⟨kl,d⟩:=QZ v;rw[f.2.2 x kl d];simp only[and_true];constructor
   .intro h;by_cases hm:x∈ks;.exact hm
    .have t:j7 ks ps x=none:=yg λy w e=>hm (Eb e▸w)
     have:=has_false_of_atKey (D:=D) (k:=kl) λz=>by rw[i x kl d z,t];rfl
     rw[this]at h;cases h
   .intro h;have⟨p,c⟩:=AI s h;exact has_true_of_atKey (y:=oM (some p)) λz=>by rw[i x kl d z,c];rfl
  exact⟨λh=>(g (f.2.1 x h)).1 h,λh=>(g (r x h)).2 h⟩
 have j:l.Nodup:=c.nodup_iff.2 f.1;refine AJ ?_ u (λx=>(c.mem_iff).J (m x));refine(n.and j).imp ?_;rintro a b ⟨o,q⟩;rcases tu a b with h|h|h;.exact h
 .exact absurd (Eb h) q
 .exact absurd h o
theorem OO (w:aw):(zeroValue 180).run prog w= .ok (.pointer none) w:=VA
theorem LK {mb:Nat}{i p:Nat}{q:LV}(h:j8 w mb ks ps)(k:ks.Pairwise lI)(j:zW q)(h1:ks[i]?=some q)(f:ps[i]?=some p):
  (Instr.lookup 247 (.map (some mb)) (.agg #[.int .u64 q.1,ag q.2]) false).run prog w= .ok (ah p) w:=by
 obtain⟨D,d,_,g⟩:=h;have⟨l,a⟩:=QZ j;have⟨v,m,b,c⟩:=d.lookup FM underlying247 (OO w) (lO none) a;have e:=g q l a;rw[Ee k h1 f]at e;simp only[SJ]at e;unfold oM at e;rw[e]at c;unfold kV at b;rw[b,qg (o:=some p) c];rfl
theorem LM (w:aw)(v:Option Nat):Calls prog 274 #[.map v] w λe w'=>
  e= .returned (.func (.func 356) #[] #[ah w.heap.size])/\w'=w.Vn #[.map v] 247:=by
 go_in
 go_wp2;go_ret;exact⟨rfl,rfl⟩
def F8 (w:aw)(v:Value)(ks:List LV)(ps:aB):Prop:=
 (v= .map none/\ks= []/\ps= [])\/∃mb,v= .map (some mb)/\j8 w mb ks ps/\ks.length=ps.length/\(∀k∈ks,zW k)/\ks.Pairwise lI
theorem Ef {v:Value}(h:F8 w v ks ps)(z:ks.length<=4398046511104):
  Vq 273 #[.func (.func 356) #[] #[ah w.heap.size],.func (.func 275) #[] #[]] (w.Vn #[v] 247)
   λe w'=>∃v',e= .returned v'/\w'.ownsRow w.heap.size 386 2 v' ks.length (lA ks)/\ak w w':=by
 have a:ak w (w.Vn #[v] 247):=(Below.refl _ _).alloc (aE _) _;have j:(w.Vn #[v] 247).cell? (aj w.heap.size 0)=some v:=(dZ.new w #[v] 247).cell 0;rcases h with⟨rfl,rfl,rfl⟩|⟨k,rfl,x,u,t,g⟩;.refine(Ed _ w.heap.size 0 (λss=>ss= []) Vv (λss h=>by simp[h]) (Ea Vw j)).V ?_;rintro e w' ⟨v',ss,l,rfl,rfl,f,_,b,d⟩;obtain rfl:=f.eq_nil;exact⟨v',rfl,ownsRow_base_a b Vw,a.J (d.V a.size)⟩
 .obtain⟨D,i,y,c⟩:=x;have o:(w.Vn #[.map (some k)] 247).ownsMap prog 386 gO k ks.length D:=(by have n:=i.lt;obtain⟨r,clock,q,m,g,c⟩:=i;exact⟨r,clock,(Below.l _ _ _ n).J q,m,g,c⟩);refine(Ed _ w.heap.size (Go.Maps.size D) (λss=>qz D (λ_=>false) ss/\ss.length<=Go.Maps.size D) Vv (λ_ h=>h.2) (F0 Vw j o)).V ?_;rintro e w' ⟨v',ss,l,rfl,⟨s,_⟩,f,p,b,d⟩;obtain rfl:=ON c u t g s f p;exact⟨v',rfl,ownsRow_base_a b Vw,a.J (d.V a.size)⟩
def LN (w:aw)(ps:aB)(e:Ending)(w':aw):Prop:=
 ∃v,e= .returned v/\w'.ownsRow w.heap.size 180 1 v ps.length (fA ps)/\ak w w'
theorem Hz:∀{ks:List LV} {i:Nat} {q:LV},ks[i]?=some q->(lA ks)[i*2]?=some (.int .u64 q.1)/\(lA ks)[i*2+1]?=some (ag q.2)
 | [],_,_,h=>by simp at h
 |k::ks,0,q,h=>by simp at h;subst h;simp[lA]
 |k::ks,i+1,q,h=>by
  have:=Hz (ks:=ks) (i:=i) (q:=q) (by simpa using h);have a:(i+1)*2=i*2+1+1:=Vv;rw[a];simpa [lA]using this
theorem uN {o:Option Nat}(h:F8 w (.map o) ks ps)(W:ks.length<=4398046511104)(x:ks.length=ps.length):
  Calls prog 198 #[.map o] w (LN w ps):=by
 have⟨Y,N,O,P,Q⟩:=info_parts (show(prog.info? 180).map (λi=>(i.zero,i.size,i.bytes))=some (some (.pointer none),1,8)by kernel_rfl);go_in
 go_wp2_with (first|(go_at_call 274;refine(LM w o).V ?_;rintro e w' ⟨rfl,rfl⟩)|(go_at_call 273;refine(Ef h W).V ?_;rintro e w1 ⟨v',rfl,m,b⟩;obtain⟨Z,n,c,rfl⟩:=d7 m;obtain rfl:n=ks.length:=fj m))
 go_loopw [3,5,10] (λv _ i wr=>∃(k:Nat),k<=ks.length/\i=aa k/\wr.ownsRow w1.heap.size 180 1 v (ps.take k).length (fA (ps.take k))/\ak w1 wr) (λ_ _ i _=>ks.length-(intOf i).toNat)
 case atStart=>exact⟨0,aP _,rfl,br _ _ _ _,Below.refl _ _⟩
 case round=>
  obtain⟨k,c,rfl,d,a⟩:=hrel;by_cases VP:k<ks.length
  .have⟨q,f⟩:=gx VP;have⟨p,G⟩:=gx (l:=ps) (i:=k) Vv;have⟨S,T⟩:=Hz f;obtain⟨D,rfl,_,C,r⟩:=eJ m Vv;have c:=r wr (a.block D C) _ _ S;have c:=r wr (a.block D C) _ _ T;have A:ps.take (k+1)=ps.take k++ [p]:=by rw[bT,G];rfl
   have t:(Instr.lookup 247 (.map o) (.agg #[.int .u64 q.1,ag q.2]) false).run prog (wr.Vn #[.int .u64 q.1,ag q.2] 386)= .ok (ah p) (wr.Vn #[.int .u64 q.1,ag q.2] 386):=by
    rcases h with⟨_,rfl,_⟩|⟨g,e,z,c,R,X⟩;.simp at f
    .cases e;have s:=z.lt;have I:(wr.Vn #[.int .u64 q.1,ag q.2] 386).heap[g]?=w.heap[g]?:=(Below.l _ _ _ (aI (aI s b.size) a.size)).J ((a.block g (aI s b.size)).J (b.block g s));exact LK (z.O I) X (R q (aL f)) f G
   have M:(ps.take k).length<=4398046511104:=by rw[bN];omega
   have y:Hid (ps.take (k+1)=ps.take k++ [p]):=A;have B:=cell_one_new (wr.Vn #[.int .u64 q.1,ag q.2] 386) (ah p) 180;rw[ci]at B;clear r A;generalize ps.take k=L at d M y;go_wp2_with (first|(at_builtin;refine wpList_append_own_at _ rfl _ _ 245 rfl w1.heap.size 180 Y _ 1 8 underlying245 N O P Q rfl Vy u3 _ _ rfl ((d.alloc _).alloc _) _ 1 1 [_] rfl rfl B ?h1 ?h63 ?hby ?hba ?_;rotate_right;intro v' c J K F E))
   case h1=>intro u H;simp at H;subst H;rfl
   case h63=>unfold maxLen;omega
   case hby=>omega
   case hba=>have:=a.size;simp;omega
   refine⟨⟨k+1,Vv,by go_num,?_,?_⟩,by simp[intOf];omega⟩;.rw[y.o];simpa [fA,ii]using J
   .exact((a.alloc a.size _).alloc (by have:=a.size;simp;omega) _).grown K (by have:=a.size;simp;omega) (λj U=>(d.lt j U).1)
  .have V:decide ((k:Int)<(ks.length:Int))=false:=Vx;obtain rfl:k=ks.length:=Vv;rw[x,bB]at d;go_wp2;go_ret;exact⟨_,rfl,ownsRow_base_a d b.size,b.J (a.V b.size)⟩
end
end
section
open Go.Maps
open VH
section
variable {w:aw} {k:Nat} {x:gH} {f:PF} {A:ax} {S:eF} {T:Option MT} {ps:aB} {t:au}
theorem Qd (w:aw)(x0 x1 x2 x3:Value)(t:TypeId):∀j u,[x0,x1,x2,x3][j]?=some u->(w.alloc (.cells #[x0,x1,x2,x3] t)).cell? (((aj w.heap.size 0):Addr).add j)=some u:=bz (dZ.new w _ _)
def yy (S:eF)(k:Nat):Prop:=∀(T:Option MT) (w:aw) (Z:ax) (db:Nat) (m:PM),eQ S k T w Z db m->Vq 85 #[ah db] w (SL k w Z m)
theorem OP {lv:List LV}(h:UA w x f A lv)(s:∀b,A b->b<w.heap.size):
  Calls prog 137 #[.agg #[aa x.1,x.2.1,x.2.2.1,x.2.2.2]] w (sB k w A f.2):=by
 obtain⟨D,E,C,B⟩:=x;obtain⟨_,q,d,rfl,rfl⟩:=h;simp only at d;obtain⟨a,n,c,rfl⟩:=d7 d.1;have m:∀o,ak w (w.alloc o):=λo=>(Vs w).alloc (aE _) o
 go_in
 go_wp2;refine wp_loop_rounds 1 ?_;rw[rounds_succ];have r:∀i:aw,Vq 198 #[.map none] i (LN i []):=λi=>uN (ks:= []) (.inl ⟨rfl,rfl,rfl⟩) Vw rfl
 go_wp2_with (first|(go_at_call 198;refine(r _).V ?_;rintro e w1 ⟨v,rfl,j,p⟩;obtain⟨y,u,z,rfl⟩:=d7 j;obtain rfl:u=0:=fj j))
 refine wp_loop_rounds 1 ?_;rw[rounds_succ];go_wp2;go_ret;have g:=dW (m _) p;refine⟨_,A,rfl,?_,λb l=>⟨aI (s b l) g.size,.inl l⟩,g⟩;rw[q];exact OJ (d.O λb _ t=>g.block b t)
theorem OQ (Z:yy S k){L:Prop}{B:ax}(h:UB (eQ S k) w T L x f A ps B)(hA:∀b,A b->b<w.heap.size):
  Calls prog 137 #[.agg #[aa x.1,x.2.1,x.2.2.1,x.2.2.2]] w (sB k w A f.2):=by
 obtain⟨K,xv,xm,xe⟩:=x;obtain⟨_,_,rfl,rfl,E,Wm,_,F,WE⟩:=h;obtain⟨fn,vs⟩:=f;simp only at E F⊢;obtain⟨a,c,rfl⟩:=iB E.1;have⟨i0,Wn,Wo,H,G⟩:=info_parts Tryz.infoV;have hlen:Hid (ps.length=vs.length):=F.len;have Wz:ps.length<=vs.length/\vs.length<=ps.length:=by have:=hlen.o;omega
 have⟨r,M⟩:=ec w #[aa K,ai,.slice a ps.length c,.map none] 249;have VK:=E.O λb _ d=>r.block b d
 have VQ:=F.imp (Q:=λp v C=>v=mV v.2.2/\eQ S k T (w.alloc (am #[aa K,ai,.slice a ps.length c,.map none] 249)) C p v.2.2) λ_ _ _ _ _ _ h=>⟨h.1,h.2.O λb _ d=>r.block b d⟩
 go_in
 go_wp2;generalize w.alloc (am #[aa K,ai,.slice a ps.length c,.map none] 249)=wB at*;have zB:=r.size;have Wk:∀b,B b->b<wB.heap.size:=λb o=>by grind
 go_loopw [3,5,13] (λu _ i wr=>∃(q:Nat),q<=ps.length/\i=aa q/\vY S k T wB B wr u (vs.take q) (ps.drop q) (vs.drop q)/\Below wB.heap.size wB wr) (λ_ _ i _=>ps.length-(intOf i).toNat)
 case atStart=>exact⟨0,aP _,rfl,vY.start VQ,Below.refl _ _⟩
 case round=>
  obtain⟨q,hq,rfl,s,n⟩:=hrel;by_cases hlt:q<ps.length
  .have⟨p,hp⟩:=gx hlt;have⟨v,hv⟩:=gx (l:=vs) (i:=q) Vv;obtain⟨gf,rfl,_,V0,VP⟩:=eJ VK.1 Vv;have t0:=VP wr (n.block gf V0) q (rK p) (by grind);have e1:ps.drop q=p::ps.drop (q+1):=by rw[be hlt];grind
   have e2:vs.drop q=v::vs.drop (q+1):=by rw[be Vv];grind
   have V:Hid (vs.take (q+1)=vs.take q++ [v]):=by grind
   rw[e1,e2]at s;obtain⟨ms,Y,B1,B2,hs,Wp,Wq,Ws,t,V7,P,hY⟩:=s;obtain⟨C,WF,⟨R,I⟩,Wu,hC,Wv,Ww⟩:=hs;obtain⟨v1,v2,m⟩:=v;have VV:v1=0:=dV Prod.fst R;have VW:v2=eS:=dV (λz:PV=>z.2.1) R;subst VV VW;have VX:=Z T wr C p m (I.O λb _ d=>n.block b d);have Wl:(vs.take q).length<=2199023255000:=by grind
   unfold rK at t0;generalize vs.take q=D at t P Wl V;go_wp2_with fail;refine VX.V ?_;rintro e w1 ⟨mv,U,rfl,y,W,g⟩;obtain⟨a3,c3,rfl⟩:=y.form;have VY:=eZ g t;have z1:=g.size;go_wp2_with (first|(at_builtin;refine wpList_append_own_at _ rfl _ _ 56 rfl wB.heap.size 55 i0 _ 4 64 underlying56 Wn Wo H G rfl Vy u3 _ _ rfl (VY.alloc _) _ 1 1 [_,_,_,_] rfl rfl (Qd _ _ _ _ _ _) ?h1 ?h63 ?hby ?hba ?_;rotate_right;intro v' w5 VS O Wx Wy))
   case h1=>intro u X;simp at X;rcases X with rfl|rfl|rfl|rfl<;>rfl
   case h63=>unfold maxLen;omega
   case hby=>omega
   case hba=>have:=n.size;simp;omega
   have zr:=n.size;refine⟨⟨q+1,Vv,by go_num,?_,?_⟩,by simp[intOf];omega⟩;.rw[V.o];refine vY.step Wk n.size Wu hC Wv Ww Wp Wq Ws t V7 P hY (dW g ((Below.refl _ _).alloc (aE _) _)) (y.O λb _ d=>Below.l _ _ b d) (λb o=>⟨by have:=(W b o).1;simp;omega,(W b o).2⟩) O (by simpa [sy,eS]using VS) ?_;grind
   .exact(dW n (dW g ((Below.refl _ _).alloc (aE _) _))).grown O Vx (λj hj=>(t.lt j hj).1)
  .have WA:decide ((q:Int)<(ps.length:Int))=false:=by grind
   obtain rfl:q=ps.length:=Vv;rw[cD,hlen.o,bB,cD]at s;have Wf:∀J:aw,Vq 198 #[.map none] J (LN J []):=λJ=>uN (ks:= []) (.inl ⟨rfl,rfl,rfl⟩) Vw rfl
   have⟨k1,k2⟩:=(M.G n M.lt).I;go_wp2_with (first|(go_at_call 198;refine(Wf _).V ?_;rintro e w1 ⟨v,rfl,N,g⟩;obtain⟨a1,n1,c1,rfl⟩:=d7 N;obtain rfl:n1=0:=fj N))
   refine wp_loop_rounds 1 ?_;rw[rounds_succ];go_wp2;go_ret;have⟨U,H,G⟩:=s.done;have z1:=g.size;refine⟨_,U,rfl,H.O (λb _ d=>g.block b d) (λmv m C _ y=>y.O λb _ d=>g.block b d),λb o=>⟨by grind,(G b o).2.imp (Wm b) (λh=>Vv)⟩,dW r (dW n g)⟩
theorem Fi.kv {v:PV}(h:Fi t v):zW (kr t v):=by
 have:=h.lo;have:=h.hi;have:=h.sz;unfold kr;refine⟨?_,?_,by show _<=maxLen;unfold maxLen;grind⟩;.simp only;split<;>omega
 omega
theorem OR (HF:yy S k){B:ax}{mb:Nat}(h:UC (eQ S k) w x f A t mb ps B)(hA:∀b,A b->b<w.heap.size):
  Calls prog 137 #[.agg #[aa x.1,x.2.1,x.2.2.1,x.2.2.2]] w (sB k w A f.2):=by
 obtain⟨xn,xv,xm,xe⟩:=x;obtain⟨_,rfl,rfl,rfl,G,Wm,_,_,P,R,I,WE⟩:=h;obtain⟨fn,vs⟩:=f;simp only at G P R I⊢;have⟨i0,Wn,Wo,J,E⟩:=info_parts Tryz.infoV;have hlen:Hid (ps.length=vs.length):=I.len;have Wz:ps.length<=vs.length/\vs.length<=ps.length:=by have:=hlen.o;omega
 have L:ak w (w.alloc (am #[aa xn,ai,ai,.map (some mb)] 249)):=(Vs w).alloc (aE _) _
 have WB:F8 (w.alloc (am #[aa xn,ai,ai,.map (some mb)] 249)) (.map (some mb)) (vs.map λv=>kr t (fS v)) ps:=
  .inr ⟨mb,rfl,G.O (L.block mb G.lt),by grind,(by
   intro q X;obtain⟨v,hv,rfl⟩:=aS.1 X
   exact(P v hv).kv),cw.2 R⟩
 have WC:=uN WB (by grind) (by grind);go_in
 go_wp2;refine wp_loop_rounds 1 ?_;rw[rounds_succ];go_wp2_with (first|(go_at_call 198;refine WC.V ?_;rintro e g ⟨v,rfl,H,n⟩;obtain⟨a,n1,c,rfl⟩:=d7 H;obtain rfl:n1=ps.length:=fj H))
 have F:ak w g:=dW L n;have zB:=F.size;have VQ:=I.imp (Q:=λp v C=>v=mV v.2.2/\eQ S k none g C p v.2.2) λ_ _ _ _ _ _ h=>⟨h.1,h.2.O λb _ r=>F.block b r⟩
 have Wk:∀b,B b->b<g.heap.size:=λb o=>by grind
 go_loopw [3,7,28] (λu _ i wr=>∃(q:Nat),q<=ps.length/\i=aa q/\vY S k none g B wr u (vs.take q) (ps.drop q) (vs.drop q)/\Below g.heap.size g wr) (λ_ _ i _=>ps.length-(intOf i).toNat)
 case atStart=>exact⟨0,aP _,rfl,vY.start VQ,Below.refl _ _⟩
 case round=>
  obtain⟨q,X,rfl,s,d⟩:=hrel;by_cases hlt:q<ps.length
  .have⟨p,hp⟩:=gx hlt;have⟨v,hv⟩:=gx (l:=vs) (i:=q) Vv;obtain⟨gf,rfl,_,V0,VP⟩:=eJ H Vv;have t0:=VP wr (d.block gf V0) q (rK p) (by simp[fA,hp,rK,ii]);have e1:ps.drop q=p::ps.drop (q+1):=by rw[be hlt];grind
   have e2:vs.drop q=v::vs.drop (q+1):=by rw[be Vv];grind
   have U:Hid (vs.take (q+1)=vs.take q++ [v]):=by grind
   rw[e1,e2]at s;obtain⟨ms,Y,B1,B2,hs,Wp,Wq,Ws,y,V7,N,hY⟩:=s;obtain⟨C,WF,⟨O,K⟩,Wu,hC,Wv,Ww⟩:=hs;obtain⟨v1,v2,m⟩:=v;have VV:v1=0:=dV Prod.fst O;have VW:v2=eS:=dV (λz:PV=>z.2.1) O;subst VV VW;have VX:=HF none wr C p m (K.O λb _ r=>d.block b r);have Wl:(vs.take q).length<=2199023255000:=by grind
   unfold rK at t0;generalize vs.take q=D at y N Wl U;go_wp2_with fail;refine VX.V ?_;rintro e w1 ⟨mv,T,rfl,W,V,n⟩;obtain⟨a3,c3,rfl⟩:=W.form;have VY:=eZ n y;have z1:=n.size;go_wp2_with (first|(at_builtin;refine wpList_append_own_at _ rfl _ _ 56 rfl g.heap.size 55 i0 _ 4 64 underlying56 Wn Wo J E rfl Vy u3 _ _ rfl (VY.alloc _) _ 1 1 [_,_,_,_] rfl rfl (Qd _ _ _ _ _ _) ?h1 ?h63 ?hby ?hba ?_;rotate_right;intro v' w5 VS M Wx Wy))
   case h1=>intro u Z;simp at Z;rcases Z with rfl|rfl|rfl|rfl<;>rfl
   case h63=>unfold maxLen;omega
   case hby=>omega
   case hba=>have:=d.size;simp;omega
   have zr:=d.size;refine⟨⟨q+1,Vv,by go_num,?_,?_⟩,by simp[intOf];omega⟩;.rw[U.o];refine vY.step Wk d.size Wu hC Wv Ww Wp Wq Ws y V7 N hY (dW n ((Below.refl _ _).alloc (aE _) _)) (W.O λb _ r=>Below.l _ _ b r) (λb o=>⟨by have:=(V b o).1;simp;omega,(V b o).2⟩) M (by simpa [sy,eS]using VS) ?_;grind
   .exact(dW d (dW n ((Below.refl _ _).alloc (aE _) _))).grown M Vx (λj hj=>(y.lt j hj).1)
  .have WA:decide ((q:Int)<(ps.length:Int))=false:=by grind
   obtain rfl:q=ps.length:=Vv;rw[cD,hlen.o,bB,cD]at s;go_wp2;go_ret;have⟨T,J,E⟩:=s.done;exact⟨_,T,rfl,J,λb o=>⟨(E b o).1,(E b o).2.imp (Wm b) (λh=>Vv)⟩,dW F d⟩
theorem Q2 (c:yy S k)(h:gY S (eQ S k) w T x f A)(a:∀b,A b->b<w.heap.size):Vq 137 #[.agg #[aa x.1,x.2.1,x.2.2.1,x.2.2.2]] w (sB k w A f.2):=by
 rcases h.2 with⟨_,lv,h⟩|⟨_,d,B,h⟩|⟨t,_,e,d,B,h⟩;.exact OP h a
 .exact OQ c h a
 .exact OR c h a
end
section
variable {w w0 wr:aw} {u:Value} {S:eF} {k N0:Nat} {T:Option MT} {B:ax} {l:List gH} {f:PF}
theorem Ja {uv:Value}{u:au}(h:w.ownsRow 0 5 1 uv u.size (Lib.strCells u)):(convert 140 9 uv).run prog w= .ok (ag u) w:=by
 rcases h.2 with⟨rfl,f⟩|⟨g,a,c,rfl,_,k,o,p,q,i⟩;.have n:u=⟨#[]⟩:=(by cases u with|mk d=>exact dV _ (Array.eq_empty_of_size_eq_zero f));subst n;exact run_convert_bytes_nil w 140 5 underlying140 underlying5 0 0 9 underlying9
 .have m:u.data.toList.length=u.size:=Array.length_toList
  have:=run_convert_bytes_back (P:=prog) w 140 9 5 (aj g 0) a u.data.toList underlying140 underlying5 underlying9 (λj l=>by
   have b:(c.toList.take (u.size*1))[j]?=(Lib.strCells u)[j]?:=by rw[i]
   rw[cC Vv]at b;have e:((aj g 0):Addr).add j=(aj g j):=by unfold Addr.add;split<;>simp_all
   rw[e];simp only[World.cell?,k];simp only[Option.isSome_none,aU,if_false];rw[<-bS,b];unfold Lib.strCells;rw[aT,aO l]
   rfl)
  rw[m]at this;simpa using this
def Cm (S:eF)(k:Nat)(T:Option MT)(w0:aw)(N0:Nat)(B:ax)(wr:aw)(u:Value)(done:List PF)(l:List gH)(rest:List PF):Prop:=
 ∃VK Y,∃B1 B2:ax,j0 (gY S (eQ S k) w0 T) B2 l rest/\(∀b,B1 b->B b)/\(∀b,B2 b->B b)/\(∀b,B1 b->¬B2 b)/\
  wr.ownsRow N0 58 2 u done.length (sA VK done)/\(∀b,u.ownBlock=some b->¬Y b)/\j0 (λa f A=>kA (qy (k+1) wr) wr A a f.2) Y VK done/\(∀b,Y b->b<wr.heap.size/\(B1 b\/N0<=b))
theorem Cm.start {fs:List PF}(h:j0 (gY S (eQ S k) w0 T) B l fs):Cm S k T w0 N0 B wr (ai) [] l fs:=
 ⟨[],λ_=>False,λ_=>False,B,h,λ_ q=>q.elim,λ_ q=>q,λ_ q=>q.elim,br _ _ _ _,(λ_ q=>by cases q),trivial,λ_ q=>q.elim⟩
theorem Cm.done {m:PM}(h:Cm S k T w0 N0 B wr u m.fs [] []):
  ∃Z',qy (k+1+1) wr u m Z'/\∀b,Z' b->b<wr.heap.size/\(B b\/N0<=b):=by
 obtain⟨f,Y,j,l,_,i,_,_,c,g,e,d⟩:=h;refine⟨λb=>Y b\/u.ownBlock=some b,⟨f,Y,⟨ownsRow_base_a c (aP _),λb a=> .inr a⟩,g,λb a=> .inl a,e⟩,?_⟩;rintro b (a|a);.exact⟨(d b a).1,(d b a).2.imp (i b) id⟩
 .exact⟨(c.lt b a).2,.inr (c.lt b a).1⟩
theorem Cm.step {w1 w2:aw}{u' vv:Value}{done rest:List PF}{A B2 V0 B1 Y Z':ax}{VK:ay}
  (m:∀b,B b->b<N0) (R:N0<=wr.heap.size)
  (M:j0 (gY S (eQ S k) w0 T) V0 l rest) (r:∀b,A b->B2 b) (z:∀b,V0 b->B2 b) (t:∀b,A b->¬V0 b)
  (K:∀b,B1 b->B b) (p:∀b,B2 b->B b) (y:∀b,B1 b->¬B2 b) (F:wr.ownsRow N0 58 2 u done.length (sA VK done)) (H:∀b,u.ownBlock=some b->¬Y b)
  (x:j0 (λvv f A=>kA (qy (k+1) wr) wr A vv f.2) Y VK done) (v:∀b,Y b->b<wr.heap.size/\(B1 b\/N0<=b))
  (d:ak wr w1) (hm:kA (qy (k+1) w1) w1 Z' vv f.2) (s:∀b,Z' b->b<w1.heap.size/\(A b\/wr.heap.size<=b))
  (L:∀b,(Y b\/Z' b)->b<w1.heap.size->u.ownBlock≠some b->w2.heap[b]?=w1.heap[b]?) (N:w1.heap.size<=w2.heap.size)
  (i:w2.ownsRow N0 58 2 u' (done.length+1) (sA VK done++sA [vv] [f])) (w:u'.ownBlock=u.ownBlock\/∃g,u'.ownBlock=some g/\w1.heap.size<=g):
  Cm S k T w0 N0 B w2 u' (done++ [f]) l rest:=by
 have hlen:VK.length=done.length:=x.len
 have G:∀b,Y b->¬Z' b:=λb a O=>by
  have P:=v b a;have Q:=s b O;rcases Q.2 with q|q
  .rcases P.2 with n|n;.exact y b n (r b q)
   .have:=m b (p b (r b q));omega
  .omega
 have D:∀b,u.ownBlock=some b->¬(Y b\/Z' b):=λb a h=>by
  rcases h with h|h;.exact H b a h
  .have q:=F.lt b a;rcases(s b h).2 with n|n;.have:=m b (p b (r b n));omega
   .omega
 have E:∀b,(Y b\/Z' b)->b<w1.heap.size->w2.heap[b]?=w1.heap[b]?:=λb a c=>L b a c (λe=>D b e a)
 refine⟨VK++ [vv],λb=>Y b\/Z' b,λb=>B1 b\/A b,V0,M,?_,λb a=>p b (z b a),?_,?_,?_,?_,?_⟩
 .rintro b (a|a);.exact K b a
  .exact p b (r b a)
 .rintro b (a|a);.exact λh=>y b a (z b h)
  .exact t b a
 .rw[vI hlen];simpa using i
 .intro b a h;rcases w with e|⟨g,e,J⟩;.exact D b (e▸a) h
  .rw[e]at a;cases a;rcases h with h|h;.have:=(v _ h).1;have:=d.size;omega
   .have:=(s _ h).1;omega
 .refine j0.append (A:=Y) (B:=Z') ?_ ?_ (λb h=> .inl h) (λb h=> .inr h) G
  .refine x.imp λvv f C _ _ I h=> ?_
   have j:∀b,C b->b<wr.heap.size->w2.heap[b]?=wr.heap[b]?:=λb a c=>(E b (.inl (I b a)) (aI c d.size)).J (d.block b c)
   exact h.O j (λ_ _ _ o hm=>hm.O λb a c=>j b (o b a) c)
  .have j:∀b,Z' b->b<w1.heap.size->w2.heap[b]?=w1.heap[b]?:=λb a c=>E b (.inr a) c
   exact⟨Z',λ_=>False,hm.O j (λ_ _ _ o hm=>hm.O λb a c=>j b (o b a) c),trivial,λb h=>h,λb h=>h.elim,λb _ h=>h⟩
 .rintro b (a|a);.have q:=v b a;have:=d.size;exact⟨Vv,q.2.imp .inl id⟩
  .have q:=s b a;exact⟨Vv,q.2.imp .inr (λh=>Vv)⟩
theorem OS (d:yy S k){W:aw}{x0:Int}{x1 x2 x3:Value}{C:ax}(h:gY S (eQ S k) w T (x0,x1,x2,x3) f C)(a:ak w W)
  (g:∀b,C b->b<w.heap.size):Vq 137 #[.agg #[aa x0,x1,x2,x3]] W (sB k W C f.2):=by
 have e:gY S (eQ S k) W T (x0,x1,x2,x3) f C:=gY.O (λ_ _ _ _ _ h=>eQ.O h λb _ c=>a.block b c) (λb _ c=>a.block b c) h;have:=Q2 d e (λb i=>aI (g b i) a.size);exact this
theorem Jb (y:yy S k):yy S (k+1):=by
 intro T w Z a m h;obtain⟨sv,uv,l,g,d,e⟩:=h;have⟨i0,WQ,WR,X,N⟩:=info_parts Tryz.infoF;obtain⟨a,b,rfl⟩:=iB d.c.row;obtain⟨f,a,i,rfl⟩:=d7 d.un;have b:∀w':aw,ak w w'->(convert 140 9 (.slice f a i)).run prog w'= .ok (ag m.unk) w':=λw' c=>Ja (eZ c d.un)
 have hlen:Hid (l.length=m.fs.length):=e.len;have a:l.length<=m.fs.length/\m.fs.length<=l.length:=by have:=hlen.o;omega
 have a:l.length<=2199023255000:=d.c.len;have Q:=d.c.blk;have J:ak w (w.alloc (am #[ai,Vp] 49)):=(Vs w).alloc (aE _) _;have a:ak w ((w.alloc (am #[ai,Vp] 49)).alloc (am #[ai,ag m.unk] 49)):=J.alloc J.size _;have f:=b _ J;have K:=(dZ.new w #[ai,Vp] 49).alloc (am #[ai,ag m.unk] 49);have G:=dZ.newAt (w:=w.alloc (am #[ai,Vp] 49)) (n:=w.heap.size+1) Vw #[ai,ag m.unk] 49;have⟨i,j⟩:=(Q.G J Q.lt).I;have⟨n,o⟩:=(Q.G a Q.lt).I;go_enter func85,ntmps85;go_wp2;clear i j n o f b J;generalize(w.alloc (am #[ai,Vp] 49)).alloc (am #[ai,ag m.unk] 49)=wB at*;have b:w.heap.size+2<=wB.heap.size:=G.lt
 go_loopw [5,17] (λ_ i wr=>∃(q:Nat) (u:Value),q<=l.length/\i=aa q/\dZ wr w.heap.size #[ai,Vp] 49/\dZ wr (w.heap.size+1) #[u,ag m.unk] 49/\
  Cm S k T w (w.heap.size+2) g wr u (m.fs.take q) (l.drop q) (m.fs.drop q)/\ak w wr) (λ_ i _=>l.length-(intOf i).toNat)
 case atStart=>exact⟨0,_,aP _,rfl,K,G,Cm.start e,a⟩
 case round=>
  obtain⟨q,u,a,rfl,K,G,V,n⟩:=hrel;by_cases hlt:q<l.length
  .have⟨x,z⟩:=gx hlt;have⟨f,e⟩:=gx (l:=m.fs) (i:=q) Vv;obtain⟨b,rfl,_,a,g⟩:=eJ d.c.row Vv;have M:=g wr (n.block b a);have p:=M (q*4+0) _ (gd eC 4 gz l q x z 0 Vv);have R:=M (q*4+1) _ (gd eC 4 gz l q x z 1 Vv);have t2:=M (q*4+2) _ (gd eC 4 gz l q x z 2 Vv);have t3:=M (q*4+3) _ (gd eC 4 gz l q x z 3 Vv);rw[Nat.add_zero]at p;have j:l.drop q=x::l.drop (q+1):=by rw[be hlt];congr 1;exact Option.some.inj ((aO hlt).sy.J z)
   have o:m.fs.drop q=f::m.fs.drop (q+1):=by rw[be Vv];congr 1;exact Option.some.inj ((aO Vv).sy.J e)
   have Z:Hid (m.fs.take (q+1)=m.fs.take q++ [f]):=by show _=_;rw[bT,e];rfl
   rw[j,o]at V;obtain⟨Q,Y,a,i,b,U,T,We,H,VM,J,hY⟩:=V;obtain⟨C,i,a,WT,hC,Wf,WU⟩:=b;have⟨⟨A,E,B,O⟩,⟨s,t,v,b⟩,F,i⟩:=d.c.form x (aL z);obtain⟨r,u,D,I⟩:=x;simp only at O b i;subst O b i;have Wk:f.1=r:=a.1.sy;have O:∀b,C b->b<w.heap.size:=λb c=>d.yl b (T b (hC b c))
   have Wl:Hid (∀W:aw,ak w W->Vq 137 #[.agg #[aa r,.slice A E B,.slice s t v,.map F]] W (sB k W C f.2)):=λW i=>OS y a i O
   have u:=n.alloc n.size (am #[aa r,.slice A E B,.slice s t v,.map F] 249);have⟨x,y⟩:=ec wr #[aa r,.slice A E B,.slice s t v,.map F] 249;have L:=K.alloc (am #[aa r,.slice A E B,.slice s t v,.map F] 249);have P:=G.alloc (am #[aa r,.slice A E B,.slice s t v,.map F] 249);have i:(m.fs.take q).length<=2199023255000:=by rw[bN];omega
   have D:w.heap.size+2<=wr.heap.size:=G.lt;clear g M j o a z e;generalize m.fs.take q=D at H J i Z;obtain⟨o,I,g,rfl⟩:=d7 H;have i:∀b,(Value.slice o I g).ownBlock=some b->w.heap.size+2<=b:=λb c=>(H.lt b c).1
   go_upto_region 5 with fail
   clear p R t2 t3;generalize wr.alloc (am #[aa r,.slice A E B,.slice s t v,.map F] 249)=w4 at*;have a:=P.drew;have R:=y.drew;have z:=L.drew;have M:Hid (Vq 137 #[.agg #[aa r,.slice A E B,.slice s t v,.map F]] w4.drew (sB k w4.drew C f.2)):=Wl.o w4.drew u.drew;have Wo:w4.drew.ownsRow (w.heap.size+2) 58 2 (.slice o I g) D.length (sA Q D):=eZ x.drew H;have B:Hid (some (w.heap.size+1)≠(Value.slice o I g).ownBlock):=λe=>by have:=i _ e.sy;omega
   have f:Hid (some wr.heap.size≠(Value.slice o I g).ownBlock):=λe=>by have:=(H.lt _ e.sy).2;omega
   have f:Hid (w.heap.size+1≠wr.heap.size):=λe=>Vv
   have E:Hid (some w.heap.size≠(Value.slice o I g).ownBlock):=λe=>by have:=i _ e.sy;omega
   have⟨p1,p2⟩:=a.I;have⟨p3,p4⟩:=R.I;have f:wr.heap.size<w4.drew.heap.size:=R.lt;go_region_law (first|(refine step_append_lies _ VB _ _ _ VB (w.heap.size+2) 58 i0 _ 2 32 underlying47 WQ WR X N rfl Vv (.slice o I g) D.length (sA Q D) VB (Wq.alloc _) (aj P.heap.size 0) 1 1 [_,_] VB VB (bz (dZ.new _ _ _)) VD Vv VC Vv Vx (P.heap.size+1) Vw ?_;intro v p w6 C L W A;have t:=(j.alloc _).grown L B.o;have⟨r1,r2⟩:=t.I)|(go_simp;go_at_call 137;refine M.o.V ?_;rintro e P ⟨vv,f,rfl,s,r,y⟩;obtain⟨va,vc,rfl⟩:=s.form;have j:=a.G y a.lt;have F:=R.G y R.lt;have Wq:=eZ y Wo;have z5:=y.size;have⟨q1,q2⟩:=j.I;have⟨q3,q4⟩:=F.I;have⟨y3,y4,y5,y6⟩:=gW (w:=P) (b:=w.heap.size+1) j.lt))
   all_goals
    go_wp2;go_roundw
    case rel=>
     have a:=L.size;simp only[ci]at a
     have a:∀b,(Y b\/f b)->w.heap.size+1≠b:=by
      rintro b (c|c) e
      .rcases(hY b c).2 with h|h;.have:=d.yl b (U b h);omega
       .omega
      .rcases(r b c).2 with h|h;.have:=O b h;omega
       .omega
     refine⟨q+1,_,Vv,by go_num,(((z.G y z.lt).alloc _).grown L E.o).other 0 _ Vv,t.set 0 _,?_,?_⟩
     .rw[Z.o];refine Cm.step (λb c=>by have:=d.yl b c;omega) Vv WT hC Wf WU U T We H VM J hY (w1:=P) (dW x.drew y) s (λb c=>⟨(r b c).1,(r b c).2.imp id (λh=>Vv)⟩) ?_ ?_ ?_ ?_;.intro b c j U;rw[dY,dQ (a b c)];exact(L.block b Vx (λe=>U e.sy)).J (Below.l _ _ b j)
      .simp only[cE];omega
      .have:=ownsRow_setCell_below C (a:=(aj (w.heap.size+1) 0)) Vw (Vr v (D.length+1) p);simpa [sA,Wk]using this
      .rcases W with h|h;.exact .inl h.sy
       .exact .inr ⟨v,rfl,Vv⟩
     .have r:w.heap.size<=P.heap.size:=Vv;exact(((dW u.drew y).alloc r _).grown L (by rw[ci];omega) (λj a=>by have:=i j a;omega)).setCell (p:=(aj (w.heap.size+1) 0)) (bH _) _
    case measure=>simp[intOf];omega
  .have a:decide ((q:Int)<(l.length:Int))=false:=Vx;obtain rfl:q=l.length:=Vv;rw[cD,hlen.o,bB,cD]at V;have⟨f,X,N⟩:=V.done;obtain⟨o,g,rfl⟩:=X.form;have⟨p1,p2⟩:=G.I;have⟨p3,p4⟩:=K.I;go_wp2
   have a:∀b,f b->b<wr.heap.size->((wr.setCell (aj w.heap.size 0) (.slice o m.fs.length g)).setCell (aj w.heap.size 1) (ag m.unk)).heap[b]?=wr.heap[b]?:=λb c _=>by
    have U:w.heap.size≠b:=λe=>by
     rcases(N b c).2 with h|h;.have:=d.yl b h;omega
     .omega
    rw[dY,dQ U,dY,dQ U]
   refine dU (ew results85 _ _ rfl ((K.set 0 _).set 1 _) underlying49 VA) rfl ⟨_,f,rfl,X.O a,λb c=>⟨by simp only[cE];exact(N b c).1,(N b c).2.imp (d.yz b) (λh=>Vv)⟩,(n.setCell (p:=(aj w.heap.size 0)) (aE _) _).setCell (p:=(aj w.heap.size 1)) (aE _) _⟩
theorem yA:∀k,yy S k
 |0=>λ_ _ _ _ _ h=>h.elim
 |k+1=>Jb (yA k)
end
end
end Go.Proofs.YtfebdimolnobaaaGreatDoor
