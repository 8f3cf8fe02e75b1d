import Derived.Test.YtfebdimolnobaaaGreatDoorPxE
import Derived.Laws.IdiomStrings
set_option maxRecDepth 100000
set_option maxHeartbeats 8000000
set_option linter.all false
namespace Go.Proofs.YtfebdimolnobaaaGreatDoor
open Go.RowKit Go.Proofs.Tryz
section
open Go.Maps Go.Sort
open Tq
section
variable {ks:List LV} {ps:aB} {w:aw}
theorem Aa:∀{ks:List LV} {ps:aB} {q:LV},ks.length=ps.length->q∈ks->∃p,jt ks ps q=some p
 | [],_,_,_,h=>by cases h
 |_::_,[],_,h,_=>by simp at h
 |k::ks,p::ps,q,hl,h=>by
  rw[jt];by_cases e:k.1=q.1/\gP k.2 q.2=true;.exact⟨p,dH e⟩
  .rw[dG e];rcases aR.1 h with rfl|h;.exact absurd ⟨rfl,iu.2 rfl⟩ e
   .exact Aa (by simpa using hl) h
theorem Df:∀{ks:List LV} {ps:aB} {i:Nat} {q:LV} {p:Nat},ks.Pairwise oK->ks[i]?=some q->ps[i]?=some p->jt ks ps q=some p
 | [],_,_,_,_,_,h,_=>by simp at h
 |_::_,[],_,_,_,_,_,h=>by simp at h
 |k::ks,p::ps,0,q,p',_,h,h'=>by
  simp at h h';subst h h'
  rw[jt,dH ⟨rfl,iu.2 rfl⟩]
 |k::ks,p::ps,i+1,q,p',hp,h,h'=>by
  simp at h h';rw[bU]at hp;have a:=hp.1 q (aO h);rw[jt,dG (λe=>mf a ⟨e.1,iu.1 e.2⟩)];exact Df hp.2 h h'
theorem Ab:∀{a b:List LV},a.Pairwise oK->b.Pairwise oK->(∀x,x∈a<->x∈b)->a=b
 | [],[],_,_,_=>rfl
 | [],y::b,_,_,h=>by have:=(h y).2 Tf;cases this
 |x::a,[],_,_,h=>by have:=(h x).1 Tf;cases this
 |x::a,y::b,h1,h2,h=>by
  rw[bU]at h1 h2
  have e:x=y:=by
   rcases aR.1 ((h x).1 Tf)with e|e;.exact e
   .rcases aR.1 ((h y).2 Tf)with d|d;.exact d.sy
    .exact absurd (ox (h1.1 y d) (h2.1 x e)) (qI _)
  subst e;congr 1;refine Ab h1.2 h2.2 λz=>⟨λc=> ?_,λc=> ?_⟩
  .rcases aR.1 ((h z).1 (by simp[c]))with e|e;.subst e;exact absurd (h1.1 _ c) (qI _)
   .exact e
  .rcases aR.1 ((h z).2 (by simp[c]))with e|e;.subst e;exact absurd (h2.1 _ c) (qI _)
   .exact e
theorem Nj {D:DataW Unit}{ss l:List LV}(i:∀(k:LV) kl,Go.keyOf prog 386 (kV k)=some kl->∀z,D.atKey kl z=QS (jt ks ps k) z)
  (s:ks.length=ps.length) (r:∀k∈ks,yV k) (u:ks.Pairwise oK) (f:qe D (λ_=>false) ss) (c:l.Perm ss) (m:l.Pairwise (λa b=>¬oK b a)):l=ks:=by
 have j:∀x,x∈ss<->x∈ks:=λx=>by
  have g:yV x->(x∈ss<->x∈ks):=λv=>by
   have⟨kl,d⟩:=Pg v;rw[f.2.2 x kl d];simp only[and_true];constructor
   .intro h;by_cases hm:x∈ks;.exact hm
    .have t:jt ks ps x=none:=xC λy w e=>hm (Dc e▸w)
     have:=has_false_of_atKey (D:=D) (k:=kl) λz=>by rw[i x kl d z,t];rfl
     rw[this]at h;cases h
   .intro h;have⟨p,c⟩:=Aa s h;exact has_true_of_atKey (y:=oh (some p)) λz=>by rw[i x kl d z,c];rfl
  exact⟨λh=>(g (f.2.1 x h)).1 h,λh=>(g (r x h)).2 h⟩
 have n:l.Nodup:=c.nodup_iff.2 f.1;refine Ab ?_ u (λx=>(c.mem_iff).J (j x));refine(m.and n).imp ?_;rintro a b ⟨o,q⟩;rcases AW a b with h|h|h;.exact h
 .exact absurd (Dc h) q
 .exact absurd h o
theorem Nk (w:aw):(zeroValue 180).run prog w= .ok (.pointer none) w:=Tj
theorem Kn {mb:Nat}{i p:Nat}{q:LV}(h:ju w mb ks ps)(k:ks.Pairwise oK)(j:yV q)(h1:ks[i]?=some q)(f:ps[i]?=some p):
  (Instr.lookup 247 (.map (some mb)) (.agg #[.int .u64 q.1,ae q.2]) false).run prog w= .ok (ag p) w:=by
 obtain⟨D,d,_,g⟩:=h;have⟨l,b⟩:=Pg j;have⟨v,pl,a,c⟩:=d.lookup Ey underlying247 (Nk w) (kS none) b;have e:=g q l b;rw[Df k h1 f]at e;simp only[QS]at e;unfold oh at e;rw[e]at c;unfold kV at a;rw[a,pR (o:=some p) c];rfl
theorem Ko (w:aw)(v:Option Nat):Calls prog 274 #[.map v] w λe w'=>
  e= .returned (.func (.func 356) #[] #[ag w.heap.size])/\w'=w.S6 #[.map v] 247:=by
 go_in
 go_wp2;go_ret;exact⟨rfl,rfl⟩
def EN (w:aw)(v:Value)(ks:List LV)(ps:aB):Prop:=
 (v= .map none/\ks= []/\ps= [])\/∃mb,v= .map (some mb)/\ju w mb ks ps/\ks.length=ps.length/\(∀k∈ks,yV k)/\ks.Pairwise oK
theorem Dg {v:Value}(h:EN w v ks ps)(z:ks.length<=1099511627776):
  S9 273 #[.func (.func 356) #[] #[ag w.heap.size],.func (.func 275) #[] #[]] (w.S6 #[v] 247)
   λe w'=>∃v',e= .returned v'/\w'.ownsRow w.heap.size 386 2 v' ks.length (kC ks)/\aj w w':=by
 have a:aj w (w.S6 #[v] 247):=(Below.refl _ _).alloc (aD _) _;have j:(w.S6 #[v] 247).cell? (ai w.heap.size 0)=some v:=(dP.new w #[v] 247).cell 0;rcases h with⟨rfl,rfl,rfl⟩|⟨k,rfl,x,u,t,g⟩;.refine(De _ w.heap.size 0 (λss=>ss= []) Te (λss h=>by simp[h]) (Db Tf j)).V ?_;rintro e w' ⟨v',ss,l,rfl,rfl,f,_,b,d⟩;obtain rfl:=f.eq_nil;exact⟨v',rfl,ownsRow_base_a b Tf,a.J (d.V a.size)⟩
 .obtain⟨D,i,y,c⟩:=x;have q:(w.S6 #[.map (some k)] 247).ownsMap prog 386 gG k ks.length D:=(by have p:=i.lt;obtain⟨r,clock,o,m,g,c⟩:=i;exact⟨r,clock,(Below.l _ _ _ p).J o,m,g,c⟩);refine(De _ w.heap.size (Go.Maps.size D) (λss=>qe D (λ_=>false) ss/\ss.length<=Go.Maps.size D) Te (λ_ h=>h.2) (EG Tf j q)).V ?_;rintro e w' ⟨v',ss,l,rfl,⟨s,_⟩,f,n,b,d⟩;obtain rfl:=Nj c u t g s f n;exact⟨v',rfl,ownsRow_base_a b Tf,a.J (d.V a.size)⟩
def Kp (w:aw)(ps:aB)(e:Ending)(w':aw):Prop:=
 ∃v,e= .returned v/\w'.ownsRow w.heap.size 180 1 v ps.length (fh ps)/\aj w w'
theorem Gm:∀{ks:List LV} {i:Nat} {q:LV},ks[i]?=some q->(kC ks)[i*2]?=some (.int .u64 q.1)/\(kC ks)[i*2+1]?=some (ae q.2)
 | [],_,_,h=>by simp at h
 |k::ks,0,q,h=>by simp at h;subst h;simp[kC]
 |k::ks,i+1,q,h=>by
  have:=Gm (ks:=ks) (i:=i) (q:=q) (by simpa using h);have a:(i+1)*2=i*2+1+1:=Te;rw[a];simpa [kC]using this
theorem ue {o:Option Nat}(h:EN w (.map o) ks ps)(W:ks.length<=1099511627776)(x:ks.length=ps.length):
  Calls prog 198 #[.map o] w (Kp w ps):=by
 have⟨Y,N,O,P,Q⟩:=info_parts (show(prog.info? 180).map (λi=>(i.zero,i.size,i.bytes))=some (some (.pointer none),1,8)by kernel_rfl);go_in
 go_wp2_with (first|(go_at_call 274;refine(Ko w o).V ?_;rintro e w' ⟨rfl,rfl⟩)|(go_at_call 273;refine(Dg h W).V ?_;rintro e w1 ⟨v',rfl,m,b⟩;obtain⟨Z,n,c,rfl⟩:=dO m;obtain rfl:n=ks.length:=d9 m))
 go_loopw [3,5,10] (λv _ i wr=>∃(k:Nat),k<=ks.length/\i=aa k/\wr.ownsRow w1.heap.size 180 1 v (ps.take k).length (fh (ps.take k))/\aj w1 wr) (λ_ _ i _=>ks.length-(intOf i).toNat)
 case atStart=>exact⟨0,aM _,rfl,aX _ _ _ _,Below.refl _ _⟩
 case round=>
  obtain⟨k,c,rfl,d,a⟩:=hrel;by_cases Ty:k<ks.length
  .have⟨q,f⟩:=gx Ty;have⟨p,G⟩:=gx (l:=ps) (i:=k) Te;have⟨S,T⟩:=Gm f;obtain⟨D,rfl,_,z,r⟩:=dV m Te;have c:=r wr (a.block D z) _ _ S;have c:=r wr (a.block D z) _ _ T;have C:ps.take (k+1)=ps.take k++ [p]:=by rw[bu,G];rfl
   have t:(Instr.lookup 247 (.map o) (.agg #[.int .u64 q.1,ae q.2]) false).run prog (wr.S6 #[.int .u64 q.1,ae q.2] 386)= .ok (ag p) (wr.S6 #[.int .u64 q.1,ae q.2] 386):=by
    rcases h with⟨_,rfl,_⟩|⟨g,e,B,c,R,X⟩;.simp at f
    .cases e;have s:=B.lt;have K:(wr.S6 #[.int .u64 q.1,ae q.2] 386).heap[g]?=w.heap[g]?:=(Below.l _ _ _ (aI (aI s b.size) a.size)).J ((a.block g (aI s b.size)).J (b.block g s));exact Kn (B.O K) X (R q (aO f)) f G
   have M:(ps.take k).length<=1099511627776:=by rw[bG];omega
   have A:Hid (ps.take (k+1)=ps.take k++ [p]):=C;have y:=cell_one_new (wr.S6 #[.int .u64 q.1,ae q.2] 386) (ag p) 180;rw[ca]at y;clear r C;generalize ps.take k=L at d M A;go_wp2_with (first|(at_builtin;refine wpList_append_own_at _ rfl _ _ 245 rfl w1.heap.size 180 Y _ 1 8 underlying245 N O P Q rfl Th u3 _ _ rfl ((d.alloc _).alloc _) _ 1 1 [_] rfl rfl y ?h1 ?h63 ?hby ?hba ?_;rotate_right;intro v' c I J F E))
   case h1=>intro u H;simp at H;subst H;rfl
   case h63=>unfold maxLen;omega
   case hby=>omega
   case hba=>have:=a.size;simp;omega
   refine⟨⟨k+1,Te,by go_num,?_,?_⟩,by simp[intOf];omega⟩;.rw[A.o];simpa [fh,gR]using I
   .exact((a.alloc a.size _).alloc (by have:=a.size;simp;omega) _).grown J (by have:=a.size;simp;omega) (λj U=>(d.lt j U).1)
  .have V:decide ((k:Int)<(ks.length:Int))=false:=Tg;obtain rfl:k=ks.length:=Te;rw[x,bX]at d;go_wp2;go_ret;exact⟨_,rfl,ownsRow_base_a d b.size,b.J (a.V b.size)⟩
end
end
section
open Go.Maps
open Tq
section
variable {w:aw} {k:Nat} {x:gw} {f:PF} {A:ax} {S:eE} {T:Option MT} {ps:aB} {t:au}
theorem OB (w:aw)(x0 x1 x2 x3:Value)(t:TypeId):∀j u,[x0,x1,x2,x3][j]?=some u->(w.alloc (.cells #[x0,x1,x2,x3] t)).cell? (((ai w.heap.size 0):Addr).add j)=some u:=aY (dP.new w _ _)
def xN (S:eE)(k:Nat):Prop:=∀(T:Option MT) (w:aw) (Z:ax) (db:Nat) (m:PM),el S k T w Z db m->S9 85 #[ag db] w (QV k w Z m)
theorem Nl {lv:List LV}(h:Se w x f A lv)(s:∀b,A b->b<w.heap.size):
  Calls prog 137 #[.agg #[aa x.1,x.2.1,x.2.2.1,x.2.2.2]] w (rY k w A f.2):=by
 obtain⟨D,E,C,B⟩:=x;obtain⟨_,r,g,rfl,rfl⟩:=h;simp only at g;obtain⟨a,n,c,rfl⟩:=dO g.1;have m:∀o,aj w (w.alloc o):=λo=>(Tb w).alloc (aD _) o
 go_in
 go_wp2;refine wp_loop_rounds 1 ?_;rw[rounds_succ];have p:∀i:aw,S9 198 #[.map none] i (Kp i []):=λi=>ue (ks:= []) (.inl ⟨rfl,rfl,rfl⟩) Tf rfl
 go_wp2_with (first|(go_at_call 198;refine(p _).V ?_;rintro e w1 ⟨v,rfl,j,q⟩;obtain⟨y,u,z,rfl⟩:=dO j;obtain rfl:u=0:=d9 j))
 refine wp_loop_rounds 1 ?_;rw[rounds_succ];go_wp2;go_ret;have d:=dL (m _) q;refine⟨_,A,rfl,?_,λb l=>⟨aI (s b l) d.size,.inl l⟩,d⟩;rw[r];exact Nf (g.O λb _ t=>d.block b t)
theorem Nm (Z:xN S k){L:Prop}{B:ax}(h:Sf (el S k) w T L x f A ps B)(hA:∀b,A b->b<w.heap.size):
  Calls prog 137 #[.agg #[aa x.1,x.2.1,x.2.2.1,x.2.2.2]] w (rY k w A f.2):=by
 obtain⟨K,xv,xm,xe⟩:=x;obtain⟨_,_,rfl,rfl,G,TU,_,H,Ud⟩:=h;obtain⟨fn,vs⟩:=f;simp only at G H⊢;obtain⟨a,c,rfl⟩:=ig G.1;have⟨i0,TV,TW,F,E⟩:=info_parts Tryz.infoV;have hlen:Hid (ps.length=vs.length):=H.len;have T8:ps.length<=vs.length/\vs.length<=ps.length:=by have:=hlen.o;omega
 have⟨r,M⟩:=eY w #[aa K,ah,.slice a ps.length c,.map none] 249;have Tt:=G.O λb _ d=>r.block b d
 have Tz:=H.imp (Q:=λp v C=>v=mV v.2.2/\el S k T (w.alloc (ak #[aa K,ah,.slice a ps.length c,.map none] 249)) C p v.2.2) λ_ _ _ _ _ _ h=>⟨h.1,h.2.O λb _ d=>r.block b d⟩
 go_in
 go_wp2;generalize w.alloc (ak #[aa K,ah,.slice a ps.length c,.map none] 249)=wB at*;have zB:=r.size;have TS:∀b,B b->b<wB.heap.size:=λb o=>by grind
 go_loopw [3,5,13] (λu _ i wr=>∃(q:Nat),q<=ps.length/\i=aa q/\vx S k T wB B wr u (vs.take q) (ps.drop q) (vs.drop q)/\Below wB.heap.size wB wr) (λ_ _ i _=>ps.length-(intOf i).toNat)
 case atStart=>exact⟨0,aM _,rfl,vx.start Tz,Below.refl _ _⟩
 case round=>
  obtain⟨q,hq,rfl,t,n⟩:=hrel;by_cases hlt:q<ps.length
  .have⟨p,hp⟩:=gx hlt;have⟨v,hv⟩:=gx (l:=vs) (i:=q) Te;obtain⟨gf,rfl,_,TJ,Ty⟩:=dV Tt.1 Te;have t0:=Ty wr (n.block gf TJ) q (rk p) (by grind);have e1:ps.drop q=p::ps.drop (q+1):=by rw[aS hlt];grind
   have e2:vs.drop q=v::vs.drop (q+1):=by rw[aS Te];grind
   have V:Hid (vs.take (q+1)=vs.take q++ [v]):=by grind
   rw[e1,e2]at t;obtain⟨ms,Y,B1,B2,hs,TX,TY,TZ,s,TK,N,hY⟩:=t;obtain⟨C,Ue,⟨P,I⟩,T0,hC,T4,T5⟩:=hs;obtain⟨v1,v2,m⟩:=v;have TE:v1=0:=dK Prod.fst P;have TF:v2=eS:=dK (λz:PV=>z.2.1) P;subst TE TF;have TG:=Z T wr C p m (I.O λb _ d=>n.block b d);have TT:(vs.take q).length<=1073741824:=by grind
   unfold rk at t0;generalize vs.take q=D at s N TT V;go_wp2_with fail;refine TG.V ?_;rintro e w1 ⟨mv,U,rfl,y,W,g⟩;obtain⟨a3,c3,rfl⟩:=y.form;have TH:=eL g s;have z1:=g.size;go_wp2_with (first|(at_builtin;refine wpList_append_own_at _ rfl _ _ 56 rfl wB.heap.size 55 i0 _ 4 64 underlying56 TV TW F E rfl Th u3 _ _ rfl (TH.alloc _) _ 1 1 [_,_,_,_] rfl rfl (OB _ _ _ _ _ _) ?h1 ?h63 ?hby ?hba ?_;rotate_right;intro v' w5 TB R T6 T7))
   case h1=>intro u X;simp at X;rcases X with rfl|rfl|rfl|rfl<;>rfl
   case h63=>unfold maxLen;omega
   case hby=>omega
   case hba=>have:=n.size;simp;omega
   have zr:=n.size;refine⟨⟨q+1,Te,by go_num,?_,?_⟩,by simp[intOf];omega⟩;.rw[V.o];refine vx.step TS n.size T0 hC T4 T5 TX TY TZ s TK N hY (dL g ((Below.refl _ _).alloc (aD _) _)) (y.O λb _ d=>Below.l _ _ b d) (λb o=>⟨by have:=(W b o).1;simp;omega,(W b o).2⟩) R (by simpa [kU,eS]using TB) ?_;grind
   .exact(dL n (dL g ((Below.refl _ _).alloc (aD _) _))).grown R Tg (λj hj=>(s.lt j hj).1)
  .have T9:decide ((q:Int)<(ps.length:Int))=false:=by grind
   obtain rfl:q=ps.length:=Te;rw[cY,hlen.o,bX,cY]at t;have TQ:∀J:aw,S9 198 #[.map none] J (Kp J []):=λJ=>ue (ks:= []) (.inl ⟨rfl,rfl,rfl⟩) Tf rfl
   have⟨k1,k2⟩:=(M.G n M.lt).I;go_wp2_with (first|(go_at_call 198;refine(TQ _).V ?_;rintro e w1 ⟨v,rfl,O,g⟩;obtain⟨a1,n1,c1,rfl⟩:=dO O;obtain rfl:n1=0:=d9 O))
   refine wp_loop_rounds 1 ?_;rw[rounds_succ];go_wp2;go_ret;have⟨U,F,E⟩:=t.done;have z1:=g.size;refine⟨_,U,rfl,F.O (λb _ d=>g.block b d) (λmv m C _ y=>y.O λb _ d=>g.block b d),λb o=>⟨by grind,(E b o).2.imp (TU b) (λh=>Te)⟩,dL r (dL n g)⟩
theorem D7.kv {v:PV}(h:D7 t v):yV (lC t v):=by
 have:=h.lo;have:=h.hi;have:=h.sz;unfold lC;refine⟨?_,?_,by show _<=maxLen;unfold maxLen;grind⟩;.simp only;split<;>omega
 omega
theorem Nn (HF:xN S k){B:ax}{mb:Nat}(h:Sg (el S k) w x f A t mb ps B)(hA:∀b,A b->b<w.heap.size):
  Calls prog 137 #[.agg #[aa x.1,x.2.1,x.2.2.1,x.2.2.2]] w (rY k w A f.2):=by
 obtain⟨xn,xv,xm,xe⟩:=x;obtain⟨_,rfl,rfl,rfl,H,TU,_,_,O,P,J,Ud⟩:=h;obtain⟨fn,vs⟩:=f;simp only at H O P J⊢;have⟨i0,TV,TW,G,y⟩:=info_parts Tryz.infoV;have hlen:Hid (ps.length=vs.length):=J.len;have T8:ps.length<=vs.length/\vs.length<=ps.length:=by have:=hlen.o;omega
 have L:aj w (w.alloc (ak #[aa xn,ah,ah,.map (some mb)] 249)):=(Tb w).alloc (aD _) _
 have Ua:EN (w.alloc (ak #[aa xn,ah,ah,.map (some mb)] 249)) (.map (some mb)) (vs.map λv=>lC t (fJ v)) ps:=
  .inr ⟨mb,rfl,H.O (L.block mb H.lt),by grind,(by
   intro q X;obtain⟨v,hv,rfl⟩:=aV.1 X
   exact(O v hv).kv),cn.2 P⟩
 have Ub:=ue Ua (by grind) (by grind);go_in
 go_wp2;refine wp_loop_rounds 1 ?_;rw[rounds_succ];go_wp2_with (first|(go_at_call 198;refine Ub.V ?_;rintro e g ⟨v,rfl,I,n⟩;obtain⟨a,n1,c,rfl⟩:=dO I;obtain rfl:n1=ps.length:=d9 I))
 have F:aj w g:=dL L n;have zB:=F.size;have Tz:=J.imp (Q:=λp v C=>v=mV v.2.2/\el S k none g C p v.2.2) λ_ _ _ _ _ _ h=>⟨h.1,h.2.O λb _ r=>F.block b r⟩
 have TS:∀b,B b->b<g.heap.size:=λb o=>by grind
 go_loopw [3,7,28] (λu _ i wr=>∃(q:Nat),q<=ps.length/\i=aa q/\vx S k none g B wr u (vs.take q) (ps.drop q) (vs.drop q)/\Below g.heap.size g wr) (λ_ _ i _=>ps.length-(intOf i).toNat)
 case atStart=>exact⟨0,aM _,rfl,vx.start Tz,Below.refl _ _⟩
 case round=>
  obtain⟨q,X,rfl,E,d⟩:=hrel;by_cases hlt:q<ps.length
  .have⟨p,hp⟩:=gx hlt;have⟨v,hv⟩:=gx (l:=vs) (i:=q) Te;obtain⟨gf,rfl,_,TJ,Ty⟩:=dV I Te;have t0:=Ty wr (d.block gf TJ) q (rk p) (by simp[fh,hp,rk,gR]);have e1:ps.drop q=p::ps.drop (q+1):=by rw[aS hlt];grind
   have e2:vs.drop q=v::vs.drop (q+1):=by rw[aS Te];grind
   have U:Hid (vs.take (q+1)=vs.take q++ [v]):=by grind
   rw[e1,e2]at E;obtain⟨ms,Y,B1,B2,hs,TX,TY,TZ,s,TK,M,hY⟩:=E;obtain⟨C,Ue,⟨N,K⟩,T0,hC,T4,T5⟩:=hs;obtain⟨v1,v2,m⟩:=v;have TE:v1=0:=dK Prod.fst N;have TF:v2=eS:=dK (λz:PV=>z.2.1) N;subst TE TF;have TG:=HF none wr C p m (K.O λb _ r=>d.block b r);have TT:(vs.take q).length<=1073741824:=by grind
   unfold rk at t0;generalize vs.take q=D at s M TT U;go_wp2_with fail;refine TG.V ?_;rintro e w1 ⟨mv,T,rfl,W,V,n⟩;obtain⟨a3,c3,rfl⟩:=W.form;have TH:=eL n s;have z1:=n.size;go_wp2_with (first|(at_builtin;refine wpList_append_own_at _ rfl _ _ 56 rfl g.heap.size 55 i0 _ 4 64 underlying56 TV TW G y rfl Th u3 _ _ rfl (TH.alloc _) _ 1 1 [_,_,_,_] rfl rfl (OB _ _ _ _ _ _) ?h1 ?h63 ?hby ?hba ?_;rotate_right;intro v' w5 TB R T6 T7))
   case h1=>intro u Z;simp at Z;rcases Z with rfl|rfl|rfl|rfl<;>rfl
   case h63=>unfold maxLen;omega
   case hby=>omega
   case hba=>have:=d.size;simp;omega
   have zr:=d.size;refine⟨⟨q+1,Te,by go_num,?_,?_⟩,by simp[intOf];omega⟩;.rw[U.o];refine vx.step TS d.size T0 hC T4 T5 TX TY TZ s TK M hY (dL n ((Below.refl _ _).alloc (aD _) _)) (W.O λb _ r=>Below.l _ _ b r) (λb o=>⟨by have:=(V b o).1;simp;omega,(V b o).2⟩) R (by simpa [kU,eS]using TB) ?_;grind
   .exact(dL d (dL n ((Below.refl _ _).alloc (aD _) _))).grown R Tg (λj hj=>(s.lt j hj).1)
  .have T9:decide ((q:Int)<(ps.length:Int))=false:=by grind
   obtain rfl:q=ps.length:=Te;rw[cY,hlen.o,bX,cY]at E;go_wp2;go_ret;have⟨T,G,y⟩:=E.done;exact⟨_,T,rfl,G,λb o=>⟨(y b o).1,(y b o).2.imp (TU b) (λh=>Te)⟩,dL F d⟩
theorem Pj (c:xN S k)(h:gO S (el S k) w T x f A)(a:∀b,A b->b<w.heap.size):S9 137 #[.agg #[aa x.1,x.2.1,x.2.2.1,x.2.2.2]] w (rY k w A f.2):=by
 rcases h.2 with⟨_,lv,h⟩|⟨_,ps,B,h⟩|⟨t,_,d,ps,B,h⟩;.exact Nl h a
 .exact Nm c h a
 .exact Nn c h a
end
section
variable {w w0 wr:aw} {u:Value} {S:eE} {k N0:Nat} {T:Option MT} {B:ax} {l:List gw} {f:PF}
theorem Hu {uv:Value}{u:au}(h:w.ownsRow 0 5 1 uv u.size (Lib.strCells u)):(convert 140 9 uv).run prog w= .ok (ae u) w:=by
 rcases h.2 with⟨rfl,f⟩|⟨g,a,c,rfl,_,k,o,p,q,i⟩;.have n:u=⟨#[]⟩:=(by cases u with|mk d=>exact dK _ (Array.eq_empty_of_size_eq_zero f));subst n;exact run_convert_bytes_nil w 140 5 underlying140 underlying5 0 0 9 underlying9
 .have m:u.data.toList.length=u.size:=da
  have:=run_convert_bytes_back (P:=prog) w 140 9 5 (ai g 0) a u.data.toList underlying140 underlying5 underlying9 (λj l=>by
   have b:(c.toList.take (u.size*1))[j]?=(Lib.strCells u)[j]?:=by rw[i]
   rw[cG Te]at b;have e:((ai g 0):Addr).add j=(ai g j):=by unfold Addr.add;split<;>simp_all
   rw[e];simp only[World.cell?,k];simp only[Option.isSome_none,aN,if_false];rw[<-bT,b];unfold Lib.strCells;rw[aT,aP l]
   rfl)
  rw[m]at this;simpa using this
def Bf (S:eE)(k:Nat)(T:Option MT)(w0:aw)(N0:Nat)(B:ax)(wr:aw)(u:Value)(done:List PF)(l:List gw)(rest:List PF):Prop:=
 ∃Tt Y,∃B1 B2:ax,i8 (gO S (el S k) w0 T) B2 l rest/\(∀b,B1 b->B b)/\(∀b,B2 b->B b)/\(∀b,B1 b->¬B2 b)/\
  wr.ownsRow N0 58 2 u done.length (lW Tt done)/\(∀b,u.ownBlock=some b->¬Y b)/\i8 (λa f A=>iw (lR (k+1) wr) wr A a f.2) Y Tt done/\(∀b,Y b->b<wr.heap.size/\(B1 b\/N0<=b))
theorem Bf.start {fs:List PF}(h:i8 (gO S (el S k) w0 T) B l fs):Bf S k T w0 N0 B wr (ah) [] l fs:=
 ⟨[],λ_=>False,λ_=>False,B,h,λ_ q=>q.elim,λ_ q=>q,λ_ q=>q.elim,aX _ _ _ _,(λ_ q=>by cases q),trivial,λ_ q=>q.elim⟩
theorem Bf.done {m:PM}(h:Bf S k T w0 N0 B wr u m.fs [] []):
  ∃Z',lR (k+1+1) wr u m Z'/\∀b,Z' b->b<wr.heap.size/\(B b\/N0<=b):=by
 obtain⟨g,Y,j,l,_,e,_,_,c,i,f,d⟩:=h;refine⟨λb=>Y b\/u.ownBlock=some b,⟨g,Y,⟨ownsRow_base_a c (aM _),λb a=> .inr a⟩,i,λb a=> .inl a,f⟩,?_⟩;rintro b (a|a);.exact⟨(d b a).1,(d b a).2.imp (e b) id⟩
 .exact⟨(c.lt b a).2,.inr (c.lt b a).1⟩
theorem Bf.step {w1 w2:aw}{u' vv:Value}{done rest:List PF}{A B2 TJ B1 Y Z':ax}{Tt:ay}
  (m:∀b,B b->b<N0) (R:N0<=wr.heap.size)
  (M:i8 (gO S (el S k) w0 T) TJ l rest) (r:∀b,A b->B2 b) (z:∀b,TJ b->B2 b) (t:∀b,A b->¬TJ b)
  (F:∀b,B1 b->B b) (p:∀b,B2 b->B b) (y:∀b,B1 b->¬B2 b) (H:wr.ownsRow N0 58 2 u done.length (lW Tt done)) (K:∀b,u.ownBlock=some b->¬Y b)
  (D:i8 (λvv f A=>iw (lR (k+1) wr) wr A vv f.2) Y Tt done) (v:∀b,Y b->b<wr.heap.size/\(B1 b\/N0<=b))
  (d:aj wr w1) (hm:iw (lR (k+1) w1) w1 Z' vv f.2) (s:∀b,Z' b->b<w1.heap.size/\(A b\/wr.heap.size<=b))
  (L:∀b,(Y b\/Z' b)->b<w1.heap.size->u.ownBlock≠some b->w2.heap[b]?=w1.heap[b]?) (N:w1.heap.size<=w2.heap.size)
  (i:w2.ownsRow N0 58 2 u' (done.length+1) (lW Tt done++lW [vv] [f])) (w:u'.ownBlock=u.ownBlock\/∃g,u'.ownBlock=some g/\w1.heap.size<=g):
  Bf S k T w0 N0 B w2 u' (done++ [f]) l rest:=by
 have hlen:Tt.length=done.length:=D.len
 have G:∀b,Y b->¬Z' b:=λb a O=>by
  have P:=v b a;have Q:=s b O;rcases Q.2 with q|q
  .rcases P.2 with n|n;.exact y b n (r b q)
   .have:=m b (p b (r b q));omega
  .omega
 have x:∀b,u.ownBlock=some b->¬(Y b\/Z' b):=λb a h=>by
  rcases h with h|h;.exact K b a h
  .have q:=H.lt b a;rcases(s b h).2 with n|n;.have:=m b (p b (r b n));omega
   .omega
 have E:∀b,(Y b\/Z' b)->b<w1.heap.size->w2.heap[b]?=w1.heap[b]?:=λb a c=>L b a c (λe=>x b e a)
 refine⟨Tt++ [vv],λb=>Y b\/Z' b,λb=>B1 b\/A b,TJ,M,?_,λb a=>p b (z b a),?_,?_,?_,?_,?_⟩
 .rintro b (a|a);.exact F b a
  .exact p b (r b a)
 .rintro b (a|a);.exact λh=>y b a (z b h)
  .exact t b a
 .rw[uL hlen];simpa using i
 .intro b a h;rcases w with e|⟨g,e,J⟩;.exact x b (e▸a) h
  .rw[e]at a;cases a;rcases h with h|h;.have:=(v _ h).1;have:=d.size;omega
   .have:=(s _ h).1;omega
 .refine i8.append (A:=Y) (B:=Z') ?_ ?_ (λb h=> .inl h) (λb h=> .inr h) G
  .refine D.imp λvv f C _ _ I h=> ?_
   have j:∀b,C b->b<wr.heap.size->w2.heap[b]?=wr.heap[b]?:=λb a c=>(E b (.inl (I b a)) (aI c d.size)).J (d.block b c)
   exact h.O j (λ_ _ _ o hm=>hm.O λb a c=>j b (o b a) c)
  .have j:∀b,Z' b->b<w1.heap.size->w2.heap[b]?=w1.heap[b]?:=λb a c=>E b (.inr a) c
   exact⟨Z',λ_=>False,hm.O j (λ_ _ _ o hm=>hm.O λb a c=>j b (o b a) c),trivial,λb h=>h,λb h=>h.elim,λb _ h=>h⟩
 .rintro b (a|a);.have q:=v b a;have:=d.size;exact⟨Te,q.2.imp .inl id⟩
  .have q:=s b a;exact⟨Te,q.2.imp .inr (λh=>Te)⟩
theorem No (d:xN S k){W:aw}{x0:Int}{x1 x2 x3:Value}{C:ax}(h:gO S (el S k) w T (x0,x1,x2,x3) f C)(a:aj w W)
  (g:∀b,C b->b<w.heap.size):S9 137 #[.agg #[aa x0,x1,x2,x3]] W (rY k W C f.2):=by
 have e:gO S (el S k) W T (x0,x1,x2,x3) f C:=gO.O (λ_ _ _ _ _ h=>el.O h λb _ c=>a.block b c) (λb _ c=>a.block b c) h;have:=Pj d e (λb i=>aI (g b i) a.size);exact this
theorem Hv (y:xN S k):xN S (k+1):=by
 intro T w Z a m h;obtain⟨sv,uv,l,g,d,e⟩:=h;have⟨i0,Un,Uo,V,M⟩:=info_parts Tryz.infoF;obtain⟨a,b,rfl⟩:=ig d.c.row;obtain⟨f,a,i,rfl⟩:=dO d.un;have b:∀w':aw,aj w w'->(convert 140 9 (.slice f a i)).run prog w'= .ok (ae m.unk) w':=λw' c=>Hu (eL c d.un)
 have hlen:Hid (l.length=m.fs.length):=e.len;have a:l.length<=m.fs.length/\m.fs.length<=l.length:=by have:=hlen.o;omega
 have a:l.length<=1073741824:=d.c.len;have Q:=d.c.blk;have J:aj w (w.alloc (ak #[ah,S8] 49)):=(Tb w).alloc (aD _) _;have a:aj w ((w.alloc (ak #[ah,S8] 49)).alloc (ak #[ah,ae m.unk] 49)):=J.alloc J.size _;have f:=b _ J;have K:=(dP.new w #[ah,S8] 49).alloc (ak #[ah,ae m.unk] 49);have G:=dP.newAt (w:=w.alloc (ak #[ah,S8] 49)) (n:=w.heap.size+1) Tf #[ah,ae m.unk] 49;have⟨i,j⟩:=(Q.G J Q.lt).I;have⟨n,o⟩:=(Q.G a Q.lt).I;go_enter func85,ntmps85;go_wp2;clear i j n o f b J;generalize(w.alloc (ak #[ah,S8] 49)).alloc (ak #[ah,ae m.unk] 49)=wB at*;have b:w.heap.size+2<=wB.heap.size:=G.lt
 go_loopw [5,17] (λ_ i wr=>∃(q:Nat) (u:Value),q<=l.length/\i=aa q/\dP wr w.heap.size #[ah,S8] 49/\dP wr (w.heap.size+1) #[u,ae m.unk] 49/\
  Bf S k T w (w.heap.size+2) g wr u (m.fs.take q) (l.drop q) (m.fs.drop q)/\aj w wr) (λ_ i _=>l.length-(intOf i).toNat)
 case atStart=>exact⟨0,_,aM _,rfl,K,G,Bf.start e,a⟩
 case round=>
  obtain⟨q,u,a,rfl,K,G,n,X⟩:=hrel;by_cases hlt:q<l.length
  .have⟨x,z⟩:=gx hlt;have⟨f,e⟩:=gx (l:=m.fs) (i:=q) Te;obtain⟨b,rfl,_,a,g⟩:=dV d.c.row Te;have L:=g wr (X.block b a);have p:=L (q*4+0) _ (fW d8 4 gp l q x z 0 Te);have t1:=L (q*4+1) _ (fW d8 4 gp l q x z 1 Te);have t2:=L (q*4+2) _ (fW d8 4 gp l q x z 2 Te);have t3:=L (q*4+3) _ (fW d8 4 gp l q x z 3 Te);rw[Nat.add_zero]at p;have j:l.drop q=x::l.drop (q+1):=by rw[aS hlt];congr 1;exact Option.some.inj ((aP hlt).sy.J z)
   have o:m.fs.drop q=f::m.fs.drop (q+1):=by rw[aS Te];congr 1;exact Option.some.inj ((aP Te).sy.J e)
   have Z:Hid (m.fs.take (q+1)=m.fs.take q++ [f]):=by show _=_;rw[bu,e];rfl
   rw[j,o]at n;obtain⟨U,Y,a,i,b,Q,J,TP,H,Tv,T,hY⟩:=n;obtain⟨C,i,a,Uq,hC,TQ,Ur⟩:=b;have⟨⟨A,E,B,O⟩,⟨s,t,v,b⟩,F,i⟩:=d.c.form x (aO z);obtain⟨r,u,D,I⟩:=x;simp only at O b i;subst O b i;have TS:f.1=r:=a.1.sy;have x:∀b,C b->b<w.heap.size:=λb c=>d.yl b (J b (hC b c))
   have N:Hid (∀W:aw,aj w W->S9 137 #[.agg #[aa r,.slice A E B,.slice s t v,.map F]] W (rY k W C f.2)):=λW i=>No y a i x
   have u:=X.alloc X.size (ak #[aa r,.slice A E B,.slice s t v,.map F] 249);have⟨O,y⟩:=eY wr #[aa r,.slice A E B,.slice s t v,.map F] 249;have P:=K.alloc (ak #[aa r,.slice A E B,.slice s t v,.map F] 249);have R:=G.alloc (ak #[aa r,.slice A E B,.slice s t v,.map F] 249);have i:(m.fs.take q).length<=1073741824:=by rw[bG];omega
   have D:w.heap.size+2<=wr.heap.size:=G.lt;clear g L j o a z e;generalize m.fs.take q=D at H T i Z;obtain⟨o,I,g,rfl⟩:=dO H;have i:∀b,(Value.slice o I g).ownBlock=some b->w.heap.size+2<=b:=λb c=>(H.lt b c).1
   go_upto_region 5 with fail
   clear p t1 t2 t3;generalize wr.alloc (ak #[aa r,.slice A E B,.slice s t v,.map F] 249)=w4 at*;have a:=R.drew;have R:=y.drew;have z:=P.drew;have L:Hid (S9 137 #[.agg #[aa r,.slice A E B,.slice s t v,.map F]] w4.drew (rY k w4.drew C f.2)):=N.o w4.drew u.drew;have E:w4.drew.ownsRow (w.heap.size+2) 58 2 (.slice o I g) D.length (lW U D):=eL O.drew H;have B:Hid (some (w.heap.size+1)≠(Value.slice o I g).ownBlock):=λe=>by have:=i _ e.sy;omega
   have f:Hid (some wr.heap.size≠(Value.slice o I g).ownBlock):=λe=>by have:=(H.lt _ e.sy).2;omega
   have f:Hid (w.heap.size+1≠wr.heap.size):=λe=>Te
   have W:Hid (some w.heap.size≠(Value.slice o I g).ownBlock):=λe=>by have:=i _ e.sy;omega
   have⟨p1,p2⟩:=a.I;have⟨p3,p4⟩:=R.I;have f:wr.heap.size<w4.drew.heap.size:=R.lt;go_region_law (first|(refine step_append_lies _ Tk _ _ _ Tk (w.heap.size+2) 58 i0 _ 2 32 underlying47 Un Uo V M rfl Te (.slice o I g) D.length (lW U D) Tk (F.alloc _) (ai P.heap.size 0) 1 1 [_,_] Tk Tk (aY (dP.new _ _ _)) Tm Te Tl Te Tg (P.heap.size+1) Tf ?_;intro v p w6 C N Us A;have s:=(j.alloc _).grown N B.o;have⟨r1,r2⟩:=s.I)|(go_simp;go_at_call 137;refine L.o.V ?_;rintro e P ⟨vv,f,rfl,t,r,y⟩;obtain⟨va,vc,rfl⟩:=t.form;have j:=a.G y a.lt;have Uj:=R.G y R.lt;have F:=eL y E;have z5:=y.size;have⟨q1,q2⟩:=j.I;have⟨q3,q4⟩:=Uj.I;have⟨y3,y4,y5,y6⟩:=gW (w:=P) (b:=w.heap.size+1) j.lt))
   all_goals
    go_wp2;go_roundw
    case rel=>
     have a:=N.size;simp only[ca]at a
     have a:∀b,(Y b\/f b)->w.heap.size+1≠b:=by
      rintro b (c|c) e
      .rcases(hY b c).2 with h|h;.have:=d.yl b (Q b h);omega
       .omega
      .rcases(r b c).2 with h|h;.have:=x b h;omega
       .omega
     refine⟨q+1,_,Te,by go_num,(((z.G y z.lt).alloc _).grown N W.o).other 0 _ Te,s.set 0 _,?_,?_⟩
     .rw[Z.o];refine Bf.step (λb c=>by have:=d.yl b c;omega) Te Uq hC TQ Ur Q J TP H Tv T hY (w1:=P) (dL O.drew y) t (λb c=>⟨(r b c).1,(r b c).2.imp id (λh=>Te)⟩) ?_ ?_ ?_ ?_;.intro b c j U;rw[dM,dG (a b c)];exact(N.block b Tg (λe=>U e.sy)).J (Below.l _ _ b j)
      .simp only[cH];omega
      .have:=ownsRow_setCell_below C (a:=(ai (w.heap.size+1) 0)) Tf (Ta v (D.length+1) p);simpa [lW,TS]using this
      .rcases Us with h|h;.exact .inl h.sy
       .exact .inr ⟨v,rfl,Te⟩
     .have r:w.heap.size<=P.heap.size:=Te;exact(((dL u.drew y).alloc r _).grown N (by rw[ca];omega) (λj a=>by have:=i j a;omega)).setCell (p:=(ai (w.heap.size+1) 0)) (bC _) _
    case measure=>simp[intOf];omega
  .have a:decide ((q:Int)<(l.length:Int))=false:=Tg;obtain rfl:q=l.length:=Te;rw[cY,hlen.o,bX,cY]at n;have⟨f,V,M⟩:=n.done;obtain⟨o,g,rfl⟩:=V.form;have⟨p1,p2⟩:=G.I;have⟨p3,p4⟩:=K.I;go_wp2
   have a:∀b,f b->b<wr.heap.size->((wr.setCell (ai w.heap.size 0) (.slice o m.fs.length g)).setCell (ai w.heap.size 1) (ae m.unk)).heap[b]?=wr.heap[b]?:=λb c _=>by
    have U:w.heap.size≠b:=λe=>by
     rcases(M b c).2 with h|h;.have:=d.yl b h;omega
     .omega
    rw[dM,dG U,dM,dG U]
   refine dJ (dW results85 _ _ rfl ((K.set 0 _).set 1 _) underlying49 Tj) rfl ⟨_,f,rfl,V.O a,λb c=>⟨by simp only[cH];exact(M b c).1,(M b c).2.imp (d.yz b) (λh=>Te)⟩,(X.setCell (p:=(ai w.heap.size 0)) (aD _) _).setCell (p:=(ai w.heap.size 1)) (aD _) _⟩
theorem xO:∀k,xN S k
 |0=>λ_ _ _ _ _ h=>h.elim
 |k+1=>Hv (xO k)
end
end
def Ai (w:aw)(xb:Nat)(b:au)(k:Nat)(Z:ax)(r:Fx (List PV))(en:Ending)(w':aw):Prop:=
 match r with
 | .ok l=>∃vv,en= .returned vv/\fk (gQ (k+1) w' Z) w' Z vv l/\aj w w'
 | .error (c,p)=>∃vv l,en= .returned vv/\fk (gQ (k+1) w' Z) w' Z vv l/\kr w' xb b c p/\c≠0/\dY [xb] w w'
def fk.kept {w w':aw}{Z:ax}{xb:Nat}(f:dY [xb] w w')(g:¬Z xb){k:Nat}{v:Value}{l:List PV}(h:fk (gQ k w Z) w Z v l):fk (gQ k w' Z) w' Z v l:=
 h.O (λ_ _ h=>h.O (λb c d=>f.block b d (by simp;intro e;subst e;exact g c))) (λb c d=>f.block b d (by simp;intro e;subst e;exact g c))
section
variable {b:au} {k e F a:Nat} {l:List PV}
def Ii (h:¬a<e):gy b k e F l a= .ok l:=by
 cases F with
 |zero=>rfl
 |succ F=>rw[gy,dG h]
def Lo (h:a<e)(hw:ed k=0):gy b k e (F+1) l a=match j8 b a e with
  | .error x=> .error x
  | .ok (n,z)=>gy b k e F (l++ [(jc k n,eS,PM.none)]) z:=by
 rw[gy,dH h,dH hw];rfl
def Dv {z:Nat}(h:a<e)(hw:ed k≠0)(c:z=if ed k=5 then 4 else 8):gy b k e (F+1) l a=
  if a+z<=e then gy b k e F (l++ [(jc k (vi (b.extract a (a+z))),eS,PM.none)]) (a+z)else .error (6,(a:Int)):=by
 rw[gy,dH h,dG hw];subst c;rfl
end
def Lp (w:aw)(xb sb:Nat)(b:au)(p0:Int)(P Z:ax)(S:eE)(f:fB)(k:Nat)(lv:Value)(l:List PV)(r:pO)(KX:kr w xb b 0 p0)(HS:iE w P sb S)(X:Bo S)(B:S.es.length<=4000)
  (h:fk (gQ (k+1) w Z) w Z lv l) (hZ:∀b,w.heap.size<=b->Z b) (H:¬Z xb) (hsz:b.size<=268435456) (he:r.e<=b.size) (hf:r.fr<=r.e) (hl:l.length<=r.fr):
  Calls prog 226 #[ag xb,ag sb,.agg (fI f).toArray,lv,.agg (kF r)] w (Ai w xb b k Z (ln S b f l r.fr r.e)):=by
 obtain⟨R,hR⟩:=Td (ln S b f l r.fr r.e);obtain⟨d,V⟩:=Td (S.base f.ty);have HR:Hid (gy b d r.e (r.e-r.fr) l r.fr=R):=by rw[<-V];exact hR
 have Y:Hid (S.base f.ty=d):=V;have HW:Hid (S.wire f.ty=ed d):=by unfold eE.wire;rw[V];rfl
 rw[hR];clear hR V;obtain⟨la,lc,rfl⟩:=h.form;unfold fI kF;have q:=(dP.new w #[ae f.name,ae f.ty,ae f.key,ae f.how,aa f.num] 178).alloc (ak #[aa r.num,aa r.kind,aa r.a,aa r.fr,aa r.e,.int .u64 r.n] 339);have s:=dP.new1 w (ak #[ae f.name,ae f.ty,ae f.key,ae f.how,aa f.num] 178) #[aa r.num,aa r.kind,aa r.a,aa r.fr,aa r.e,.int .u64 r.n] 339;have K:=((Tb w).alloc (aD _) (ak #[ae f.name,ae f.ty,ae f.key,ae f.how,aa f.num] 178)).alloc Tf (ak #[aa r.num,aa r.kind,aa r.a,aa r.fr,aa r.e,.int .u64 r.n] 339);have TN:xb<w.heap.size:=dP.lt KX;have o:=KX.G K TN;have v:=HS.G K;have h1:=h.G K (aD _);have⟨I,J⟩:=q.I;have⟨y,A⟩:=s.I;go_in
 go_wp2_with fail;refine(Ln _ P sb S f.ty v X B).V ?_;rintro e _ ⟨rfl,rfl⟩;rw[HW.o];generalize(w.alloc (ak #[ae f.name,ae f.ty,ae f.key,ae f.how,aa f.num] 178)).alloc (ak #[aa r.num,aa r.kind,aa r.a,aa r.fr,aa r.e,.int .u64 r.n] 339)=w1 at*;have hx0:¬xb=w.heap.size:=Te;have hx1:¬xb=w.heap.size+1:=Te;go_wp2
 go_loopw [3,12] (λlv i wr=>dP wr w.heap.size #[ae f.name,ae f.ty,ae f.key,ae f.how,aa f.num] 178/\dP wr (w.heap.size+1) #[aa r.num,aa r.kind,aa r.a,aa r.fr,aa r.e,.int .u64 r.n] 339/\
   (
    (∃(a F:Nat) (l2:List PV),r.fr<=a/\a<=r.e/\r.e-a<=F/\l2.length<=a/\Hid (gy b d r.e F l2 a=R)/\fk (gQ (k+1) wr Z) wr Z lv l2/\kr wr xb b 0 p0/\iE wr P sb S/\aj w wr/\i=aa a)\/ (∃(c p:Int) (l2:List PV),c≠0/\Hid (R= .error (c,p))/\fk (gQ (k+1) wr Z) wr Z lv l2/\kr wr xb b c p/\dY [xb] w wr/\i=aa r.e))) (λ_ i _=>r.e-(intOf i).toNat)
 case atStart=>exact⟨q,s,.inl ⟨r.fr,_,l,aD _,hf,aD _,Te,HR,h1,o,v,K,rfl⟩⟩
 case round=>
  clear q s h1 o v K I J y A;obtain⟨q,s,hr⟩:=hrel;have⟨I,J⟩:=q.I;have⟨y,A⟩:=s.I;rcases hr with⟨a,F,l2,ha1,TR,hF,hl2,m,t,o,v,u,rfl⟩|⟨c,p,l2,hc,m,t,o,TS,rfl⟩
  .obtain⟨va,vc,rfl⟩:=t.form;have TO:dP wr xb #[ae b,aa 0,aa p0] 279:=o;have⟨T,U⟩:=TO.I;by_cases hlt:a<r.e
   .have TP:(a:Int)<(r.e:Int):=Te;obtain⟨F,rfl⟩:∃F',F=F'+1:=⟨F-1,Te⟩;by_cases hw0:ed d=0
    .have TJ:¬((ed d:Nat):Int)=5:=Te;have TG:(((ed d:Nat):Int)==0)=true:=by simp[hw0]
     have j:=Lo (b:=b) (F:=F) (l:=l2) hlt hw0;clear hw0;go_wp2_with fail;refine(om _ xb b p0 o a r.e hsz he TR).V ?_;intro en w3 W
     cases h2:j8 b a r.e with
     |error xx=>
      obtain⟨c,p⟩:=xx;rw[h2]at W j;obtain⟨rfl,G,x⟩:=W;have hc:c≠0:=by have:=(vM h2).1;omega
      have E:Hid (R= .error (c,p)):=by rw[<-m.o,j];rfl
      have TQ:=q.kept x Tg;have TK:=s.kept x Tg;have TH:dP w3 xb #[ae b,aa c,aa p] 279:=G;clear I J y A T U m j h2;have⟨y,A⟩:=TK.I;have⟨T,U⟩:=TH.I;go_wp2;go_roundw
      case rel=>exact⟨TQ,TK,.inr ⟨c,p,l2,hc,E,t.kept x H,G,(dY.oB u).J x,rfl⟩⟩
      case measure=>simp[intOf];omega
     |ok xx=>
      obtain⟨n,z⟩:=xx;rw[h2]at W j;obtain⟨rfl,TT⟩:=W;obtain rfl:=TT.sy;have⟨TU,TV,hz1,hz2⟩:=jr h2;have L:Hid (gy b d r.e F (l2++ [(jc d n,eS,PM.none)]) z=R):=by rw[<-m.o,j];rfl
      clear m j h2;go_wp2_with fail;refine(tq _ P sb S f.ty n v X B TU TV).V ?_;rintro e _ ⟨rfl,rfl⟩;rw[Y.o];go_wp2_with fail;refine(AS _ (k+1) Z _ (ah) l2 (jc d n,eS,PM.none) t (gQ.none k _ _) Te (λb Q=>hZ b (aL u.size Q))).V ?_;rintro e w5 ⟨vv,rfl,D,g⟩;obtain⟨TL,TM,rfl⟩:=D.form;have M:=o.G g (dP.lt o);have N:=q.G g q.lt;have C:=s.G g s.lt;clear I J y A T U;have⟨y,A⟩:=C.I;go_wp2;go_roundw
      case rel=>exact⟨N,C,.inl ⟨z,F,l2++ [(jc d n,eS,PM.none)],Te,Te,Te,Tg,L,by simpa using D,M,v.G g,dL u g,by go_num⟩⟩
      case measure=>simp[intOf];omega
    .have TG:¬((ed d:Nat):Int)=0:=Te;by_cases h5:ed d=5
     .have TJ:(((ed d:Nat):Int)==5)=true:=by simp[h5]
      have j:=Dv (b:=b) (F:=F) (l:=l2) (z:=4) hlt hw0 (by rw[dH h5]);clear h5 hw0;by_cases hend:a+4<=r.e
      .have Tt:¬(r.e:Int)<(a:Int)+4:=Te;have O:(b.extract a (a+4)).size<=8:=by rw[aU];omega
       have TI:=oq O;have L:Hid (gy b d r.e F (l2++ [(jc d (vi (b.extract a (a+4))),eS,PM.none)]) (a+4)=R):=(by rw[<-m.o,j,dH hend];rfl);clear m j;obtain⟨Ty,Tz⟩:=TI;go_wp2_with fail;refine(sS _ (b.extract a (a+4)) O).V ?_;rintro e _ ⟨rfl,rfl⟩;generalize vi (b.extract a (a+4))=n at*;go_wp2_with fail;refine(tq _ P sb S f.ty n v X B Ty Tz).V ?_;rintro e _ ⟨rfl,rfl⟩;rw[Y.o];go_wp2_with fail;refine(AS _ (k+1) Z _ (ah) l2 (jc d n,eS,PM.none) t (gQ.none k _ _) Te (λb Q=>hZ b (aL u.size Q))).V ?_;rintro e w5 ⟨vv,rfl,D,g⟩;obtain⟨TL,TM,rfl⟩:=D.form;have M:=o.G g (dP.lt o);have N:=q.G g q.lt;have C:=s.G g s.lt;clear I J y A T U;have⟨y,A⟩:=C.I;go_wp2;go_roundw
       case rel=>exact⟨N,C,.inl ⟨(a+4),F,l2++ [(jc d n,eS,PM.none)],Te,Te,Te,Tg,L,by simpa using D,M,v.G g,dL u g,by go_num⟩⟩
       case measure=>simp[intOf];omega
      .have Tt:(r.e:Int)<(a:Int)+4:=Te;have E:Hid (R= .error (6,(a:Int))):=(by rw[<-m.o,j,dG hend];rfl);clear m j;go_wp2_with fail;refine(ku _ xb b 0 p0 6 a o rfl).V ?_;rintro e w3 ⟨rfl,G,x⟩;go_wp2;go_ret;rw[E.o];exact⟨_,l2,rfl,t.kept x H,G,Th,(dY.oB u).J x⟩
     .have TJ:¬((ed d:Nat):Int)=5:=Te;have j:=Dv (b:=b) (F:=F) (l:=l2) (z:=8) hlt hw0 (by rw[dG h5]);clear h5 hw0;by_cases hend:a+8<=r.e
      .have Tt:¬(r.e:Int)<(a:Int)+8:=Te;have O:(b.extract a (a+8)).size<=8:=by rw[aU];omega
       have TI:=oq O;have L:Hid (gy b d r.e F (l2++ [(jc d (vi (b.extract a (a+8))),eS,PM.none)]) (a+8)=R):=(by rw[<-m.o,j,dH hend];rfl);clear m j;obtain⟨Ty,Tz⟩:=TI;go_wp2_with fail;refine(sS _ (b.extract a (a+8)) O).V ?_;rintro e _ ⟨rfl,rfl⟩;generalize vi (b.extract a (a+8))=n at*;go_wp2_with fail;refine(tq _ P sb S f.ty n v X B Ty Tz).V ?_;rintro e _ ⟨rfl,rfl⟩;rw[Y.o];go_wp2_with fail;refine(AS _ (k+1) Z _ (ah) l2 (jc d n,eS,PM.none) t (gQ.none k _ _) Te (λb Q=>hZ b (aL u.size Q))).V ?_;rintro e w5 ⟨vv,rfl,D,g⟩;obtain⟨TL,TM,rfl⟩:=D.form;have M:=o.G g (dP.lt o);have N:=q.G g q.lt;have C:=s.G g s.lt;clear I J y A T U;have⟨y,A⟩:=C.I;go_wp2;go_roundw
       case rel=>exact⟨N,C,.inl ⟨(a+8),F,l2++ [(jc d n,eS,PM.none)],Te,Te,Te,Tg,L,by simpa using D,M,v.G g,dL u g,by go_num⟩⟩
       case measure=>simp[intOf];omega
      .have Tt:(r.e:Int)<(a:Int)+8:=Te;have E:Hid (R= .error (6,(a:Int))):=(by rw[<-m.o,j,dG hend];rfl);clear m j;go_wp2_with fail;refine(ku _ xb b 0 p0 6 a o rfl).V ?_;rintro e w3 ⟨rfl,G,x⟩;go_wp2;go_ret;rw[E.o];exact⟨_,l2,rfl,t.kept x H,G,Th,(dY.oB u).J x⟩
   .have E:Hid (R= .ok l2):=by rw[<-m.o,Ii hlt];rfl
    have TP:¬(a:Int)<(r.e:Int):=Te;go_wp2;go_ret;rw[E.o];exact⟨_,rfl,t,u⟩
  .obtain⟨va,vc,rfl⟩:=t.form;go_wp2;go_ret;rw[m.o];exact⟨_,l2,rfl,t,o,hc,TS⟩
end Go.Proofs.YtfebdimolnobaaaGreatDoor
