import Derived.Test.YtfebdimolnobaaaGreatDoorItD
import Derived.Test.YtfebdimolnobaaaGreatDoorFnA
set_option maxRecDepth 100000
set_option maxHeartbeats 8000000
set_option linter.all false
namespace Go.Proofs.YtfebdimolnobaaaGreatDoor
open Go.RowKit Go.Proofs.Tryz
section
open Go.Maps Go.Sort
open Vo
section
variable {ks:List LV} {ps:aB} {w:aw}
theorem AG:∀{ks:List LV} {ps:aB} {q:LV},ks.length=ps.length->q∈ks->∃p,jZ ks ps q=some p
 | [],_,_,_,h=>by cases h
 |_::_,[],_,h,_=>by simp at h
 |k::ks,p::ps,q,hl,h=>by
  rw[jZ];by_cases e:k.1=q.1/\gN k.2 q.2=true;.exact⟨p,dP e⟩
  .rw[dO e];rcases aS.1 h with rfl|h;.exact absurd ⟨rfl,gO.2 rfl⟩ e
   .exact AG (by simpa using hl) h
theorem Ea:∀{ks:List LV} {ps:aB} {i:Nat} {q:LV} {p:Nat},ks.Pairwise lG->ks[i]?=some q->ps[i]?=some p->jZ ks ps q=some p
 | [],_,_,_,_,_,h,_=>by simp at h
 |_::_,[],_,_,_,_,_,h=>by simp at h
 |k::ks,p::ps,0,q,p',_,h,h'=>by
  simp at h h';subst h h'
  rw[jZ,dP ⟨rfl,gO.2 rfl⟩]
 |k::ks,p::ps,i+1,q,p',hp,h,h'=>by
  simp at h h';rw[bu]at hp;have Vw:=hp.1 q (aL h);rw[jZ,dO (λe=>lN Vw ⟨e.1,gO.1 e.2⟩)];exact Ea hp.2 h h'
theorem AH:∀{a b:List LV},a.Pairwise lG->b.Pairwise lG->(∀x,x∈a<->x∈b)->a=b
 | [],[],_,_,_=>rfl
 | [],y::b,_,_,h=>by have:=(h y).2 Vd;cases this
 |x::a,[],_,_,h=>by have:=(h x).1 Vd;cases this
 |x::a,y::b,h1,h2,h=>by
  rw[bu]at h1 h2
  have e:x=y:=by
   rcases aS.1 ((h x).1 Vd)with e|e;.exact e
   .rcases aS.1 ((h y).2 Vd)with e'|e';.exact e'.sy
    .exact absurd (kc (h1.1 y e') (h2.1 x e)) (pw _)
  subst e;congr 1;refine AH h1.2 h2.2 λz=>⟨λhz=> ?_,λhz=> ?_⟩
  .rcases aS.1 ((h z).1 (by simp[hz]))with e|e;.subst e;exact absurd (h1.1 _ hz) (pw _)
   .exact e
  .rcases aS.1 ((h z).2 (by simp[hz]))with e|e;.subst e;exact absurd (h2.1 _ hz) (pw _)
   .exact e
theorem OC {D:DataW Unit}{ss l:List LV}(hD:∀(k:LV) kl,Go.keyOf prog 386 (kV k)=some kl->∀z,D.atKey kl z=St (jZ ks ps k) z)
  (hl:ks.length=ps.length) (hk:∀k∈ks,zU k) (hs:ks.Pairwise lG) (hC:qx D (λ_=>false) ss) (hp:l.Perm ss) (VF:l.Pairwise (λa b=>¬lG b a)):l=ks:=by
 have VE:∀x,x∈ss<->x∈ks:=λx=>by
  have VG:zU x->(x∈ss<->x∈ks):=λhx=>by
   have⟨kl,Vv⟩:=QI hx;rw[hC.2.2 x kl Vv];simp only[and_true];constructor
   .intro h;by_cases hm:x∈ks;.exact hm
    .have hn:jZ ks ps x=none:=ye λy hy e=>hm (D7 e▸hy)
     have:=has_false_of_atKey (D:=D) (k:=kl) λz=>by rw[hD x kl Vv z,hn];rfl
     rw[this]at h;cases h
   .intro h;have⟨p,hp⟩:=AG hl h;exact has_true_of_atKey (y:=oH (some p)) λz=>by rw[hD x kl Vv z,hp];rfl
  exact⟨λh=>(VG (hC.2.1 x h)).1 h,λh=>(VG (hk x h)).2 h⟩
 have VJ:l.Nodup:=hp.nodup_iff.2 hC.1;refine AH ?_ hs (λx=>(hp.mem_iff).J (VE x));refine(VF.and VJ).imp ?_;rintro a b ⟨h1,h2⟩;rcases tq a b with h|h|h;.exact h
 .exact absurd (D7 h) h2
 .exact absurd h h1
theorem OD (w:aw):(zeroValue 180).run prog w= .ok (.pointer none) w:=Vh
theorem LE {mb:Nat}{i p:Nat}{q:LV}(h:j0 w mb ks ps)(hs:ks.Pairwise lG)(hk:zU q)(h1:ks[i]?=some q)(h2:ps[i]?=some p):
  (Instr.lookup 247 (.map (some mb)) (.agg #[.int .u64 q.1,ag q.2]) false).run prog w= .ok (ah p) w:=by
 obtain⟨D,Vp,_,hD⟩:=h;have⟨kl,Vv⟩:=QI hk;have⟨v,pl,Vz,hR⟩:=Vp.lookup FH underlying247 (OD w) (lM none) Vv;have e:=hD q kl Vv;rw[Ea hs h1 h2]at e;simp only[St]at e;unfold oH at e;rw[e]at hR;unfold kV at Vz;rw[Vz,qd (o:=some p) hR];rfl
theorem LF (w:aw)(v:Option Nat):Calls prog 274 #[.map v] w λe w'=>
  e= .returned (.func (.func 356) #[] #[ah w.heap.size])/\w'=w.U5 #[.map v] 247:=by
 go_in
 go_wp2;go_ret;exact⟨rfl,rfl⟩
def F5 (w:aw)(v:Value)(ks:List LV)(ps:aB):Prop:=
 (v= .map none/\ks= []/\ps= [])\/∃mb,v= .map (some mb)/\j0 w mb ks ps/\ks.length=ps.length/\(∀k∈ks,zU k)/\ks.Pairwise lG
theorem Eb {v:Value}(h:F5 w v ks ps)(hn:ks.length<=1099511627776):
  U8 273 #[.func (.func 356) #[] #[ah w.heap.size],.func (.func 275) #[] #[]] (w.U5 #[v] 247)
   λe w'=>∃v',e= .returned v'/\w'.ownsRow w.heap.size 386 2 v' ks.length (ly ks)/\ak w w':=by
 have VD:ak w (w.U5 #[v] 247):=(Below.refl _ _).alloc (aE _) _;have hc:(w.U5 #[v] 247).cell? (aj w.heap.size 0)=some v:=(dX.new w #[v] 247).cell 0;rcases h with⟨rfl,rfl,rfl⟩|⟨mb,rfl,hm,hl,hk,hs⟩;.refine(D9 _ w.heap.size 0 (λss=>ss= []) Vc (λss h=>by simp[h]) (D6 Vd hc)).V ?_;rintro e w' ⟨v',ss,l,rfl,rfl,hp,_,Vq,hb⟩;obtain rfl:=hp.eq_nil;exact⟨v',rfl,ownsRow_base_a Vq Vd,VD.J (hb.V VD.size)⟩
 .obtain⟨D,Vp,hsz,hD⟩:=hm;have Vx:(w.U5 #[.map (some mb)] 247).ownsMap prog 386 gL mb ks.length D:=(by have Vw:=Vp.lt;obtain⟨es,clock,VM,Ft,hs,hD⟩:=Vp;exact⟨es,clock,(Below.l _ _ _ Vw).J VM,Ft,hs,hD⟩);refine(D9 _ w.heap.size (Go.Maps.size D) (λss=>qx D (λ_=>false) ss/\ss.length<=Go.Maps.size D) Vc (λ_ h=>h.2) (FX Vd hc Vx)).V ?_;rintro e w' ⟨v',ss,l,rfl,⟨hC,_⟩,hp,VF,Vq,hb⟩;obtain rfl:=OC hD hl hk hs hC hp VF;exact⟨v',rfl,ownsRow_base_a Vq Vd,VD.J (hb.V VD.size)⟩
def LG (w:aw)(ps:aB)(e:Ending)(w':aw):Prop:=
 ∃v,e= .returned v/\w'.ownsRow w.heap.size 180 1 v ps.length (fx ps)/\ak w w'
theorem Hw:∀{ks:List LV} {i:Nat} {q:LV},ks[i]?=some q->(ly ks)[i*2]?=some (.int .u64 q.1)/\(ly ks)[i*2+1]?=some (ag q.2)
 | [],_,_,h=>by simp at h
 |k::ks,0,q,h=>by simp at h;subst h;simp[ly]
 |k::ks,i+1,q,h=>by
  have:=Hw (ks:=ks) (i:=i) (q:=q) (by simpa using h);have e1:(i+1)*2=i*2+1+1:=Vc;rw[e1];simpa [ly]using this
theorem uH {o:Option Nat}(h:F5 w (.map o) ks ps)(hn:ks.length<=1099511627776)(hlp:ks.length=ps.length):
  Calls prog 198 #[.map o] w (LG w ps):=by
 have⟨i0,VN,VO,VP,VQ⟩:=info_parts (show(prog.info? 180).map (λi=>(i.zero,i.size,i.bytes))=some (some (.pointer none),1,8)by kernel_rfl);go_in
 go_wp2_with (first|(go_at_call 274;refine(LF w o).V ?_;rintro e w' ⟨rfl,rfl⟩)|(go_at_call 273;refine(Eb h hn).V ?_;rintro e w1 ⟨v',rfl,Vq,hb⟩;obtain⟨ad,n,c,rfl⟩:=d5 Vq;obtain rfl:n=ks.length:=fh Vq))
 go_loopw [3,5,10] (λv _ i wr=>∃(k:Nat),k<=ks.length/\i=aa k/\wr.ownsRow w1.heap.size 180 1 v (ps.take k).length (fx (ps.take k))/\ak w1 wr) (λ_ _ i _=>ks.length-(intOf i).toNat)
 case atStart=>exact⟨0,aP _,rfl,br _ _ _ _,Below.refl _ _⟩
 case round=>
  obtain⟨k,hk,rfl,Vp,Vs⟩:=hrel;by_cases Vw:k<ks.length
  .have⟨q,hq⟩:=gx Vw;have⟨p,hp⟩:=gx (l:=ps) (i:=k) Vc;have⟨c0,c1⟩:=Hw hq;obtain⟨gf,rfl,_,VA,Vr⟩:=eH Vq Vc;have t0:=Vr wr (Vs.block gf VA) _ _ c0;have t1:=Vr wr (Vs.block gf VA) _ _ c1;have Vt:ps.take (k+1)=ps.take k++ [p]:=by rw[bT,hp];rfl
   have hlook:(Instr.lookup 247 (.map o) (.agg #[.int .u64 q.1,ag q.2]) false).run prog (wr.U5 #[.int .u64 q.1,ag q.2] 386)= .ok (ah p) (wr.U5 #[.int .u64 q.1,ag q.2] 386):=by
    rcases h with⟨_,rfl,_⟩|⟨mb,e,VI,hl,VR,hs⟩;.simp at hq
    .cases e;have Vu:=VI.lt;have VK:(wr.U5 #[.int .u64 q.1,ag q.2] 386).heap[mb]?=w.heap[mb]?:=(Below.l _ _ _ (aI (aI Vu hb.size) Vs.size)).J ((Vs.block mb (aI Vu hb.size)).J (hb.block mb Vu));exact LE (VI.O VK) hs (VR q (aL hq)) hq hp
   have VL:(ps.take k).length<=1099511627776:=by rw[bM];omega
   have VH:Hid (ps.take (k+1)=ps.take k++ [p]):=Vt;have Vy:=cell_one_new (wr.U5 #[.int .u64 q.1,ag q.2] 386) (ah p) 180;rw[ci]at Vy;clear Vr Vt;generalize ps.take k=L at Vp VL VH;go_wp2_with (first|(at_builtin;refine wpList_append_own_at _ rfl _ _ 245 rfl w1.heap.size 180 i0 _ 1 8 underlying245 VN VO VP VQ rfl Vf u3 _ _ rfl ((Vp.alloc _).alloc _) _ 1 1 [_] rfl rfl Vy ?h1 ?h63 ?hby ?hba ?_;rotate_right;intro v' w5 VB VC hnil hloc))
   case h1=>intro u hu;simp at hu;subst hu;rfl
   case h63=>unfold maxLen;omega
   case hby=>omega
   case hba=>have:=Vs.size;simp;omega
   refine⟨⟨k+1,Vc,by go_num,?_,?_⟩,by simp[intOf];omega⟩;.rw[VH.o];simpa [fx,gZ]using VB
   .exact((Vs.alloc Vs.size _).alloc (by have:=Vs.size;simp;omega) _).grown VC (by have:=Vs.size;simp;omega) (λj hj=>(Vp.lt j hj).1)
  .have hli:decide ((k:Int)<(ks.length:Int))=false:=Ve;obtain rfl:k=ks.length:=Vc;rw[hlp,bB]at Vp;go_wp2;go_ret;exact⟨_,rfl,ownsRow_base_a Vp hb.size,hb.J (Vs.V hb.size)⟩
end
end
section
open Go.Maps
open Vo
section
variable {w:aw} {k:Nat} {x:gF} {f:PF} {A:ax} {S:eD} {T:Option MT} {ps:aB} {t:au}
theorem PY (w:aw)(x0 x1 x2 x3:Value)(t:TypeId):∀j u,[x0,x1,x2,x3][j]?=some u->(w.alloc (.cells #[x0,x1,x2,x3] t)).cell? (((aj w.heap.size 0):Addr).add j)=some u:=bz (dX.new w _ _)
def yw (S:eD)(k:Nat):Prop:=∀(T:Option MT) (w:aw) (Z:ax) (db:Nat) (m:PM),eM S k T w Z db m->U8 85 #[ah db] w (Sv k w Z m)
theorem OE {lv:List LV}(h:Uh w x f A lv)(hA:∀b,A b->b<w.heap.size):
  Calls prog 137 #[.agg #[aa x.1,x.2.1,x.2.2.1,x.2.2.2]] w (sA k w A f.2):=by
 obtain⟨xn,xv,xm,xe⟩:=x;obtain⟨_,Wf,Vu,rfl,rfl⟩:=h;simp only at Vu;obtain⟨a,n,c,rfl⟩:=d5 Vu.1;have B0:∀o,ak w (w.alloc o):=λo=>(Va w).alloc (aE _) o
 go_in
 go_wp2;refine wp_loop_rounds 1 ?_;rw[rounds_succ];have VO:∀w0:aw,U8 198 #[.map none] w0 (LG w0 []):=λw0=>uH (ks:= []) (.inl ⟨rfl,rfl,rfl⟩) Vd rfl
 go_wp2_with (first|(go_at_call 198;refine(VO _).V ?_;rintro e w1 ⟨v,rfl,VK,Vq⟩;obtain⟨a1,n1,c1,rfl⟩:=d5 VK;obtain rfl:n1=0:=fh VK))
 refine wp_loop_rounds 1 ?_;rw[rounds_succ];go_wp2;go_ret;have VP:=dU (B0 _) Vq;refine⟨_,A,rfl,?_,λb hb=>⟨aI (hA b hb) VP.size,.inl hb⟩,VP⟩;rw[Wf];exact Oz (Vu.O λb _ hl=>VP.block b hl)
theorem OF (HF:yw S k){L:Prop}{B:ax}(h:Ui (eM S k) w T L x f A ps B)(hA:∀b,A b->b<w.heap.size):
  Calls prog 137 #[.agg #[aa x.1,x.2.1,x.2.2.1,x.2.2.2]] w (sA k w A f.2):=by
 obtain⟨xn,xv,xm,xe⟩:=x;obtain⟨_,_,rfl,rfl,Vu,VS,_,Vv,Wh⟩:=h;obtain⟨fn,vs⟩:=f;simp only at Vu Vv⊢;obtain⟨a,c,rfl⟩:=iz Vu.1;have⟨i0,VT,VU,VG,VB⟩:=info_parts Tryz.infoV;have hlen:Hid (ps.length=vs.length):=Vv.len;have V9:ps.length<=vs.length/\vs.length<=ps.length:=by have:=hlen.o;omega
 have⟨B0,KB⟩:=d8 w #[aa xn,ai,.slice a ps.length c,.map none] 249;have Vr:=Vu.O λb _ hl=>B0.block b hl
 have Vx:=Vv.imp (Q:=λp v C=>v=mV v.2.2/\eM S k T (w.alloc (am #[aa xn,ai,.slice a ps.length c,.map none] 249)) C p v.2.2) λ_ _ _ _ _ _ h=>⟨h.1,h.2.O λb _ hl=>B0.block b hl⟩
 go_in
 go_wp2;generalize w.alloc (am #[aa xn,ai,.slice a ps.length c,.map none] 249)=wB at*;have zB:=B0.size;have VQ:∀b,B b->b<wB.heap.size:=λb hb=>by grind
 go_loopw [3,5,13] (λu _ i wr=>∃(q:Nat),q<=ps.length/\i=aa q/\vT S k T wB B wr u (vs.take q) (ps.drop q) (vs.drop q)/\Below wB.heap.size wB wr) (λ_ _ i _=>ps.length-(intOf i).toNat)
 case atStart=>exact⟨0,aP _,rfl,vT.start Vx,Below.refl _ _⟩
 case round=>
  obtain⟨q,hq,rfl,Vp,Vt⟩:=hrel;by_cases hlt:q<ps.length
  .have⟨p,hp⟩:=gx hlt;have⟨v,hv⟩:=gx (l:=vs) (i:=q) Vc;obtain⟨gf,rfl,_,VH,Vw⟩:=eH Vr.1 Vc;have t0:=Vw wr (Vt.block gf VH) q (rJ p) (by grind);have e1:ps.drop q=p::ps.drop (q+1):=by rw[be hlt];grind
   have e2:vs.drop q=v::vs.drop (q+1):=by rw[be Vc];grind
   have e3:Hid (vs.take (q+1)=vs.take q++ [v]):=by grind
   rw[e1,e2]at Vp;obtain⟨ms,Y,B1,B2,hs,VV,VW,VX,VA,VI,Vy,hY⟩:=Vp;obtain⟨C,Wk,⟨VL,hdr⟩,VY,hC,VZ,V0⟩:=hs;obtain⟨v1,v2,m⟩:=v;have VC:v1=0:=dS Prod.fst VL;have VD:v2=eS:=dS (λz:PV=>z.2.1) VL;subst VC VD;have VE:=HF T wr C p m (hdr.O λb _ hl=>Vt.block b hl);have VR:(vs.take q).length<=1073741824:=by grind
   unfold rJ at t0;generalize vs.take q=D at VA Vy VR e3;go_wp2_with fail;refine VE.V ?_;rintro e w1 ⟨mv,Z',rfl,hm,hZ,Vq⟩;obtain⟨a3,c3,rfl⟩:=hm.form;have VF:=eX Vq VA;have z1:=Vq.size;go_wp2_with (first|(at_builtin;refine wpList_append_own_at _ rfl _ _ 56 rfl wB.heap.size 55 i0 _ 4 64 underlying56 VT VU VG VB rfl Vf u3 _ _ rfl (VF.alloc _) _ 1 1 [_,_,_,_] rfl rfl (PY _ _ _ _ _ _) ?h1 ?h63 ?hby ?hba ?_;rotate_right;intro v' w5 Vz Vs V7 V8))
   case h1=>intro u hu;simp at hu;rcases hu with rfl|rfl|rfl|rfl<;>rfl
   case h63=>unfold maxLen;omega
   case hby=>omega
   case hba=>have:=Vt.size;simp;omega
   have zr:=Vt.size;refine⟨⟨q+1,Vc,by go_num,?_,?_⟩,by simp[intOf];omega⟩;.rw[e3.o];refine vT.step VQ Vt.size VY hC VZ V0 VV VW VX VA VI Vy hY (dU Vq ((Below.refl _ _).alloc (aE _) _)) (hm.O λb _ hl=>Below.l _ _ b hl) (λb hb=>⟨by have:=(hZ b hb).1;simp;omega,(hZ b hb).2⟩) Vs (by simpa [sx,eS]using Vz) ?_;grind
   .exact(dU Vt (dU Vq ((Below.refl _ _).alloc (aE _) _))).grown Vs Ve (λj hj=>(VA.lt j hj).1)
  .have Wb:decide ((q:Int)<(ps.length:Int))=false:=by grind
   obtain rfl:q=ps.length:=Vc;rw[cC,hlen.o,bB,cC]at Vp;have VO:∀w0:aw,U8 198 #[.map none] w0 (LG w0 []):=λw0=>uH (ks:= []) (.inl ⟨rfl,rfl,rfl⟩) Vd rfl
   have⟨k1,k2⟩:=(KB.G Vt KB.lt).I;go_wp2_with (first|(go_at_call 198;refine(VO _).V ?_;rintro e w1 ⟨v,rfl,VK,Vq⟩;obtain⟨a1,n1,c1,rfl⟩:=d5 VK;obtain rfl:n1=0:=fh VK))
   refine wp_loop_rounds 1 ?_;rw[rounds_succ];go_wp2;go_ret;have⟨Z',VG,VB⟩:=Vp.done;have z1:=Vq.size;refine⟨_,Z',rfl,VG.O (λb _ hl=>Vq.block b hl) (λmv m C _ hm=>hm.O λb _ hl=>Vq.block b hl),λb hb=>⟨by grind,(VB b hb).2.imp (VS b) (λh=>Vc)⟩,dU B0 (dU Vt Vq)⟩
theorem Ff.kv {v:PV}(h:Ff t v):zU (ko t v):=by
 have:=h.lo;have:=h.hi;have:=h.sz;unfold ko;refine⟨?_,?_,by show _<=maxLen;unfold maxLen;grind⟩;.simp only;split<;>omega
 omega
theorem OG (HF:yw S k){B:ax}{mb:Nat}(h:Uj (eM S k) w x f A t mb ps B)(hA:∀b,A b->b<w.heap.size):
  Calls prog 137 #[.agg #[aa x.1,x.2.1,x.2.2.1,x.2.2.2]] w (sA k w A f.2):=by
 obtain⟨xn,xv,xm,xe⟩:=x;obtain⟨_,rfl,rfl,rfl,VJ,VS,_,_,VM,VN,Vv,Wh⟩:=h;obtain⟨fn,vs⟩:=f;simp only at VJ VM VN Vv⊢;have⟨i0,VT,VU,VG,VB⟩:=info_parts Tryz.infoV;have hlen:Hid (ps.length=vs.length):=Vv.len;have V9:ps.length<=vs.length/\vs.length<=ps.length:=by have:=hlen.o;omega
 have B0:ak w (w.alloc (am #[aa xn,ai,ai,.map (some mb)] 249)):=(Va w).alloc (aE _) _
 have Wd:F5 (w.alloc (am #[aa xn,ai,ai,.map (some mb)] 249)) (.map (some mb)) (vs.map λv=>ko t (fQ v)) ps:=
  .inr ⟨mb,rfl,VJ.O (B0.block mb VJ.lt),by grind,(by
   intro q hq;obtain⟨v,hv,rfl⟩:=aR.1 hq
   exact(VM v hv).kv),cw.2 VN⟩
 have We:=uH Wd (by grind) (by grind);go_in
 go_wp2;refine wp_loop_rounds 1 ?_;rw[rounds_succ];go_wp2_with (first|(go_at_call 198;refine We.V ?_;rintro e wB ⟨v,rfl,Vr,Vq⟩;obtain⟨a,n1,c,rfl⟩:=d5 Vr;obtain rfl:n1=ps.length:=fh Vr))
 have BB:ak w wB:=dU B0 Vq;have zB:=BB.size;have Vx:=Vv.imp (Q:=λp v C=>v=mV v.2.2/\eM S k none wB C p v.2.2) λ_ _ _ _ _ _ h=>⟨h.1,h.2.O λb _ hl=>BB.block b hl⟩
 have VQ:∀b,B b->b<wB.heap.size:=λb hb=>by grind
 go_loopw [3,7,28] (λu _ i wr=>∃(q:Nat),q<=ps.length/\i=aa q/\vT S k none wB B wr u (vs.take q) (ps.drop q) (vs.drop q)/\Below wB.heap.size wB wr) (λ_ _ i _=>ps.length-(intOf i).toNat)
 case atStart=>exact⟨0,aP _,rfl,vT.start Vx,Below.refl _ _⟩
 case round=>
  obtain⟨q,hq,rfl,Vp,Vt⟩:=hrel;by_cases hlt:q<ps.length
  .have⟨p,hp⟩:=gx hlt;have⟨v,hv⟩:=gx (l:=vs) (i:=q) Vc;obtain⟨gf,rfl,_,VH,Vw⟩:=eH Vr Vc;have t0:=Vw wr (Vt.block gf VH) q (rJ p) (by simp[fx,hp,rJ,gZ]);have e1:ps.drop q=p::ps.drop (q+1):=by rw[be hlt];grind
   have e2:vs.drop q=v::vs.drop (q+1):=by rw[be Vc];grind
   have e3:Hid (vs.take (q+1)=vs.take q++ [v]):=by grind
   rw[e1,e2]at Vp;obtain⟨ms,Y,B1,B2,hs,VV,VW,VX,VA,VI,Vy,hY⟩:=Vp;obtain⟨C,Wk,⟨VL,hdr⟩,VY,hC,VZ,V0⟩:=hs;obtain⟨v1,v2,m⟩:=v;have VC:v1=0:=dS Prod.fst VL;have VD:v2=eS:=dS (λz:PV=>z.2.1) VL;subst VC VD;have VE:=HF none wr C p m (hdr.O λb _ hl=>Vt.block b hl);have VR:(vs.take q).length<=1073741824:=by grind
   unfold rJ at t0;generalize vs.take q=D at VA Vy VR e3;go_wp2_with fail;refine VE.V ?_;rintro e w1 ⟨mv,Z',rfl,hm,hZ,Vq⟩;obtain⟨a3,c3,rfl⟩:=hm.form;have VF:=eX Vq VA;have z1:=Vq.size;go_wp2_with (first|(at_builtin;refine wpList_append_own_at _ rfl _ _ 56 rfl wB.heap.size 55 i0 _ 4 64 underlying56 VT VU VG VB rfl Vf u3 _ _ rfl (VF.alloc _) _ 1 1 [_,_,_,_] rfl rfl (PY _ _ _ _ _ _) ?h1 ?h63 ?hby ?hba ?_;rotate_right;intro v' w5 Vz Vs V7 V8))
   case h1=>intro u hu;simp at hu;rcases hu with rfl|rfl|rfl|rfl<;>rfl
   case h63=>unfold maxLen;omega
   case hby=>omega
   case hba=>have:=Vt.size;simp;omega
   have zr:=Vt.size;refine⟨⟨q+1,Vc,by go_num,?_,?_⟩,by simp[intOf];omega⟩;.rw[e3.o];refine vT.step VQ Vt.size VY hC VZ V0 VV VW VX VA VI Vy hY (dU Vq ((Below.refl _ _).alloc (aE _) _)) (hm.O λb _ hl=>Below.l _ _ b hl) (λb hb=>⟨by have:=(hZ b hb).1;simp;omega,(hZ b hb).2⟩) Vs (by simpa [sx,eS]using Vz) ?_;grind
   .exact(dU Vt (dU Vq ((Below.refl _ _).alloc (aE _) _))).grown Vs Ve (λj hj=>(VA.lt j hj).1)
  .have Wb:decide ((q:Int)<(ps.length:Int))=false:=by grind
   obtain rfl:q=ps.length:=Vc;rw[cC,hlen.o,bB,cC]at Vp;go_wp2;go_ret;have⟨Z',VG,VB⟩:=Vp.done;exact⟨_,Z',rfl,VG,λb hb=>⟨(VB b hb).1,(VB b hb).2.imp (VS b) (λh=>Vc)⟩,dU BB Vt⟩
theorem QL (HF:yw S k)(h:gV S (eM S k) w T x f A)(hA:∀b,A b->b<w.heap.size):U8 137 #[.agg #[aa x.1,x.2.1,x.2.2.1,x.2.2.2]] w (sA k w A f.2):=by
 rcases h.2 with⟨_,lv,h⟩|⟨_,ps,B,h⟩|⟨t,_,mb,ps,B,h⟩;.exact OE h hA
 .exact OF HF h hA
 .exact OG HF h hA
end
section
variable {w w0 wr:aw} {u:Value} {S:eD} {k N0:Nat} {T:Option MT} {B:ax} {l:List gF} {f:PF}
theorem I5 {uv:Value}{u:au}(h:w.ownsRow 0 5 1 uv u.size (Lib.strCells u)):(convert 140 9 uv).run prog w= .ok (ag u) w:=by
 rcases h.2 with⟨rfl,h0⟩|⟨g,cap,Wt,rfl,_,hb,h1,h2,h3,h4⟩;.have hu:u=⟨#[]⟩:=(by cases u with|mk d=>exact dS _ (Array.eq_empty_of_size_eq_zero h0));subst hu;exact run_convert_bytes_nil w 140 5 underlying140 underlying5 0 0 9 underlying9
 .have hl:u.data.toList.length=u.size:=Array.length_toList
  have:=run_convert_bytes_back (P:=prog) w 140 9 5 (aj g 0) cap u.data.toList underlying140 underlying5 underlying9 (λj hj=>by
   have h5:(Wt.toList.take (u.size*1))[j]?=(Lib.strCells u)[j]?:=by rw[h4]
   rw[cB Vc]at h5;have ea:((aj g 0):Addr).add j=(aj g j):=by unfold Addr.add;split<;>simp_all
   rw[ea];simp only[World.cell?,hb];simp only[Option.isSome_none,aU,if_false];rw[<-bO,h5];unfold Lib.strCells;rw[aT,aO hj]
   rfl)
  rw[hl]at this;simpa using this
def Ch (S:eD)(k:Nat)(T:Option MT)(w0:aw)(N0:Nat)(B:ax)(wr:aw)(u:Value)(done:List PF)(l:List gF)(rest:List PF):Prop:=
 ∃Vr Y,∃B1 B2:ax,jY (gV S (eM S k) w0 T) B2 l rest/\(∀b,B1 b->B b)/\(∀b,B2 b->B b)/\(∀b,B1 b->¬B2 b)/\
  wr.ownsRow N0 58 2 u done.length (sy Vr done)/\(∀b,u.ownBlock=some b->¬Y b)/\jY (λvv f A=>kz (qw (k+1) wr) wr A vv f.2) Y Vr done/\(∀b,Y b->b<wr.heap.size/\(B1 b\/N0<=b))
theorem Ch.start {fs:List PF}(h:jY (gV S (eM S k) w0 T) B l fs):Ch S k T w0 N0 B wr (ai) [] l fs:=
 ⟨[],λ_=>False,λ_=>False,B,h,λ_ q=>q.elim,λ_ q=>q,λ_ q=>q.elim,br _ _ _ _,(λ_ q=>by cases q),trivial,λ_ q=>q.elim⟩
theorem Ch.done {m:PM}(h:Ch S k T w0 N0 B wr u m.fs [] []):
  ∃Z',qw (k+1+1) wr u m Z'/\∀b,Z' b->b<wr.heap.size/\(B b\/N0<=b):=by
 obtain⟨Vr,Y,B1,B2,_,VD,_,_,Vs,Vt,Vq,hY⟩:=h;refine⟨λb=>Y b\/u.ownBlock=some b,⟨Vr,Y,⟨ownsRow_base_a Vs (aP _),λb hb=> .inr hb⟩,Vt,λb hb=> .inl hb,Vq⟩,?_⟩;rintro b (hb|hb);.exact⟨(hY b hb).1,(hY b hb).2.imp (VD b) id⟩
 .exact⟨(Vs.lt b hb).2,.inr (Vs.lt b hb).1⟩
theorem Ch.step {w1 w2:aw}{u' vv:Value}{done rest:List PF}{A B2 VH B1 Y Z':ax}{Vr:ay}
  (hlB:∀b,B b->b<N0) (h0:N0<=wr.heap.size)
  (hs:jY (gV S (eM S k) w0 T) VH l rest) (hA:∀b,A b->B2 b) (VO:∀b,VH b->B2 b) (hAB:∀b,A b->¬VH b)
  (VD:∀b,B1 b->B b) (Vz:∀b,B2 b->B b) (VN:∀b,B1 b->¬B2 b) (Vs:wr.ownsRow N0 58 2 u done.length (sy Vr done)) (Vt:∀b,u.ownBlock=some b->¬Y b)
  (Vq:jY (λvv f A=>kz (qw (k+1) wr) wr A vv f.2) Y Vr done) (hY:∀b,Y b->b<wr.heap.size/\(B1 b\/N0<=b))
  (hb1:ak wr w1) (hm:kz (qw (k+1) w1) w1 Z' vv f.2) (hZ:∀b,Z' b->b<w1.heap.size/\(A b\/wr.heap.size<=b))
  (hg:∀b,(Y b\/Z' b)->b<w1.heap.size->u.ownBlock≠some b->w2.heap[b]?=w1.heap[b]?) (hsz:w1.heap.size<=w2.heap.size)
  (hrow':w2.ownsRow N0 58 2 u' (done.length+1) (sy Vr done++sy [vv] [f])) (hu':u'.ownBlock=u.ownBlock\/∃g,u'.ownBlock=some g/\w1.heap.size<=g):
  Ch S k T w0 N0 B w2 u' (done++ [f]) l rest:=by
 have hlen:Vr.length=done.length:=Vq.len
 have Wh:∀b,Y b->¬Z' b:=λb hb hz=>by
  have q1:=hY b hb;have q2:=hZ b hz;rcases q2.2 with q|q
  .rcases q1.2 with q'|q';.exact VN b q' (hA b q)
   .have:=hlB b (Vz b (hA b q));omega
  .omega
 have VZ:∀b,u.ownBlock=some b->¬(Y b\/Z' b):=λb hb h=>by
  rcases h with h|h;.exact Vt b hb h
  .have q:=Vs.lt b hb;rcases(hZ b h).2 with q'|q';.have:=hlB b (Vz b (hA b q'));omega
   .omega
 have hk:∀b,(Y b\/Z' b)->b<w1.heap.size->w2.heap[b]?=w1.heap[b]?:=λb hb hl=>hg b hb hl (λe=>VZ b e hb)
 refine⟨Vr++ [vv],λb=>Y b\/Z' b,λb=>B1 b\/A b,VH,hs,?_,λb hb=>Vz b (VO b hb),?_,?_,?_,?_,?_⟩
 .rintro b (hb|hb);.exact VD b hb
  .exact Vz b (hA b hb)
 .rintro b (hb|hb);.exact λh=>VN b hb (VO b h)
  .exact hAB b hb
 .rw[vC hlen];simpa using hrow'
 .intro b hb h;rcases hu' with e|⟨g,e,hge⟩;.exact VZ b (e▸hb) h
  .rw[e]at hb;cases hb;rcases h with h|h;.have:=(hY _ h).1;have:=hb1.size;omega
   .have:=(hZ _ h).1;omega
 .refine jY.append (A:=Y) (B:=Z') ?_ ?_ (λb h=> .inl h) (λb h=> .inr h) Wh
  .refine Vq.imp λvv f C _ _ hC h=> ?_
   have Vy:∀b,C b->b<wr.heap.size->w2.heap[b]?=wr.heap[b]?:=λb hb hl=>(hk b (.inl (hC b hb)) (aI hl hb1.size)).J (hb1.block b hl)
   exact h.O Vy (λ_ _ _ VX hm=>hm.O λb hb hl=>Vy b (VX b hb) hl)
  .have Vy:∀b,Z' b->b<w1.heap.size->w2.heap[b]?=w1.heap[b]?:=λb hb hl=>hk b (.inr hb) hl
   exact⟨Z',λ_=>False,hm.O Vy (λ_ _ _ VX hm=>hm.O λb hb hl=>Vy b (VX b hb) hl),trivial,λb h=>h,λb h=>h.elim,λb _ h=>h⟩
 .rintro b (hb|hb);.have q:=hY b hb;have:=hb1.size;exact⟨Vc,q.2.imp .inl id⟩
  .have q:=hZ b hb;exact⟨Vc,q.2.imp .inr (λh=>Vc)⟩
theorem OH (HF:yw S k){W:aw}{x0:Int}{x1 x2 x3:Value}{C:ax}(h:gV S (eM S k) w T (x0,x1,x2,x3) f C)(hW:ak w W)
  (hC:∀b,C b->b<w.heap.size):U8 137 #[.agg #[aa x0,x1,x2,x3]] W (sA k W C f.2):=by
 have Wk:gV S (eM S k) W T (x0,x1,x2,x3) f C:=gV.O (λ_ _ _ _ _ h=>eM.O h λb _ hl=>hW.block b hl) (λb _ hl=>hW.block b hl) h;have:=QL HF Wk (λb hb=>aI (hC b hb) hW.size);exact this
theorem I6 (HF:yw S k):yw S (k+1):=by
 intro T w Z db m h;obtain⟨sv,uv,l,Y0,hy,hs⟩:=h;have⟨i0,Wu,Wv,VL,VG⟩:=info_parts Tryz.infoF;obtain⟨sa,sc,rfl⟩:=iz hy.c.row;obtain⟨ua,n1,uc,rfl⟩:=d5 hy.un;have V0:∀w':aw,ak w w'->(convert 140 9 (.slice ua n1 uc)).run prog w'= .ok (ag m.unk) w':=λw' hb=>I5 (eX hb hy.un)
 have hlen:Hid (l.length=m.fs.length):=hs.len;have hle:l.length<=m.fs.length/\m.fs.length<=l.length:=by have:=hlen.o;omega
 have hlc:l.length<=1073741824:=hy.c.len;have KD:=hy.c.blk;have B0:ak w (w.alloc (am #[ai,U7] 49)):=(Va w).alloc (aE _) _;have B1:ak w ((w.alloc (am #[ai,U7] 49)).alloc (am #[ai,ag m.unk] 49)):=B0.alloc B0.size _;have VP:=V0 _ B0;have KR:=(dX.new w #[ai,U7] 49).alloc (am #[ai,ag m.unk] 49);have KA:=dX.newAt (w:=w.alloc (am #[ai,U7] 49)) (n:=w.heap.size+1) Vd #[ai,ag m.unk] 49;have⟨d1,d2⟩:=(KD.G B0 KD.lt).I;have⟨d3,d4⟩:=(KD.G B1 KD.lt).I;go_enter func85,ntmps85;go_wp2;clear d1 d2 d3 d4 VP V0 B0;generalize(w.alloc (am #[ai,U7] 49)).alloc (am #[ai,ag m.unk] 49)=wB at*;have hN:w.heap.size+2<=wB.heap.size:=KA.lt
 go_loopw [5,17] (λ_ i wr=>∃(q:Nat) (u:Value),q<=l.length/\i=aa q/\dX wr w.heap.size #[ai,U7] 49/\dX wr (w.heap.size+1) #[u,ag m.unk] 49/\
  Ch S k T w (w.heap.size+2) Y0 wr u (m.fs.take q) (l.drop q) (m.fs.drop q)/\ak w wr) (λ_ i _=>l.length-(intOf i).toNat)
 case atStart=>exact⟨0,_,aP _,rfl,KR,KA,Ch.start hs,B1⟩
 case round=>
  obtain⟨q,u,hq,rfl,KR,KA,Vw,VM⟩:=hrel;by_cases hlt:q<l.length
  .have⟨x,hx⟩:=gx hlt;have⟨f,hf⟩:=gx (l:=m.fs) (i:=q) Vc;obtain⟨gf,rfl,_,VY,Vu⟩:=eH hy.c.row Vc;have VF:=Vu wr (VM.block gf VY);have t0:=VF (q*4+0) _ (fY et 4 gw l q x hx 0 Vc);have t1:=VF (q*4+1) _ (fY et 4 gw l q x hx 1 Vc);have t2:=VF (q*4+2) _ (fY et 4 gw l q x hx 2 Vc);have t3:=VF (q*4+3) _ (fY et 4 gw l q x hx 3 Vc);rw[Nat.add_zero]at t0;have e1:l.drop q=x::l.drop (q+1):=by rw[be hlt];congr 1;exact Option.some.inj ((aO hlt).sy.J hx)
   have e2:m.fs.drop q=f::m.fs.drop (q+1):=by rw[be Vc];congr 1;exact Option.some.inj ((aO Vc).sy.J hf)
   have e3:Hid (m.fs.take (q+1)=m.fs.take q++ [f]):=by show _=_;rw[bT,hf];rfl
   rw[e1,e2]at Vw;obtain⟨Vr,Y,B1',B2,Ww,VD,Vz,VN,VE,Vt,Vq,hY⟩:=Vw;obtain⟨C,VH,Vv,Wx,hC,VO,Wy⟩:=Ww;have⟨⟨xa,xn,xc,hx1⟩,⟨VA,VB,VC,Wb⟩,xo,Wd⟩:=hy.c.form x (aL hx);obtain⟨x0,x1,x2,x3⟩:=x;simp only at hx1 Wb Wd;subst hx1 Wb Wd;have VQ:f.1=x0:=Vv.1.sy;have V7:∀b,C b->b<w.heap.size:=λb hb=>hy.yl b (Vz b (hC b hb))
   have VR:Hid (∀W:aw,ak w W->U8 137 #[.agg #[aa x0,.slice xa xn xc,.slice VA VB VC,.map xo]] W (sA k W C f.2)):=λW hW=>OH HF Vv hW V7
   have B4:=VM.alloc VM.size (am #[aa x0,.slice xa xn xc,.slice VA VB VC,.map xo] 249);have⟨We,KB⟩:=d8 wr #[aa x0,.slice xa xn xc,.slice VA VB VC,.map xo] 249;have Wl:=KR.alloc (am #[aa x0,.slice xa xn xc,.slice VA VB VC,.map xo] 249);have Wm:=KA.alloc (am #[aa x0,.slice xa xn xc,.slice VA VB VC,.map xo] 249);have Wn:(m.fs.take q).length<=1073741824:=by rw[bM];omega
   have hua:w.heap.size+2<=wr.heap.size:=KA.lt;clear Vu VF e1 e2 Vv hx hf;generalize m.fs.take q=D at VE Vq Wn e3;obtain⟨ub,un,Vx,rfl⟩:=d5 VE;have VS:∀b,(Value.slice ub un Vx).ownBlock=some b->w.heap.size+2<=b:=λb hb=>(VE.lt b hb).1
   go_upto_region 5 with fail
   clear t0 t1 t2 t3;generalize wr.alloc (am #[aa x0,.slice xa xn xc,.slice VA VB VC,.map xo] 249)=w4 at*;have VT:=Wm.drew;have VJ:=KB.drew;have V8:=Wl.drew;have HC:Hid (U8 137 #[.agg #[aa x0,.slice xa xn xc,.slice VA VB VC,.map xo]] w4.drew (sA k w4.drew C f.2)):=VR.o w4.drew B4.drew;have VU:w4.drew.ownsRow (w.heap.size+2) 58 2 (.slice ub un Vx) D.length (sy Vr D):=eX We.drew VE;have HO:Hid (some (w.heap.size+1)≠(Value.slice ub un Vx).ownBlock):=λe=>by have:=VS _ e.sy;omega
   have HB:Hid (some wr.heap.size≠(Value.slice ub un Vx).ownBlock):=λe=>by have:=(VE.lt _ e.sy).2;omega
   have HW:Hid (w.heap.size+1≠wr.heap.size):=λe=>Vc
   have Wo:Hid (some w.heap.size≠(Value.slice ub un Vx).ownBlock):=λe=>by have:=VS _ e.sy;omega
   have⟨p1,p2⟩:=VT.I;have⟨p3,p4⟩:=VJ.I;have zr:wr.heap.size<w4.drew.heap.size:=VJ.lt;go_region_law (first|(refine step_append_lies _ Vi _ _ _ Vi (w.heap.size+2) 58 i0 _ 2 32 underlying47 Wu Wv VL VG rfl Vc (.slice ub un Vx) D.length (sy Vr D) Vi (VW.alloc _) (aj w5.heap.size 0) 1 1 [_,_] Vi Vi (bz (dX.new _ _ _)) Vk Vc Vj Vc Ve (w5.heap.size+1) Vd ?_;intro gg cap w6 VI Vp Wz hlt6;have V9:=(VV.alloc _).grown Vp HO.o;have⟨r1,r2⟩:=V9.I)|(go_simp;go_at_call 137;refine HC.o.V ?_;rintro e w5 ⟨vv,Z',rfl,Wf,hZ,b5⟩;obtain⟨va,vc,rfl⟩:=Wf.form;have VV:=VT.G b5 VT.lt;have Wp:=VJ.G b5 VJ.lt;have VW:=eX b5 VU;have z5:=b5.size;have⟨q1,q2⟩:=VV.I;have⟨q3,q4⟩:=Wp.I;have⟨y3,y4,y5,y6⟩:=gT (w:=w5) (b:=w.heap.size+1) VV.lt))
   all_goals
    go_wp2;go_roundw
    case rel=>
     have Wq:=Vp.size;simp only[ci]at Wq
     have Ws:∀b,(Y b\/Z' b)->w.heap.size+1≠b:=by
      rintro b (hb|hb) e
      .rcases(hY b hb).2 with h|h;.have:=hy.yl b (VD b h);omega
       .omega
      .rcases(hZ b hb).2 with h|h;.have:=V7 b h;omega
       .omega
     refine⟨q+1,_,Vc,by go_num,(((V8.G b5 V8.lt).alloc _).grown Vp Wo.o).other 0 _ Vc,V9.set 0 _,?_,?_⟩
     .rw[e3.o];refine Ch.step (λb hb=>by have:=hy.yl b hb;omega) Vc Wx hC VO Wy VD Vz VN VE Vt Vq hY (w1:=w5) (dU We.drew b5) Wf (λb hb=>⟨(hZ b hb).1,(hZ b hb).2.imp id (λh=>Vc)⟩) ?_ ?_ ?_ ?_;.intro b hb hl VK;rw[dW,dO (Ws b hb)];exact(Vp.block b Ve (λe=>VK e.sy)).J (Below.l _ _ b hl)
      .simp only[cD];omega
      .have:=ownsRow_setCell_below VI (a:=(aj (w.heap.size+1) 0)) Vd (U9 gg (D.length+1) cap);simpa [sy,VQ]using this
      .rcases Wz with h|h;.exact .inl h.sy
       .exact .inr ⟨gg,rfl,Vc⟩
     .have z4:w.heap.size<=w5.heap.size:=Vc;exact(((dU B4.drew b5).alloc z4 _).grown Vp (by rw[ci];omega) (λj hj=>by have:=VS j hj;omega)).setCell (p:=(aj (w.heap.size+1) 0)) (bG _) _
    case measure=>simp[intOf];omega
  .have hli:decide ((q:Int)<(l.length:Int))=false:=Ve;obtain rfl:q=l.length:=Vc;rw[cC,hlen.o,bB,cC]at Vw;have⟨Z',VL,VG⟩:=Vw.done;obtain⟨ub,Vx,rfl⟩:=VL.form;have⟨p1,p2⟩:=KA.I;have⟨p3,p4⟩:=KR.I;go_wp2
   have Vy:∀b,Z' b->b<wr.heap.size->((wr.setCell (aj w.heap.size 0) (.slice ub m.fs.length Vx)).setCell (aj w.heap.size 1) (ag m.unk)).heap[b]?=wr.heap[b]?:=λb hb _=>by
    have VK:w.heap.size≠b:=λe=>by
     rcases(VG b hb).2 with h|h;.have:=hy.yl b h;omega
     .omega
    rw[dW,dO VK,dW,dO VK]
   refine dR (el results85 _ _ rfl ((KR.set 0 _).set 1 _) underlying49 Vh) rfl ⟨_,Z',rfl,VL.O Vy,λb hb=>⟨by simp only[cD];exact(VG b hb).1,(VG b hb).2.imp (hy.yz b) (λh=>Vc)⟩,(VM.setCell (p:=(aj w.heap.size 0)) (aE _) _).setCell (p:=(aj w.heap.size 1)) (aE _) _⟩
theorem yx:∀k,yw S k
 |0=>λ_ _ _ _ _ h=>h.elim
 |k+1=>I6 (yx k)
end
end
section
open Vo
def qD (S:eD)(R:MT->PM->Bool)(d:MT)(ahead:List PF)(x:PF):Bool:=
 match d9 d.fs x.1 with
 |none=>false
 |some f=>kC (lF d f) x.1 ahead&&fE S R f x.2
def yK {S:eD}{R:MT->PM->Bool}{d:MT}{fs:List PF}{i:Nat}{x:PF}(hx:fs[i]?=some x):
  gU S R d (fs.take i) (fs.drop i)=(qD S R d (fs.take i) x&&gU S R d (fs.take (i+1)) (fs.drop (i+1))):=by
 have Vu:i<fs.length:=(bn.1 hx).1;have e:fs[i]=x:=(bn.1 hx).2;rw[be Vu,e,gU,bT,hx];rfl
section
variable {mp:an}
def Q6 (w:aw)(P:ax)(mb pb:Nat)(nm:au)(gs:List GF)(num kind:Int)(h:jh w P mp mb nm gs)(hs:gs.Pairwise (λx y=>x.f.num<=y.f.num))(hl:gs.length<=2001)(hp:dX w pb #[ah mb] 105):
  U8 161 #[.agg #[aa num,aa kind],ah pb] w λe w'=>e= .returned (.bool (sY mp gs num kind).isSome)/\ak w w':=by
 have⟨B0,K0⟩:=d8 w #[aa num,aa kind] 237;have VG:=hp.G B0 hp.lt;have HK:=At _ P mp mb nm gs num kind (h.O (λb _ hl=>B0.block b hl)) hs hl;have⟨k1,k2⟩:=K0.I;have⟨k3,k4⟩:=VG.I;generalize sY mp gs num kind=r at*;go_enter func161,ntmps161;go_wp2_with fail;refine HK.V ?_;rintro e w2 ⟨he,b2⟩
 cases r with
 |none=>
  obtain rfl:e= .returned (.pointer none):=he;go_wp2;go_ret
  exact⟨rfl,dU B0 b2⟩
 |some g=>
  obtain⟨fb,rfl,_⟩:=he;go_wp2;go_ret;exact⟨rfl,dU B0 b2⟩
end
def O5 {S:eD}{mp:an}{B:Nat}:∀n,QX S mp B n:=by
 intro n
 induction n with
 |zero=>
  intro w Z v m d mb gs nm deep k cx hm hG hM hO hd;obtain⟨a,c,rfl⟩:=hM.form;obtain rfl:deep=9:=Vc;have⟨B0,K1,K2⟩:=gY w #[ah mb] #[.slice a m.fs.length c,ag m.unk] 105 49;go_enter func101,ntmps101;go_wp2_with (go_at_call 157;refine(ii _).V ?_;rintro e w2 ⟨rfl,rfl⟩;unfold dY)
  exact⟨rfl,eF.no B0⟩
 |succ n ih=>
  intro w Z v m d mb gs nm deep k cx hm hG hM hO hd
  cases k with
  |zero=>exact hM.elim
  |succ k=>
  obtain⟨cs,hr,Vz⟩:=hM;obtain⟨a,c,rfl⟩:=hr.form;have hcap:=hr.cap;obtain⟨VN,VO,VP⟩:=hO;have⟨B0,K1,K2⟩:=gY w #[ah mb] #[.slice a m.fs.length c,ag m.unk] 105 49;have hd8:(deep:Int)<=8:=Vc;obtain⟨X,HX⟩:∃X,Hid (gU S (dZ S n) d [] m.fs=X):=⟨_,rfl⟩;have HM:Hid (dZ S (n+1) d m=(X&&pT (oW S d) m.unk)):=(by show dZ S (n+1) d m=_;rw[dZ,HX.o])
  have HU:Hid (∀(W:aw),ak w W->dX W w.heap.size #[ah mb] 105->U8 160 #[ag m.unk,.func (.func 161) #[] #[ah w.heap.size]] W (eF (pT (oW S d) m.unk) W)):=λW hW hp=>
   AR W m.unk 161 [ah w.heap.size] (oW S d) VO (enters_of func161 Vh rfl) λW2 num kind VA=>by
    have:=Q6 W2 (λb=>b<B) mb w.heap.size nm gs num kind (hm.O λb _ q=>(dU hW VA).block b q) hG.srt hG.len (hp.G VA hp.lt);rw[L4 hG]at this;exact this
  generalize pT (oW S d) m.unk=Y at*;go_enter func101,ntmps101;have⟨k1,k2⟩:=K2.I;go_wp2_with (go_at_call 157;refine(iw _).V ?_;rintro e w2 ⟨rfl,rfl⟩)
  generalize(w.alloc (am #[ah mb] 105)).alloc (am #[.slice a m.fs.length c,ag m.unk] 49)=w1 at*;go_loopw [6,7,8,15] (λ_ _ _ iv wr=>∃i:Nat,iv=aa i/\i<=m.fs.length/\Hid (gU S (dZ S n) d (m.fs.take i) (m.fs.drop i)=X)/\ak w1 wr) (λ_ _ _ iv _=>m.fs.length-(intOf iv).toNat)
  case atStart=>exact⟨0,rfl,aP _,HX,Below.refl _ _⟩
  case round=>
   obtain⟨i,rfl,hi,HI,Bw⟩:=hrel;clear k1 k2;have BW:=dU B0 Bw;by_cases Vu:i<m.fs.length
   .have⟨x,hx⟩:=gx Vu;have⟨vv,p1,p2,p3⟩:=Vz.get hx;obtain⟨va,vc,rfl⟩:=p1.form;obtain⟨g0,rfl,hzg0,VB,Vp⟩:=hr.at Vc;have t0:=Vp wr (BW.block _ VB) _ _ p2;have t1:=lI (Vp wr (BW.block _ VB) _ _ p3);have⟨B1,K5⟩:=d8 wr #[aa x.1,.slice va x.2.length vc] 58;have B2:=dU BW B1;have Vv:=dU Bw B1;have Vw:=K1.G Vv K1.lt;have K22:=K2.G Vv K2.lt;have HF:=qV _ (λb=>b<B) mp mb nm gs x.1 (hm.O λb _ q=>B2.block b q) hG.srt hG.len;have Vs:Hid (X=(qD S (dZ S n) d (m.fs.take i) x&&gU S (dZ S n) d (m.fs.take (i+1)) (m.fs.drop (i+1)))):=(by show X=_;rw[<-HI.o,yK hx]);have⟨k3,k4⟩:=Vw.I;have⟨k5,k6⟩:=K5.I;have hij:(i:Int)<(m.fs.length:Int):=Vc;have VH:=VP x (aL hx);clear Vp p2 p3 B1 hx;go_wp2_with fail;refine HF.V ?_;rintro e w3 ⟨he,rfl⟩;generalize wr.alloc (am #[aa x.1,.slice va x.2.length vc] 58)=w2 at*;generalize wr.heap.size=vb at*
    cases hfd:d9 d.fs x.1 with
    |none=>
     rw[hG.no _ hfd]at he;obtain rfl:e= .returned (.pointer none):=he;have Vq:Hid (dZ S (n+1) d m=false):=(by show dZ S (n+1) d m=false;rw[HM.o,Vs.o,qD,hfd];rfl);go_wp2_with (go_at_call 157;refine(ii _).V ?_;rintro e w2 ⟨rfl,rfl⟩;unfold dY)
     rw[Vq.o]
     exact⟨rfl,eF.no B2⟩
    |some f=>
     have⟨g,hg,fg⟩:=hG.yes _ _ hfd;rw[hg]at he;obtain⟨fb,rfl,VC⟩:=he;have Vr:=(fA hfd).1;have HS:Hid (qD S (dZ S n) d (m.fs.take i) x=(kC g.riv g.f.num (m.fs.take i)&&fE S (dZ S n) f x.2)):=(by show qD S (dZ S n) d (m.fs.take i) x=_;unfold qD;rw[hfd,fg.riv,fg.eq,Vr]);have⟨pv,rv,Vt,_,VD,VE⟩:=VC.blk;obtain⟨pq,rfl⟩:=gK VE;obtain⟨ra,rc,rfl⟩:=iz VD.1;have Vy:=L2 w2.drew (some g0) c c m.fs cs i g.f.num (.slice ra g.riv.length rc) g.riv (hr.O λb _ q=>B2.drew.block b q) (tE.G B2.drew (aE _) Vz) Vc VN (VD.O λb _ q=>(Va w2).drew.block b q) fg.rlen;obtain⟨q,hq⟩:=Y9 (kC g.riv g.f.num (m.fs.take i));rw[hq]at Vy HS;clear hq hg hfd Vr HF VE;have hic:(i:Int)<=(c:Int):=Vc;go_upto_region 7 with(go_at_call 157;refine(iw _).V ?_;rintro e w2 ⟨rfl,rfl⟩)
     have hW:w2.drew.cell? (aj (w.heap.size+1) 0)=some (.slice (some g0) m.fs.length c)/\w2.drew.cell? (aj fb 0)=some (aa g.f.num)/\w2.drew.cell? (aj fb 4)=some (.slice ra g.riv.length rc):=
      ⟨K22.drew.cell 0,Vt.drew.cell 0,Vt.drew.cell 4⟩
     go_region_held2 (λW=>W.cell? (aj (w.heap.size+1) 0)=some (.slice (some g0) m.fs.length c)/\W.cell? (aj fb 0)=some (aa g.f.num)/\W.cell? (aj fb 4)=some (.slice ra g.riv.length rc))
      (first|exact hW|exact⟨VI.cell 0,h3.cell 0,h3.cell 4⟩)
      (first
       |(
         go_at_call 158;refine Vy.V ?_;intro e w3 VQ;rcases VQ.part with⟨rfl,rfl,b3⟩|⟨rfl,y,z,rfl,b3⟩;rotate_left;.have B4:=dU B2.drew b3;have Vq:Hid (dZ S (n+1) d m=false):=(by show dZ S (n+1) d m=false;rw[HM.o,Vs.o,HS.o];rfl);unfold dY;go_wp2;rw[Vq.o];exact⟨rfl,eF.no B4⟩
         have h3:=Vt.G (w:=w2.drew) b3 Vt.lt
         have VI:=K22.G (w:=w2.drew) b3 K22.lt))
     have B4:=dU B2.drew b3;have VJ:=dU Vv.drew b3;have VK:=K5.G (w:=w2.drew) b3 K5.lt;have HC:=Co ih w3 Z (.slice va x.2.length vc) x.2 d f g fb deep k (cx.on (ed B4 cx.le)) (VC.O (w':=w3) λb _ q=>show w3.heap[b]?=w2.heap[b]? from b3.block b q) fg (pO.G B4 (aE _) p1) VH Vc;obtain⟨r,VF⟩:=Y9 (fE S (dZ S n) f x.2);rw[VF]at HC HS;clear VF k3 k4 k5 k6;have⟨k5,k6⟩:=VK.I;go_wp2_with fail;refine HC.V ?_;intro e w4 Vx;rcases Vx.part with⟨rfl,rfl,b4⟩|⟨rfl,y,z,rfl,b4⟩
     .have VL:Hid (gU S (dZ S n) d (m.fs.take (i+1)) (m.fs.drop (i+1))=X):=(by show _=X;rw[Vs.o,HS.o];rfl);go_wp2;go_roundw
      case rel=>exact⟨i+1,by go_num,Vc,VL,dU VJ b4⟩
      case measure=>simp[intOf];omega
     .have Vq:Hid (dZ S (n+1) d m=false):=(by show dZ S (n+1) d m=false;rw[HM.o,Vs.o,HS.o];rfl);unfold dY;go_wp2;rw[Vq.o];exact⟨rfl,eF.no (dU B4 b4)⟩
   .obtain rfl:i=m.fs.length:=Vc;have Vq:Hid (dZ S (n+1) d m=Y):=(by show dZ S (n+1) d m=Y;rw[HM.o,<-HI.o,cC];rfl);have Vw:=K1.G Bw K1.lt;have K22:=K2.G Bw K2.lt;have VM:=HU.o wr BW Vw;have⟨k3,k4⟩:=K22.I;go_wp2_with fail;refine VM.V ?_;intro e w4 Vx;rcases Vx.part with⟨rfl,rfl,b4⟩|⟨rfl,y,z,rfl,b4⟩;.go_wp2;go_end0;rw[Vq.o];exact eF.ok (dU BW b4)
    .unfold dY;go_wp2;rw[Vq.o];exact⟨rfl,eF.no (dU BW b4)⟩
end
end Go.Proofs.YtfebdimolnobaaaGreatDoor
