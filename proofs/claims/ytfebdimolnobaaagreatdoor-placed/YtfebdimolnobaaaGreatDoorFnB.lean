import Derived.Test.YtfebdimolnobaaaGreatDoorItB
import Derived.Laws.IdiomStrings
set_option maxRecDepth 100000
set_option maxHeartbeats 8000000
set_option linter.all false
namespace Go.Proofs.YtfebdimolnobaaaGreatDoor
open Go.RowKit
section
open Go.Maps
attribute [local go_sem↓] Go.wp_at_zero Go.wp_at_succ
theorem I5 (w:an)(x0 x1 x2 x3:Value)(t:TypeId):∀j u,[x0,x1,x2,x3][j]?=some u->(w.alloc (.cells #[x0,x1,x2,x3] t)).cell? (((ai w.heap.size 0):Addr).add j)=some u:=bl (de.new w _ _)
def tN (S:dG)(k:Nat):Prop:=∀(T:Option MT) (w:an) (Z:ap) (db:Nat) (m:PM),dB S k T w Z db m->Calls Tryz.prog 85 #[ag db] w (LJ k w Z m)
theorem Ih {k:Nat}{w:an}{x:eP}{f:PF}{A:ap}{lv:List LV}(h:Nu w x f A lv)(hA:∀b,A b->b<w.heap.size):
  Calls Tryz.prog 137 #[.agg #[aa x.1,x.2.1,x.2.2.1,x.2.2.2]] w (px k w A f.2):=by
 obtain⟨xn,xv,xm,xe⟩:=x;obtain⟨_,OT,Ob,rfl,rfl⟩:=h;simp only at Ob;obtain⟨a,n,c,rfl⟩:=df Ob.1;have B0:∀o,aj w (w.alloc o):=fun o=>(Below.refl w.heap.size w).alloc (ay _) o
 go_enter Tryz.func137,Tryz.ntmps137
 go_wp2;refine wp_loop_rounds 1 ?_;rw[rounds_succ];have OB:∀w0:an,Calls Tryz.prog 198 #[.map none] w0 (FH w0 []):=fun w0=>qM (ks:= []) (.inl ⟨rfl,rfl,rfl⟩) (by simp) rfl
 go_wp2_with (first|(go_at_call 198;refine(OB _).mono ?_;rintro e w1 ⟨v,rfl,Ow,N3⟩;obtain⟨a1,n1,c1,rfl⟩:=df Ow;obtain rfl:n1=0:=dR Ow))
 refine wp_loop_rounds 1 ?_;rw[rounds_succ];go_wp2;go_ret;have OC:=cY (B0 _) N3;refine⟨_,A,rfl,?_,fun b hb=>⟨aC (hA b hb) OC.size,.inl hb⟩,OC⟩;rw[OT];exact Ib (Ob.keep fun b _ hl=>OC.block b hl)
theorem Ii {S:dG}{k:Nat}(HF:tN S k){w:an}{T:Option MT}{L:Prop}{x:eP}{f:PF}{A B:ap}{ps:au}(h:Nv (dB S k) w T L x f A ps B)(hA:∀b,A b->b<w.heap.size):
  Calls Tryz.prog 137 #[.agg #[aa x.1,x.2.1,x.2.2.1,x.2.2.2]] w (px k w A f.2):=by
 obtain⟨xn,xv,xm,xe⟩:=x;obtain⟨_,_,rfl,rfl,Ob,Ox,_,Oc,OU⟩:=h;obtain⟨fn,vs⟩:=f;simp only at Ob Oc⊢;obtain⟨a,c,rfl⟩:=gS Ob.1;obtain⟨i0,OF,OG,Oo,Oh⟩:=info_parts Tryz.infoV;have hlen:Hid (ps.length=vs.length):=Oc.len;have OP:ps.length<=vs.length/\vs.length<=ps.length:=by have:=hlen.out;omega
 obtain⟨B0,KB⟩:=di w #[aa xn,ah,.slice a ps.length c,.map none] 249;have N7:=Ob.keep fun b _ hl=>B0.block b hl
 have Oe:=Oc.imp (Q:=fun p v C=>v=mV v.2.2/\dB S k T (w.alloc (ak #[aa xn,ah,.slice a ps.length c,.map none] 249)) C p v.2.2) fun _ _ _ _ _ _ h=>⟨h.1,h.2.keep fun b _ hl=>B0.block b hl⟩
 go_enter Tryz.func137,Tryz.ntmps137
 go_wp2;generalize w.alloc (ak #[aa xn,ah,.slice a ps.length c,.map none] 249)=wB at*;have zB:=B0.size;have OD:∀b,B b->b<wB.heap.size:=fun b hb=>by have:=hA b (Ox b hb);omega
 go_loopw [3,5,13] (fun u _ i wr=>∃(q:Nat),q<=ps.length/\i=aa q/\rT S k T wB B wr u (vs.take q) (ps.drop q) (vs.drop q)/\Below wB.heap.size wB wr) (fun _ _ i _=>ps.length-(intOf i).toNat)
 case atStart=>exact⟨0,aM _,rfl,rT.start Oe,Below.refl _ _⟩
 case round=>
  obtain⟨q,hq,rfl,N2,Oa⟩:=hrel
  by_cases hlt:q<ps.length
  ·obtain⟨p,hp⟩:=gx hlt;obtain⟨v,hv⟩:=gx (l:=vs) (i:=q) (by omega);obtain⟨gf,rfl,_,Oq,Od⟩:=dE N7.1 (by omega);have t0:=Od wr (Oa.block gf Oq) q (oC p) (by simp[hp]);have e1:ps.drop q=p::ps.drop (q+1):=by rw[aU hlt];congr 1;exact Option.some.inj ((aJ hlt).symm.trans hp)
   have e2:vs.drop q=v::vs.drop (q+1):=by rw[aU (by omega)];congr 1;exact Option.some.inj ((aJ (by omega)).symm.trans hv)
   have e3:Hid (vs.take (q+1)=vs.take q++ [v]):=by show _=_;rw[bu,hv];rfl
   rw[e1,e2]at N2;obtain⟨ms,Y,B1,B2,hs,OH,OI,OJ,Oi,Ot,Of,hY⟩:=N2;obtain⟨C,OV,⟨Oy,hdr⟩,OL,hC,OM,ON⟩:=hs;obtain⟨v1,v2,m⟩:=v;have Oj:v1=0:=congrArg Prod.fst Oy;have Ok:v2=eS:=congrArg (fun z:PV=>z.2.1) Oy;subst Oj Ok;have Ol:=HF T wr C p m (hdr.keep fun b _ hl=>Oa.block b hl);have OE:(vs.take q).length<=4194304:=by rw[be];omega
   unfold oC at t0;generalize vs.take q=D at Oi Of OE e3;go_wp2_with fail
   refine Ol.mono ?_;rintro e w1 ⟨mv,Z',rfl,hm,hZ,N3⟩;obtain⟨a3,c3,rfl⟩:=hm.form;have Om:=dO N3 Oi;have z1:=N3.size;go_wp2_with (first|(at_builtin;refine wpList_append_own_at _ rfl _ _ 56 rfl wB.heap.size 55 i0 _ 4 64 Tryz.underlying56 OF OG Oo Oh rfl (by decide) u3 _ _ rfl (Om.alloc _) _ 1 1 [_,_,_,_] rfl rfl (I5 _ _ _ _ _ _) ?h1 ?h63 ?hby ?hba ?_;rotate_right;intro v' w5 Og N8 OO Ou))
   case h1=>intro u hu;simp at hu;rcases hu with rfl|rfl|rfl|rfl<;>rfl
   case h63=>unfold maxLen;omega
   case hby=>omega
   case hba=>have:=Oa.size;simp;omega
   have zr:=Oa.size;refine⟨⟨q+1,by omega,by go_num,?_,?_⟩,by simp[intOf];omega⟩
   ·rw[e3.out];refine rT.step OD Oa.size OL hC OM ON OH OI OJ Oi Ot Of hY (cY N3 ((Below.refl _ _).alloc (ay _) _)) (hm.keep fun b _ hl=>Below.heap_alloc _ _ b hl) (fun b hb=>⟨by have:=(hZ b hb).1;simp;omega,(hZ b hb).2⟩) N8 (by simpa [oD,eS]using Og) ?_
    rcases Ou with h|h
    ·exact .inl h
    ·exact .inr ⟨_,h,by simp⟩
   ·exact(cY Oa (cY N3 ((Below.refl _ _).alloc (ay _) _))).grown N8 (by simp;omega) (fun j hj=>(Oi.lt j hj).1)
  ·have OQ:decide ((q:Int)<(ps.length:Int))=false:=by simp;omega
   obtain rfl:q=ps.length:=by omega
   rw[b9,hlen.out,aY,b9]at N2;have OB:∀w0:an,Calls Tryz.prog 198 #[.map none] w0 (FH w0 []):=fun w0=>qM (ks:= []) (.inl ⟨rfl,rfl,rfl⟩) (by simp) rfl
   obtain⟨k1,k2⟩:=(KB.below Oa KB.lt).rules;go_wp2_with (first|(go_at_call 198;refine(OB _).mono ?_;rintro e w1 ⟨v,rfl,Ow,N3⟩;obtain⟨a1,n1,c1,rfl⟩:=df Ow;obtain rfl:n1=0:=dR Ow))
   refine wp_loop_rounds 1 ?_;rw[rounds_succ];go_wp2;go_ret;obtain⟨Z',Oo,Oh⟩:=N2.done;have z1:=N3.size;refine⟨_,Z',rfl,Oo.keep (fun b _ hl=>N3.block b hl) (fun mv m C _ hm=>hm.keep fun b _ hl=>N3.block b hl),fun b hb=>⟨by have:=(Oh b hb).1;omega,(Oh b hb).2.imp (Ox b) (fun h=>by omega)⟩,cY B0 (cY Oa N3)⟩
theorem Av.kv {t:am}{v:PV}(h:Av t v):uV (jH t v):=by
 have:=h.lo;have:=h.hi;have:=h.sz;unfold jH;refine⟨?_,?_,by show _<=maxLen;unfold maxLen;simp only;omega⟩
 ·simp only
  split<;>omega
 ·simp only
  split<;>omega
theorem Ij {S:dG}{k:Nat}(HF:tN S k){w:an}{x:eP}{f:PF}{A B:ap}{t:am}{mb:Nat}{ps:au}(h:Nw (dB S k) w x f A t mb ps B)(hA:∀b,A b->b<w.heap.size):
  Calls Tryz.prog 137 #[.agg #[aa x.1,x.2.1,x.2.2.1,x.2.2.2]] w (px k w A f.2):=by
 obtain⟨xn,xv,xm,xe⟩:=x;obtain⟨_,rfl,rfl,rfl,Ov,Ox,_,_,Oz,OA,Oc,OU⟩:=h;obtain⟨fn,vs⟩:=f;simp only at Ov Oz OA Oc⊢;obtain⟨i0,OF,OG,Oo,Oh⟩:=info_parts Tryz.infoV;have hlen:Hid (ps.length=vs.length):=Oc.len;have OP:ps.length<=vs.length/\vs.length<=ps.length:=by have:=hlen.out;omega
 have B0:aj w (w.alloc (ak #[aa xn,ah,ah,.map (some mb)] 249)):=(Below.refl w.heap.size w).alloc (ay _) _
 have OR:Bd (w.alloc (ak #[aa xn,ah,ah,.map (some mb)] 249)) (.map (some mb)) (vs.map fun v=>jH t (gr v)) ps:=
  .inr ⟨mb,rfl,Ov.keep (B0.block mb Ov.lt),by rw[aV];exact hlen.out.symm,(by
   intro q hq;obtain⟨v,hv,rfl⟩:=List.mem_map.1 hq
   exact(Oz v hv).kv),bJ.2 OA⟩
 have OS:=qM OR (by rw[aV];omega) (by rw[aV];exact hlen.out.symm);go_enter Tryz.func137,Tryz.ntmps137
 go_wp2;refine wp_loop_rounds 1 ?_;rw[rounds_succ];go_wp2_with (first|(go_at_call 198;refine OS.mono ?_;rintro e wB ⟨v,rfl,N7,N3⟩;obtain⟨a,n1,c,rfl⟩:=df N7;obtain rfl:n1=ps.length:=dR N7))
 have BB:aj w wB:=cY B0 N3;have zB:=BB.size;have Oe:=Oc.imp (Q:=fun p v C=>v=mV v.2.2/\dB S k none wB C p v.2.2) fun _ _ _ _ _ _ h=>⟨h.1,h.2.keep fun b _ hl=>BB.block b hl⟩
 have OD:∀b,B b->b<wB.heap.size:=fun b hb=>by have:=hA b (Ox b hb);omega
 go_loopw [3,7,28] (fun u _ i wr=>∃(q:Nat),q<=ps.length/\i=aa q/\rT S k none wB B wr u (vs.take q) (ps.drop q) (vs.drop q)/\Below wB.heap.size wB wr) (fun _ _ i _=>ps.length-(intOf i).toNat)
 case atStart=>exact⟨0,aM _,rfl,rT.start Oe,Below.refl _ _⟩
 case round=>
  obtain⟨q,hq,rfl,N2,Oa⟩:=hrel
  by_cases hlt:q<ps.length
  ·obtain⟨p,hp⟩:=gx hlt;obtain⟨v,hv⟩:=gx (l:=vs) (i:=q) (by omega);obtain⟨gf,rfl,_,Oq,Od⟩:=dE N7 (by omega);have t0:=Od wr (Oa.block gf Oq) q (oC p) (by simp[dV,hp,oC,ft]);have e1:ps.drop q=p::ps.drop (q+1):=by rw[aU hlt];congr 1;exact Option.some.inj ((aJ hlt).symm.trans hp)
   have e2:vs.drop q=v::vs.drop (q+1):=by rw[aU (by omega)];congr 1;exact Option.some.inj ((aJ (by omega)).symm.trans hv)
   have e3:Hid (vs.take (q+1)=vs.take q++ [v]):=by show _=_;rw[bu,hv];rfl
   rw[e1,e2]at N2;obtain⟨ms,Y,B1,B2,hs,OH,OI,OJ,Oi,Ot,Of,hY⟩:=N2;obtain⟨C,OV,⟨Oy,hdr⟩,OL,hC,OM,ON⟩:=hs;obtain⟨v1,v2,m⟩:=v;have Oj:v1=0:=congrArg Prod.fst Oy;have Ok:v2=eS:=congrArg (fun z:PV=>z.2.1) Oy;subst Oj Ok;have Ol:=HF none wr C p m (hdr.keep fun b _ hl=>Oa.block b hl);have OE:(vs.take q).length<=4194304:=by rw[be];omega
   unfold oC at t0;generalize vs.take q=D at Oi Of OE e3;go_wp2_with fail
   refine Ol.mono ?_;rintro e w1 ⟨mv,Z',rfl,hm,hZ,N3⟩;obtain⟨a3,c3,rfl⟩:=hm.form;have Om:=dO N3 Oi;have z1:=N3.size;go_wp2_with (first|(at_builtin;refine wpList_append_own_at _ rfl _ _ 56 rfl wB.heap.size 55 i0 _ 4 64 Tryz.underlying56 OF OG Oo Oh rfl (by decide) u3 _ _ rfl (Om.alloc _) _ 1 1 [_,_,_,_] rfl rfl (I5 _ _ _ _ _ _) ?h1 ?h63 ?hby ?hba ?_;rotate_right;intro v' w5 Og N8 OO Ou))
   case h1=>intro u hu;simp at hu;rcases hu with rfl|rfl|rfl|rfl<;>rfl
   case h63=>unfold maxLen;omega
   case hby=>omega
   case hba=>have:=Oa.size;simp;omega
   have zr:=Oa.size;refine⟨⟨q+1,by omega,by go_num,?_,?_⟩,by simp[intOf];omega⟩
   ·rw[e3.out];refine rT.step OD Oa.size OL hC OM ON OH OI OJ Oi Ot Of hY (cY N3 ((Below.refl _ _).alloc (ay _) _)) (hm.keep fun b _ hl=>Below.heap_alloc _ _ b hl) (fun b hb=>⟨by have:=(hZ b hb).1;simp;omega,(hZ b hb).2⟩) N8 (by simpa [oD,eS]using Og) ?_
    rcases Ou with h|h
    ·exact .inl h
    ·exact .inr ⟨_,h,by simp⟩
   ·exact(cY Oa (cY N3 ((Below.refl _ _).alloc (ay _) _))).grown N8 (by simp;omega) (fun j hj=>(Oi.lt j hj).1)
  ·have OQ:decide ((q:Int)<(ps.length:Int))=false:=by simp;omega
   obtain rfl:q=ps.length:=by omega
   rw[b9,hlen.out,aY,b9]at N2;go_wp2;go_ret;obtain⟨Z',Oo,Oh⟩:=N2.done;exact⟨_,Z',rfl,Oo,fun b hb=>⟨(Oh b hb).1,(Oh b hb).2.imp (Ox b) (fun h=>by omega)⟩,cY BB Oa⟩
theorem JH {S:dG}{k:Nat}(HF:tN S k){w:an}{T:Option MT}{x:eP}{f:PF}{A:ap}(h:fi S (dB S k) w T x f A)(hA:∀b,A b->b<w.heap.size):Calls Tryz.prog 137 #[.agg #[aa x.1,x.2.1,x.2.2.1,x.2.2.2]] w (px k w A f.2):=by
 rcases h.2 with⟨_,lv,h⟩|⟨_,ps,B,h⟩|⟨t,_,mb,ps,B,h⟩
 ·exact Ih h hA
 ·exact Ii HF h hA
 ·exact Ij HF h hA
theorem Dp {w:an}{uv:Value}{u:am}(h:w.ownsRow 0 5 1 uv u.size (Lib.strCells u)):(convert 140 9 uv).run Tryz.prog w= .ok (ae u) w:=by
 rcases h.2 with⟨rfl,h0⟩|⟨g,cap,O4,rfl,_,hb,h1,h2,h3,h4⟩
 ·have hu:u=⟨#[]⟩:=by
   cases u with|mk d=>exact congrArg _ (Array.eq_empty_of_size_eq_zero h0)
  subst hu;exact run_convert_bytes_nil w 140 5 Tryz.underlying140 Tryz.underlying5 0 0 9 Tryz.underlying9
 ·have hl:u.data.toList.length=u.size:=cC
  have:=run_convert_bytes_back (P:=Tryz.prog) w 140 9 5 (ai g 0) cap u.data.toList Tryz.underlying140 Tryz.underlying5 Tryz.underlying9 (fun j hj=>by
   have h5:(O4.toList.take (u.size*1))[j]?=(Lib.strCells u)[j]?:=by rw[h4]
   rw[bO (by omega)]at h5;have ea:((ai g 0):Addr).add j=(ai g j):=by unfold Addr.add;split<;>simp_all
   rw[ea];simp only[World.cell?,hb];simp only[Option.isSome_none,aK,if_false];rw[<-bi,h5];unfold Lib.strCells;rw[aO,aJ hj]
   rfl)
  rw[hl]at this;simpa using this
def xF (S:dG)(k:Nat)(T:Option MT)(w0:an)(N0:Nat)(B:ap)(wr:an)(u:Value)(done:List PF)(l:List eP)(rest:List PF):Prop:=
 ∃N7 Y,∃B1 B2:ap,ij (fi S (dB S k) w0 T) B2 l rest/\(∀b,B1 b->B b)/\(∀b,B2 b->B b)/\(∀b,B1 b->¬B2 b)/\
  wr.ownsRow N0 58 2 u done.length (oE N7 done)/\(∀b,u.ownBlock=some b->¬Y b)/\ij (fun vv f A=>iy (nE (k+1) wr) wr A vv f.2) Y N7 done/\(∀b,Y b->b<wr.heap.size/\(B1 b\/N0<=b))
theorem xF.start {S:dG}{k:Nat}{T:Option MT}{w0 wr:an}{N0:Nat}{B:ap}{l:List eP}{fs:List PF}(h:ij (fi S (dB S k) w0 T) B l fs):xF S k T w0 N0 B wr (ah) [] l fs:=
 ⟨[],fun _=>False,fun _=>False,B,h,fun _ q=>q.elim,fun _ q=>q,fun _ q=>q.elim,aX _ _ _ _,(fun _ q=>by cases q),trivial,fun _ q=>q.elim⟩
theorem xF.done {S:dG}{k:Nat}{T:Option MT}{w0 wr:an}{N0:Nat}{B:ap}{u:Value}{m:PM}(h:xF S k T w0 N0 B wr u m.fs [] []):
  ∃Z',nE (k+1+1) wr u m Z'/\∀b,Z' b->b<wr.heap.size/\(B b\/N0<=b):=by
 obtain⟨N7,Y,B1,B2,_,Ok,_,_,N8,Oa,N3,hY⟩:=h;refine⟨fun b=>Y b\/u.ownBlock=some b,⟨N7,Y,⟨ownsRow_base_a N8 (aM _),fun b hb=> .inr hb⟩,Oa,fun b hb=> .inl hb,N3⟩,?_⟩;rintro b (hb|hb)
 ·exact⟨(hY b hb).1,(hY b hb).2.imp (Ok b) id⟩
 ·exact⟨(N8.lt b hb).2,.inr (N8.lt b hb).1⟩
theorem xF.step {S:dG}{k:Nat}{T:Option MT}{w0 wr w1 w2:an}{N0:Nat}{B:ap}{u u' vv:Value}{done rest:List PF}{l:List eP}{f:PF}{A B2 Oq B1 Y Z':ap}{N7:aq}
  (hlB:∀b,B b->b<N0) (h0:N0<=wr.heap.size)
  (hs:ij (fi S (dB S k) w0 T) Oq l rest) (hA:∀b,A b->B2 b) (Oz:∀b,Oq b->B2 b) (hAB:∀b,A b->¬Oq b)
  (Ok:∀b,B1 b->B b) (Og:∀b,B2 b->B b) (Oy:∀b,B1 b->¬B2 b) (N8:wr.ownsRow N0 58 2 u done.length (oE N7 done)) (Oa:∀b,u.ownBlock=some b->¬Y b)
  (N3:ij (fun vv f A=>iy (nE (k+1) wr) wr A vv f.2) Y N7 done) (hY:∀b,Y b->b<wr.heap.size/\(B1 b\/N0<=b))
  (hb1:aj wr w1) (hm:iy (nE (k+1) w1) w1 Z' vv f.2) (hZ:∀b,Z' b->b<w1.heap.size/\(A b\/wr.heap.size<=b))
  (hg:∀b,(Y b\/Z' b)->b<w1.heap.size->u.ownBlock≠some b->w2.heap[b]?=w1.heap[b]?) (hsz:w1.heap.size<=w2.heap.size)
  (hrow':w2.ownsRow N0 58 2 u' (done.length+1) (oE N7 done++oE [vv] [f])) (hu':u'.ownBlock=u.ownBlock\/∃g,u'.ownBlock=some g/\w1.heap.size<=g):
  xF S k T w0 N0 B w2 u' (done++ [f]) l rest:=by
 have hlen:N7.length=done.length:=N3.len
 have OU:∀b,Y b->¬Z' b:=fun b hb hz=>by
  have q1:=hY b hb;have q2:=hZ b hz
  rcases q2.2 with q|q
  ·rcases q1.2 with q'|q'
   ·exact Oy b q' (hA b q)
   ·have:=hlB b (Og b (hA b q));omega
  ·omega
 have OL:∀b,u.ownBlock=some b->¬(Y b\/Z' b):=fun b hb h=>by
  rcases h with h|h
  ·exact Oa b hb h
  ·have q:=N8.lt b hb
   rcases(hZ b h).2 with q'|q'
   ·have:=hlB b (Og b (hA b q'));omega
   ·omega
 have hk:∀b,(Y b\/Z' b)->b<w1.heap.size->w2.heap[b]?=w1.heap[b]?:=fun b hb hl=>hg b hb hl (fun e=>OL b e hb)
 refine⟨N7++ [vv],fun b=>Y b\/Z' b,fun b=>B1 b\/A b,Oq,hs,?_,fun b hb=>Og b (Oz b hb),?_,?_,?_,?_,?_⟩
 ·rintro b (hb|hb)
  ·exact Ok b hb
  ·exact Og b (hA b hb)
 ·rintro b (hb|hb)
  ·exact fun h=>Oy b hb (Oz b h)
  ·exact hAB b hb
 ·rw[rA hlen];simpa using hrow'
 ·intro b hb h
  rcases hu' with e|⟨g,e,hge⟩
  ·exact OL b (e▸hb) h
  ·rw[e]at hb
   cases hb
   rcases h with h|h
   ·have:=(hY _ h).1;have:=hb1.size;omega
   ·have:=(hZ _ h).1;omega
 ·refine ij.append (A:=Y) (B:=Z') ?_ ?_ (fun b h=> .inl h) (fun b h=> .inr h) OU
  ·refine N3.imp fun vv f C _ _ hC h=> ?_
   have Of:∀b,C b->b<wr.heap.size->w2.heap[b]?=wr.heap[b]?:=fun b hb hl=>(hk b (.inl (hC b hb)) (aC hl hb1.size)).trans (hb1.block b hl)
   exact h.keep Of (fun _ _ _ OI hm=>hm.keep fun b hb hl=>Of b (OI b hb) hl)
  ·have Of:∀b,Z' b->b<w1.heap.size->w2.heap[b]?=w1.heap[b]?:=fun b hb hl=>hk b (.inr hb) hl
   exact⟨Z',fun _=>False,hm.keep Of (fun _ _ _ OI hm=>hm.keep fun b hb hl=>Of b (OI b hb) hl),trivial,fun b h=>h,fun b h=>h.elim,fun b _ h=>h⟩
 ·rintro b (hb|hb)
  ·have q:=hY b hb;have:=hb1.size;exact⟨by omega,q.2.imp .inl id⟩
  ·have q:=hZ b hb;exact⟨by omega,q.2.imp .inr (fun h=>by omega)⟩
theorem Ik {S:dG}{k:Nat}(HF:tN S k){w W:an}{T:Option MT}{x0:Int}{x1 x2 x3:Value}{f:PF}{C:ap}(h:fi S (dB S k) w T (x0,x1,x2,x3) f C)(hW:aj w W)
  (hC:∀b,C b->b<w.heap.size):Calls Tryz.prog 137 #[.agg #[aa x0,x1,x2,x3]] W (px k W C f.2):=by
 have OV:fi S (dB S k) W T (x0,x1,x2,x3) f C:=fi.keep (fun _ _ _ _ _ h=>dB.keep h fun b _ hl=>hW.block b hl) (fun b _ hl=>hW.block b hl) h;have:=JH HF OV (fun b hb=>aC (hC b hb) hW.size);exact this
theorem Dq {S:dG}{k:Nat}(HF:tN S k):tN S (k+1):=by
 intro T w Z db m h;obtain⟨sv,uv,l,Y0,hy,hs⟩:=h;obtain⟨i0,O5,O6,Ow,Oo⟩:=info_parts Tryz.infoF;obtain⟨sa,sc,rfl⟩:=gS hy.c.row;obtain⟨ua,n1,uc,rfl⟩:=df hy.un;have OM:∀w':an,aj w w'->(convert 140 9 (.slice ua n1 uc)).run Tryz.prog w'= .ok (ae m.unk) w':=fun w' hb=>Dp (dO hb hy.un)
 have hlen:Hid (l.length=m.fs.length):=hs.len;have hle:l.length<=m.fs.length/\m.fs.length<=l.length:=by have:=hlen.out;omega
 have hlc:l.length<=4194304:=hy.c.len;have KD:=hy.c.blk;have B0:aj w (w.alloc (ak #[ah,ae ⟨#[]⟩] 49)):=(Below.refl w.heap.size w).alloc (ay _) _;have B1:aj w ((w.alloc (ak #[ah,ae ⟨#[]⟩] 49)).alloc (ak #[ah,ae m.unk] 49)):=B0.alloc B0.size _;have OA:=OM _ B0;have KR:=(de.new w #[ah,ae ⟨#[]⟩] 49).alloc (ak #[ah,ae m.unk] 49);have KA:=de.newAt (w:=w.alloc (ak #[ah,ae ⟨#[]⟩] 49)) (n:=w.heap.size+1) (by simp) #[ah,ae m.unk] 49;obtain⟨d1,d2⟩:=(KD.below B0 KD.lt).rules;obtain⟨d3,d4⟩:=(KD.below B1 KD.lt).rules;go_enter Tryz.func85,Tryz.ntmps85
 go_wp2;clear d1 d2 d3 d4 OA OM B0;generalize(w.alloc (ak #[ah,ae ⟨#[]⟩] 49)).alloc (ak #[ah,ae m.unk] 49)=wB at*;have hN:w.heap.size+2<=wB.heap.size:=KA.lt
 go_loopw [5,17] (fun _ i wr=>∃(q:Nat) (u:Value),q<=l.length/\i=aa q/\de wr w.heap.size #[ah,ae ⟨#[]⟩] 49/\de wr (w.heap.size+1) #[u,ae m.unk] 49/\
  xF S k T w (w.heap.size+2) Y0 wr u (m.fs.take q) (l.drop q) (m.fs.drop q)/\aj w wr) (fun _ i _=>l.length-(intOf i).toNat)
 case atStart=>exact⟨0,_,aM _,rfl,KR,KA,xF.start hs,B1⟩
 case round=>
  obtain⟨q,u,hq,rfl,KR,KA,Od,Ox⟩:=hrel
  by_cases hlt:q<l.length
  ·obtain⟨x,hx⟩:=gx hlt;obtain⟨f,hf⟩:=gx (l:=m.fs) (i:=q) (by omega);obtain⟨gf,rfl,_,OJ,Ob⟩:=dE hy.c.row (by omega);have Om:=Ob wr (Ox.block gf OJ);have t0:=Om (q*4+0) _ (eE du 4 eJ l q x hx 0 (by omega));have t1:=Om (q*4+1) _ (eE du 4 eJ l q x hx 1 (by omega));have t2:=Om (q*4+2) _ (eE du 4 eJ l q x hx 2 (by omega));have t3:=Om (q*4+3) _ (eE du 4 eJ l q x hx 3 (by omega));rw[Nat.add_zero]at t0;have e1:l.drop q=x::l.drop (q+1):=by rw[aU hlt];congr 1;exact Option.some.inj ((aJ hlt).symm.trans hx)
   have e2:m.fs.drop q=f::m.fs.drop (q+1):=by rw[aU (by omega)];congr 1;exact Option.some.inj ((aJ (by omega)).symm.trans hf)
   have e3:Hid (m.fs.take (q+1)=m.fs.take q++ [f]):=by show _=_;rw[bu,hf];rfl
   rw[e1,e2]at Od;obtain⟨N7,Y,B1',B2,O7,Ok,Og,Oy,Ol,Oa,N3,hY⟩:=Od;obtain⟨C,Oq,Oc,O8,hC,Oz,Pa⟩:=O7;obtain⟨⟨xa,xn,xc,hx1⟩,⟨Oh,Oi,Oj,OQ⟩,xo,OR⟩:=hy.c.form x (aI hx);obtain⟨x0,x1,x2,x3⟩:=x;simp only at hx1 OQ OR;subst hx1 OQ OR;have OB:f.1=x0:=Oc.1.symm;have ON:∀b,C b->b<w.heap.size:=fun b hb=>hy.yl b (Og b (hC b hb))
   have OC:Hid (∀W:an,aj w W->Calls Tryz.prog 137 #[.agg #[aa x0,.slice xa xn xc,.slice Oh Oi Oj,.map xo]] W (px k W C f.2)):=fun W hW=>Ik HF Oc hW ON
   have B4:=Ox.alloc Ox.size (ak #[aa x0,.slice xa xn xc,.slice Oh Oi Oj,.map xo] 249);obtain⟨OS,KB⟩:=di wr #[aa x0,.slice xa xn xc,.slice Oh Oi Oj,.map xo] 249;have OW:=KR.alloc (ak #[aa x0,.slice xa xn xc,.slice Oh Oi Oj,.map xo] 249);have OX:=KA.alloc (ak #[aa x0,.slice xa xn xc,.slice Oh Oi Oj,.map xo] 249);have OY:(m.fs.take q).length<=4194304:=by rw[be];omega
   have hua:w.heap.size+2<=wr.heap.size:=KA.lt;clear Ob Om e1 e2 Oc hx hf;generalize m.fs.take q=D at Ol N3 OY e3;obtain⟨ub,un,Oe,rfl⟩:=df Ol;have OD:∀b,(Value.slice ub un Oe).ownBlock=some b->w.heap.size+2<=b:=fun b hb=>(Ol.lt b hb).1
   go_upto_region 5 with fail
   clear t0 t1 t2 t3;generalize wr.alloc (ak #[aa x0,.slice xa xn xc,.slice Oh Oi Oj,.map xo] 249)=w4 at*;have OE:=OX.drew;have Ou:=KB.drew;have OO:=OW.drew;have HC:Hid (Calls Tryz.prog 137 #[.agg #[aa x0,.slice xa xn xc,.slice Oh Oi Oj,.map xo]] w4.drew (px k w4.drew C f.2)):=OC.out w4.drew B4.drew;have OF:w4.drew.ownsRow (w.heap.size+2) 58 2 (.slice ub un Oe) D.length (oE N7 D):=dO OS.drew Ol;have HO:Hid (some (w.heap.size+1)≠(Value.slice ub un Oe).ownBlock):=fun e=>by have:=OD _ e.symm;omega
   have HB:Hid (some wr.heap.size≠(Value.slice ub un Oe).ownBlock):=fun e=>by have:=(Ol.lt _ e.symm).2;omega
   have HW:Hid (w.heap.size+1≠wr.heap.size):=fun e=>by omega
   have OZ:Hid (some w.heap.size≠(Value.slice ub un Oe).ownBlock):=fun e=>by have:=OD _ e.symm;omega
   obtain⟨p1,p2⟩:=OE.rules;obtain⟨p3,p4⟩:=Ou.rules;have zr:wr.heap.size<w4.drew.heap.size:=Ou.lt;go_region_law (first|(refine step_append_lies _ (by rfl) _ _ _ (by rfl) (w.heap.size+2) 58 i0 _ 2 32 Tryz.underlying47 O5 O6 Ow Oo rfl (by omega) (.slice ub un Oe) D.length (oE N7 D) (by rfl) (OH.alloc _) (ai w5.heap.size 0) 1 1 [_,_] (by rfl) (by rfl) (bl (de.new _ _ _)) (by simp[Value.oneCell']) (by omega) (by unfold maxLen;omega) (by omega) (by simp;omega) (w5.heap.size+1) (by simp) ?_;intro gg cap w6 Ot N2 Pb hlt6;have OP:=(OG.alloc _).grown N2 HO.out;obtain⟨r1,r2⟩:=OP.rules)|(go_simp;go_at_call 137;refine HC.out.mono ?_;rintro e w5 ⟨vv,Z',rfl,OT,hZ,b5⟩;obtain⟨va,vc,rfl⟩:=OT.form;have OG:=OE.below b5 OE.lt;have O1:=Ou.below b5 Ou.lt;have OH:=dO b5 OF;have z5:=b5.size;obtain⟨q1,q2⟩:=OG.rules;obtain⟨q3,q4⟩:=O1.rules;obtain⟨y3,y4,y5,y6⟩:=eK (w:=w5) (b:=w.heap.size+1) OG.lt))
   all_goals
    go_wp2;go_roundw
    case rel=>
     have O2:=N2.size;simp only[bV]at O2
     have O3:∀b,(Y b\/Z' b)->w.heap.size+1≠b:=by
      rintro b (hb|hb) e
      ·rcases(hY b hb).2 with h|h
       ·have:=hy.yl b (Ok b h);omega
       ·omega
      ·rcases(hZ b hb).2 with h|h
       ·have:=ON b h;omega
       ·omega
     refine⟨q+1,_,by omega,by go_num,(((OO.below b5 OO.lt).alloc _).grown N2 OZ.out).other 0 _ (by omega),OP.set 0 _,?_,?_⟩
     ·rw[e3.out];refine xF.step (fun b hb=>by have:=hy.yl b hb;omega) (by omega) O8 hC Oz Pa Ok Og Oy Ol Oa N3 hY (w1:=w5) (cY OS.drew b5) OT (fun b hb=>⟨(hZ b hb).1,(hZ b hb).2.imp id (fun h=>by omega)⟩) ?_ ?_ ?_ ?_
      ·intro b hb hl Ov;rw[dd,if_neg (O3 b hb)];exact(N2.block b (by simp;omega) (fun e=>Ov e.symm)).trans (Below.heap_alloc _ _ b hl)
      ·simp only[ca];omega
      ·have:=ownsRow_setCell_below Ot (a:=(ai (w.heap.size+1) 0)) (by simp) (.slice (some (ai gg 0)) (D.length+1) cap);simpa [oE,OB]using this
      ·rcases Pb with h|h
       ·exact .inl h.symm
       ·exact .inr ⟨gg,rfl,by omega⟩
     ·have z4:w.heap.size<=w5.heap.size:=by omega
      exact(((cY B4.drew b5).alloc z4 _).grown N2 (by rw[bV];omega) (fun j hj=>by have:=OD j hj;omega)).setCell (p:=(ai (w.heap.size+1) 0)) (bE _) _
    case measure=>simp[intOf];omega
  ·have hli:decide ((q:Int)<(l.length:Int))=false:=by simp;omega
   obtain rfl:q=l.length:=by omega
   rw[b9,hlen.out,aY,b9]at Od;obtain⟨Z',Ow,Oo⟩:=Od.done;obtain⟨ub,Oe,rfl⟩:=Ow.form;obtain⟨p1,p2⟩:=KA.rules;obtain⟨p3,p4⟩:=KR.rules;go_wp2
   have Of:∀b,Z' b->b<wr.heap.size->((wr.setCell (ai w.heap.size 0) (.slice ub m.fs.length Oe)).setCell (ai w.heap.size 1) (ae m.unk)).heap[b]?=wr.heap[b]?:=fun b hb _=>by
    have Ov:w.heap.size≠b:=fun e=>by
     rcases(Oo b hb).2 with h|h
     ·have:=hy.yl b h;omega
     ·omega
    rw[dd,if_neg Ov,dd,if_neg Ov]
   refine bodyPost_ret (dw Tryz.results85 _ _ rfl ((KR.set 0 _).set 1 _) Tryz.underlying49 (by kernel_rfl)) rfl ⟨_,Z',rfl,Ow.keep Of,fun b hb=>⟨by simp only[ca];exact(Oo b hb).1,(Oo b hb).2.imp (hy.yz b) (fun h=>by omega)⟩,(Ox.setCell (p:=(ai w.heap.size 0)) (ay _) _).setCell (p:=(ai w.heap.size 1)) (ay _) _⟩
theorem tO {S:dG}:∀k,tN S k
 |0=>fun _ _ _ _ _ h=>h.elim
 |k+1=>Dq (tO k)
def jN (w:an)(R:Fx PM)(e:Ending)(w':an):Prop:=
 match R with
 | .error x=>e=da x.1 x.2/\aj w w'
 | .ok m=>∃v Z',e= .returned (.agg #[v,ae m.unk])/\nE 9 w' v m Z'/\(∀b,Z' b->w.heap.size<=b/\b<w'.heap.size)/\aj w w'
theorem dF.belowW {w w':an}{Z Z':ap}{rb:Nat}(h:dF w Z rb w' Z'){n:Nat}(hn:n<=w.heap.size)(hZ:∀x,Z x->n<=x)(hr:n<=rb):Below n w w':=
 ⟨h.os,h.tape,h.output,h.size,fun i hi=>h.block i (aC hi hn) (fun q=>by have:=hZ i q;omega) (by omega)⟩
theorem Be (S:dG)(mp:am->Option Nat)(B:Nat)(b:am)(hS:za S)(hbs:b.size<=4000000)(w:an)(d:MT)(mb:Nat)(gs:List GF)(nm:am)(cx:p8 w B S mp)(hM:gD w (fun b=>b<B) mp mb nm gs)
  (hG:ja S mp d gs) (hgd:jB S d):
  Calls Tryz.prog 47 #[ag mb,ae b] w (jN w (dQ S b (b.size+1) d PM.none 0 b.size 1)):=by
 have hex:b.extract 0 b.size=b:=by simp
 have Oe:=cx.le;have B1:aj w (w.alloc (ak #[ah,ae ⟨#[]⟩] 49)):=(Below.refl _ _).alloc (ay _) _;have B2:=B1.alloc (by simp) (ak #[ah,ah] 183);have B3:=B2.alloc (by simp;omega) (ak #[ae b,aa 0,aa 1] 244);have KR:=((de.new w #[ah,ae ⟨#[]⟩] 49).alloc (ak #[ah,ah] 183)).alloc (ak #[ae b,aa 0,aa 1] 244);have KD:=(de.newAt (w:=w.alloc (ak #[ah,ae ⟨#[]⟩] 49)) (n:=w.heap.size+1) (by simp) #[ah,ah] 183).alloc (ak #[ae b,aa 0,aa 1] 244);have KW:=de.newAt (w:=(w.alloc (ak #[ah,ae ⟨#[]⟩] 49)).alloc (ak #[ah,ah] 183)) (n:=w.heap.size+1+1) (by simp) #[ae b,aa 0,aa 1] 244;have N2:=EE ((w.alloc (ak #[ah,ae ⟨#[]⟩] 49)).alloc (ak #[ah,ah] 183)) b;simp only[bV]at N2;go_enter Tryz.func47,Tryz.ntmps47
 go_wp2_with fail
 refine N2.mono ?_;rintro e w' ⟨rfl,rfl⟩;have hsz:w.heap.size+3=(((w.alloc (ak #[ah,ae ⟨#[]⟩] 49)).alloc (ak #[ah,ah] 183)).alloc (ak #[ae b,aa 0,aa 1] 244)).heap.size:=by simp
 clear N2 B1 B2;go_wp2_with fail
 generalize(((w.alloc (ak #[ah,ae ⟨#[]⟩] 49)).alloc (ak #[ah,ah] 183)).alloc (ak #[ae b,aa 0,aa 1] 244))=w3 at*;have BB:Below B w w3:=⟨B3.os,B3.tape,B3.output,B3.size,fun i hi=>B3.block i (aC hi Oe)⟩
 have N7:=uY S mp B b hS hbs (b.size+1) w3 (fun x=>x=w.heap.size+1) d PM.none 0 b.size 1 7 mb gs nm (w.heap.size+1+1) (w.heap.size+1) (cx.on BB) (hM.keep (fun x q _=>BB.block x q)) hG hgd (by rw[hex];exact KW) (dB.fresh KD)
  (fun x hx=>by subst hx;omega) (by omega) (by omega) (aM _) (ay _) (by omega) rfl (WM.none _ _ _)
 refine N7.mono ?_;intro e w4 hq
 rcases hq.part with⟨x,hP,rfl,Z',st⟩|⟨m',hP,rfl,Z',st,hdr⟩
 ·unfold da;go_wp2;exact⟨rfl,rfl,B3.trans (st.belowW (by omega) (fun x hx=>by omega) (by omega))⟩
 ·have B4:aj w w4:=B3.trans (st.belowW (by omega) (fun x hx=>by omega) (by omega));have N8:de w4 w.heap.size #[ah,ae ⟨#[]⟩] 49:=(st.block w.heap.size (by omega) (by omega) (by omega)).trans KR;have z4:=st.size;have hg:=st.grow;clear N7 hq st;go_wp2_with fail
  refine(tO (S:=S) 8 (some d) w4 Z' (w.heap.size+1) m' hdr).mono ?_;rintro e w5 ⟨v,Z2,rfl,hm,Oc,Od⟩;obtain⟨va,vc,rfl⟩:=hm.form;have Oa:=N8.below Od N8.lt;obtain⟨r1,r2⟩:=Oa.rules
  have N3:∀x,Z2 x->w.heap.size<x:=fun x hx=>by
   rcases(Oc x hx).2 with h|h
   ·rcases hg x h with h|h
    ·omega
    ·omega
   ·omega
  go_wp2
  have Of:∀x,Z2 x->x<w5.heap.size->((w5.setCell (ai w.heap.size 0) (.slice va m'.fs.length vc)).setCell (ai w.heap.size 1) (ae m'.unk)).heap[x]?=w5.heap[x]?:=fun x hx _=>by
   have Ob:w.heap.size≠x:=by have:=N3 x hx;omega
   rw[dd,if_neg Ob,dd,if_neg Ob]
  rw[hP];refine bodyPost_ret (dw Tryz.results47 _ _ rfl ((Oa.set 0 _).set 1 _) Tryz.underlying49 (by kernel_rfl)) rfl ⟨_,Z2,rfl,hm.keep Of,fun x hx=>⟨bw (N3 x hx),by simp only[ca];exact(Oc x hx).1⟩,?_⟩;exact((cY B4 Od).setCell (p:=(ai w.heap.size 0)) (ay _) _).setCell (p:=(ai w.heap.size 1)) (ay _) _
def FI (w:an)(kp mk n:Nat)(pm:am->Option Nat):Prop:=de w kp #[.int .i32 0,.int .u32 0,.map (some mk)] 170/\eI w mk n pm
theorem Dr (w:an):Calls Tryz.prog 37 #[] w fun e w'=>∃kp mk,e= .returned (ag kp)/\FI w' kp mk 0 (fun _=>none)/\w.heap.size<=kp/\w.heap.size<=mk/\mk≠kp/\aj w w':=by
 have hmm:= @run_makeMap Tryz.prog;go_enter Tryz.func37,Tryz.ntmps37
 go_wp2;go_ret;refine⟨_,_,rfl,⟨de.newAt (by simp) _ _,?_⟩,bE _,ay _,by omega,((Below.refl w.heap.size w).alloc (ay _) _).alloc (by simp) _⟩;exact(eI.made w).keep (Below.heap_alloc _ _ _ (by simp))
end
end Go.Proofs.YtfebdimolnobaaaGreatDoor
