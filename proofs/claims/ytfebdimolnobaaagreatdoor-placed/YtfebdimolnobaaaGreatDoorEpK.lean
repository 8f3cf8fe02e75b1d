import Derived.Test.YtfebdimolnobaaaGreatDoorPlP
set_option maxRecDepth 100000
set_option maxHeartbeats 8000000
set_option linter.all false
namespace Go.Proofs.YtfebdimolnobaaaGreatDoor
open Go.RowKit
section
attribute [local go_sem↓] Go.wp_at_zero Go.wp_at_succ
def Kn (S:dG)(mp pm:am->Option Nat)(B n:Nat):Prop:=
 ∀(w:an) (Z:ap) (v:Value) (m:PM) (d:MT) (pb:Nat) (gs:List GF) (k:Nat),p8 w B S mp->kI w (fun b=>b<B) S mp pm->fZ w (fun b=>b<B) mp pm gs pb->ja S mp d gs->GY d->fR k w Z v m->kT k m->dm S n d m=true->(dD S n d m).length<=140737488355328->
  Calls Tryz.prog 104 #[ag pb,.agg #[v,ae m.unk]] w (fE (dD S n d m) w)
def Ma (S:dG)(mp pm:am->Option Nat)(B n:Nat):Prop:=
 ∀(w:an) (Z:ap) (v:Value) (m:PM) (d:MT) (pb:Nat) (gs:List GF) (k N b:Nat) (l:List UInt8),p8 w B S mp->kI w (fun b=>b<B) S mp pm->fZ w (fun b=>b<B) mp pm gs pb->ja S mp d gs->GY d->fR k w Z v m->(∀i,Z i->i<N)->B<=N->N<=w.heap.size->kT k m->dm S n d m=true->d6 w N b (dx b) l->l.length+(dD S n d m).length<=140737488355328->
  Calls Tryz.prog 99 #[ag pb,.agg #[v,ae m.unk],dx b] w (gu N b l (dD S n d m) w)
section
variable {w:an} {B n:Nat} {S:dG} {mp pm:am->Option Nat} {d:MT} {f:ek} {g:GF} {x:py}
theorem Mb (hN:z8 S)(ih:Kn S mp pm B n)(cx:p8 w B S mp)(Oa:kI w (fun b=>b<B) S mp pm)(fg:FG S mp d f g)(hnm:0<=f.num/\f.num<=536870911)(N8:kH w (fun b=>b<B) mp (jE w (fun b=>b<B) mp pm) (gz w (fun b=>b<B) mp pm) g x):
  ∃cf N2,F7 x.c5 cf N2/\∀N,B<=N->N<=w.heap.size->IA (iW S (dD S n) f) (dZ S (dm S n) f) N cf N2 w:=by
 obtain⟨iq,Ot,_,⟨cf,N2,h1,h2⟩,_⟩:=N8.enc;refine⟨cf,N2,h1,fun N hB hw=>h2 S d f n N w (fun _ _ _=>rfl) (fun b q _=>by omega) hw fg hnm fun Ou=> ?_⟩;obtain⟨t,p,gs,q1,rfl,q3,q4⟩:=xW Oa fg Ot Ou;refine⟨t,q1,fun W' Z v m k hb hM hO hs hl=> ?_⟩;have Ob:=dj hb hB;exact ih W' Z v m t p gs k (cx.on Ob) (Oa.on Ob) (q3.on Ob) q4 (qT hN q1) hM hO hs hl
theorem Mc (hN:z8 S)(ih:Kn S mp pm B n)(ih2:Ma S mp pm B n)(cx:p8 w B S mp)(Oa:kI w (fun b=>b<B) S mp pm)(fg:FG S mp d f g)(hnm:0<=f.num/\f.num<=536870911)(N8:kH w (fun b=>b<B) mp (jE w (fun b=>b<B) mp pm) (gz w (fun b=>b<B) mp pm) g x):
  ∃cf N2,F7 x.c6 cf N2/\∀N,B<=N->N<=w.heap.size->Mo (iW S (dD S n) f) (dZ S (dm S n) f) N cf N2 w:=by
 obtain⟨iq,Ot,_,_,⟨cf,N2,h1,h2⟩⟩:=N8.enc;refine⟨cf,N2,h1,fun N hB hw=>h2 S d f n N w (fun _ _ _=>rfl) (fun b q _=>by omega) hw fg hnm fun Ou=> ?_⟩;obtain⟨t,p,gs,q1,rfl,q3,q4⟩:=xW Oa fg Ot Ou;refine⟨t,q1,fun W' Z v m k hb hM hO hs hl=> ?_,fun W' Z v m k b l0 hb hM hZ hO hs OJ hl=> ?_⟩
 ·have Ob:=dj hb hB;exact ih W' Z v m t p gs k (cx.on Ob) (Oa.on Ob) (q3.on Ob) q4 (qT hN q1) hM hO hs hl
 ·have Ob:=dj hb hB;exact ih2 W' Z v m t p gs k N b l0 (cx.on Ob) (Oa.on Ob) (q3.on Ob) q4 (qT hN q1) hM hZ hB (aG hw hb.size) hO hs OJ hl
end
theorem uk {S:dG}{mp pm:am->Option Nat}{B:Nat}(hN:z8 S):∀n,Kn S mp pm B n:=by
 intro n
 induction n with
 |zero=>
  intro w Z v m d pb gs k cx Oa Og hG Oh hM hO hs
  cases hs
 |succ n ih=>
  intro w Z v m d pb gs k cx Oa Og hG Oh hM hO hs hl
  cases k with
  |zero=>exact hM.elim
  |succ k=>
  obtain⟨cs,hr,Ov⟩:=hM;obtain⟨a,c,rfl⟩:=hr.form;obtain⟨OL,OM,Ow⟩:=hO;rw[dm,aT]at hs;have hX:=fun x hx=>tU (x:=x) hs.1 hx
  obtain⟨B0,K1⟩:=di w #[.slice a m.fs.length c,ae m.unk] 49;rw[dD]at hl;unfold fE;rw[dD];rw[aH]at hl⊢;rw[show m.unk.data.toList.length=m.unk.size by simp]at hl⊢
  have HC:Hid (∀(W0 W:an) (x:PF) (f:ek) (g:GF) (st:py) (v:Value),aj w W0->Below W0.heap.size W0 W->x∈m.fs->dv d.fs x.1=some f->FG S mp d f g->kH W0 (fun b=>b<B) mp (jE W0 (fun b=>b<B) mp pm) (gz W0 (fun b=>b<B) mp pm) g st->mB (fR k w Z) w Z v x.2->∃cf N2,F7 st.c5 cf N2/\Calls Tryz.prog cf (v::N2).toArray W (fE (iL S (dD S n) d x) W)):=fun W0 W x f g st v Od hW hx N7 fg N8 hv=>by
   obtain⟨f',q1,q2⟩:=hX x hx;obtain rfl:f=f':=by rw[N7]at q1;exact Option.some.inj q1
   have hb:iL S (dD S n) d x=iW S (dD S n) f x.2:=by unfold iL;rw[N7]
   have Oz:(iL S (dD S n) d x).length<=140737488355328:=aG (sD hx) (by omega);rw[hb]at Oz⊢;have Of:=dj Od cx.le;obtain⟨cf,N2,h1,h2⟩:=Mb hN ih (cx.on Of) (Oa.on Of) fg (Oh _ _ N7) N8;exact⟨cf,N2,h1,h2 W0.heap.size (aG cx.le Od.size) (ay _) W Z v x.2 k hW (mB.below (cY Od hW) (ay _) hv) (Ow x hx) (fun v hv=>xO q2 hv) Oz⟩
  have HT:Hid (∀i,((m.fs.take i).flatMap (iL S (dD S n) d)).length+m.unk.size<=140737488355328):=fun i=>by
   have:=gk (g:=iL S (dD S n) d) (l:=m.fs) i;show _<=_;omega
  generalize iL S (dD S n) d=bx at*;clear hl hs;obtain⟨k1,k2⟩:=K1.rules;go_enter Tryz.func104,Tryz.ntmps104
  go_wp2;generalize w.alloc (ak #[.slice a m.fs.length c,ae m.unk] 49)=w1 at*;go_loopw [5,7,14] (fun sv _ iv wr=>∃i:Nat,iv=aa i/\i<=m.fs.length/\sv=aa (((m.fs.take i).flatMap bx).length+m.unk.size:Nat)/\aj w1 wr) (fun _ _ iv _=>m.fs.length-(intOf iv).toNat)
  case atStart=>exact⟨0,rfl,aM _,by simp,Below.refl _ _⟩
  case round=>
   obtain⟨i,rfl,hi,rfl,Bw⟩:=hrel;clear k1 k2;have BW:=cY B0 Bw
   by_cases hlt:i<m.fs.length
   ·obtain⟨x,hx⟩:=gx hlt;obtain⟨vv,p1,p2,p3⟩:=Ov.get hx;obtain⟨va,vc,rfl⟩:=p1.form;obtain⟨g0,rfl,Oi,Oe,N3⟩:=hr.at (by omega);have t0:=N3 wr (BW.block _ Oe) _ _ p2;have t1:=jI (N3 wr (BW.block _ Oe) _ _ p3);obtain⟨B1,K5⟩:=di wr #[aa x.1,.slice va x.2.length vc] 58;have B2:=cY BW B1;have OD:=cY Bw B1;have Oc:=aI hx;obtain⟨f,N7,_⟩:=hX x Oc;obtain⟨g,hg,fg⟩:=hG.yes _ _ N7;have HF:=qi _ (fun b=>b<B) mp pm gs pb x.1 (Og.on (dj B2.drew cx.le)) hG.srt hG.len;unfold xV at HF;rw[hg]at HF;have HZ:=fun W st hW N8=>HC.out _ W x f g st _ B2.drew hW Oc N7 fg N8 p1
    have hT:=HT.out (i+1);rw[eu hx,aH]at hT
    have HS:Hid (((m.fs.take (i+1)).flatMap bx).length+m.unk.size=((m.fs.take i).flatMap bx).length+m.unk.size+(bx x).length):=by
     show((m.fs.take (i+1)).flatMap bx).length+m.unk.size=_;rw[eu hx,aH];omega
    have OA:((m.fs.take i).flatMap bx).length+m.unk.size+(bx x).length<=140737488355328:=by omega
    generalize((m.fs.take i).flatMap bx).length+m.unk.size=sz at*;have OE:(i:Int)<(m.fs.length:Int):=by omega
    have hsum:IntKind.i64.wrap ((sz:Int)+((bx x).length:Int))=(sz:Int)+((bx x).length:Int):=tW (by omega) (by omega);clear N3 p2 p3 B1 hx hg N7 hT;go_upto_region 5 with fail
    generalize wr.alloc (ak #[aa x.1,.slice va x.2.length vc] 58)=w2 at*;generalize wr.heap.size=vb at*;have hW:w2.drew.cell? (ai vb 0)=some (aa x.1)/\w2.drew.cell? (ai vb 1)=some (.slice va x.2.length vc):=⟨K5.drew.cell 0,K5.drew.cell 1⟩;obtain⟨r0,r1⟩:=hW
    go_region_with
     (first
      |(
        go_at_call 141
        refine HF.mono ?_;rintro e w3 ⟨⟨gb,j,st,rfl,ON,Ox,N8,hc⟩,b3⟩;obtain⟨cf,N2,⟨e5,OO⟩,HL⟩:=HZ w3 st b3 N8;have c5:=hc w3 (b3.block gb Ox) 5 _ rfl;rw[e5]at c5;have Om:=K5.drew.below b3 K5.drew.lt;have r3:=Om.cell 1
        simp only[List.getElem?_toArray,ch,ci]at r3)
      |(
        refine HL.mono ?_
        rintro e w4 ⟨rfl,b4⟩))
    all_goals
     go_wp2;go_roundw
     case rel=>exact⟨i+1,by go_num,by omega,by rw[HS.out,Int.natCast_add],cY OD.drew (cY b3 b4)⟩
     case measure=>simp[intOf];omega
   ·obtain rfl:i=m.fs.length:=by omega
    rw[aY];go_wp2;go_ret;exact⟨rfl,BW⟩
theorem Bv {S:dG}{mp pm:am->Option Nat}{B:Nat}(hN:z8 S):∀n,Ma S mp pm B n:=by
 intro n
 induction n with
 |zero=>
  intro w Z v m d pb gs k N b l cx Oa Og hG Oh hM hZ Ok Ol hO hs
  cases hs
 |succ n ih=>
  intro w Z v m d pb gs k N b l cx Oa Og hG Oh hM hZ Ok Ol hO hs hW hl
  cases k with
  |zero=>exact hM.elim
  |succ k=>
  obtain⟨cs,hr,Ov⟩:=hM;obtain⟨a,c,rfl⟩:=hr.form;obtain⟨OL,OM,Ow⟩:=hO;rw[dm,aT]at hs;have hX:=fun x hx=>tU (x:=x) hs.1 hx
  obtain⟨B0,K1⟩:=di w #[.slice a m.fs.length c,ae m.unk] 49;have W0:=Wr.of B0 Ol;have Od:=hW.on B0;rw[dD]at hl⊢;rw[aH]at hl
  have HC:Hid (∀(W0 W:an) (x:PF) (f:ek) (g:GF) (st:py) (v:Value) (l2:List UInt8),Below N w W0->Below N W0 W->x∈m.fs->dv d.fs x.1=some f->FG S mp d f g->kH W0 (fun b=>b<B) mp (jE W0 (fun b=>b<B) mp pm) (gz W0 (fun b=>b<B) mp pm) g st->mB (fR k w Z) w Z v x.2->l2.length+(iL S (dD S n) d x).length<=140737488355328->∃cf N2,F7 st.c6 cf N2/\(d6 W N b (dx b) l2->Calls Tryz.prog cf (v::dx b::N2).toArray W (gu N b l2 (iL S (dD S n) d x) W))):=fun W0 W x f g st v l2 Od hW hx N7 fg N8 hv OC=>by
   obtain⟨f',q1,q2⟩:=hX x hx;obtain rfl:f=f':=by rw[N7]at q1;exact Option.some.inj q1
   have hb:iL S (dD S n) d x=iW S (dD S n) f x.2:=by unfold iL;rw[N7]
   rw[hb]at OC⊢;have Of:=dj Od Ok;obtain⟨cf,N2,h1,h2⟩:=Mc hN (uk hN n) ih (cx.on Of) (Oa.on Of) fg (Oh _ _ N7) N8;exact⟨cf,N2,h1,fun hw=>h2 N Ok (aG Ol Od.size) W Z v x.2 k b l2 hW (hv.under (Od.trans hW) hZ) hZ (Ow x hx) (fun v hv=>xO q2 hv) hw OC⟩
  have HT:Hid (∀i,l.length+((m.fs.take i).flatMap (iL S (dD S n) d)).length+m.unk.data.toList.length<=140737488355328):=fun i=>by
   have:=gk (g:=iL S (dD S n) d) (l:=m.fs) i;show _<=_;omega
  generalize iL S (dD S n) d=bx at*;clear hl hs;obtain⟨k1,k2⟩:=K1.rules;go_enter Tryz.func99,Tryz.ntmps99
  go_wp2;generalize w.alloc (ak #[.slice a m.fs.length c,ae m.unk] 49)=w1 at*;go_loopw [7,11] (fun _ iv wr=>∃i:Nat,iv=aa i/\i<=m.fs.length/\d6 wr N b (dx b) (l++(m.fs.take i).flatMap bx)/\Wr N w1 wr) (fun _ iv _=>m.fs.length-(intOf iv).toNat)
  case atStart=>exact⟨0,rfl,aM _,by simpa using Od,Wr.refl _ _⟩
  case round=>
   obtain⟨i,rfl,hi,Oy,Wi⟩:=hrel;clear k1 k2;have WI:=W0.trans Wi;have hsz:=WI.bel.size
   by_cases hlt:i<m.fs.length
   ·obtain⟨x,hx⟩:=gx hlt;obtain⟨vv,p1,p2,p3⟩:=Ov.get hx;obtain⟨va,vc,rfl⟩:=p1.form;obtain⟨g0,rfl,Oi,Oe,N3⟩:=hr.at (by omega);have Oo:=WI.bel.block _ (hZ _ Oi);have t0:=N3 wr Oo _ _ p2;have t1:=jI (N3 wr Oo _ _ p3);obtain⟨B1,K5⟩:=di wr #[aa x.1,.slice va x.2.length vc] 58;have Oj:=Wi.trans (Wr.of B1 (by omega));have Oq:=W0.trans Oj;have OF:=Oy.on B1.drew;have Oc:=aI hx;obtain⟨f,N7,_⟩:=hX x Oc;obtain⟨g,hg,fg⟩:=hG.yes _ _ N7;have HF:=qi _ (fun b=>b<B) mp pm gs pb x.1 (Og.on (dj Oq.bel.drew Ok)) hG.srt hG.len;unfold xV at HF;rw[hg]at HF;have hT:=HT.out (i+1);rw[eu hx,aH]at hT;have OA:(l++(m.fs.take i).flatMap bx).length+(bx x).length<=140737488355328:=by rw[aH];omega
    have HZ:=fun W st hW N8=>HC.out _ W x f g st _ _ Oq.bel.drew hW Oc N7 fg N8 p1 OA
    have HS:Hid (l++(m.fs.take (i+1)).flatMap bx=l++(m.fs.take i).flatMap bx++bx x):=by
     show l++(m.fs.take (i+1)).flatMap bx=_;rw[eu hx,aW]
    generalize l++(m.fs.take i).flatMap bx=li at*;have OE:(i:Int)<(m.fs.length:Int):=by omega
    have OG:=Oq.bel.size;clear N3 p2 p3 hx hg N7 hT Oo;go_upto_region 4 with fail
    generalize wr.alloc (ak #[aa x.1,.slice va x.2.length vc] 58)=w2 at*;generalize wr.heap.size=vb at*;have hC:w2.drew.cell? (ai vb 0)=some (aa x.1)/\w2.drew.cell? (ai vb 1)=some (.slice va x.2.length vc):=⟨K5.drew.cell 0,K5.drew.cell 1⟩;obtain⟨r0,r1⟩:=hC;have OB:N<=w2.drew.heap.size:=aG Ol OG
    go_region_with
     (first
      |(
        go_at_call 141
        refine HF.mono ?_;rintro e w3 ⟨⟨gb,j,st,rfl,ON,Ox,N8,hc⟩,b3⟩;obtain⟨cf,N2,⟨e6,OO⟩,HL⟩:=HZ w3 st (dj b3 OB) N8;have c6:=hc w3 (b3.block gb Ox) 6 _ rfl;rw[e6]at c6;have Om:=K5.drew.below b3 K5.drew.lt;have OH:=HL (OF.on b3);have r3:=Om.cell 1
        simp only[List.getElem?_toArray,ch,ci]at r3)
      |(
        refine OH.mono ?_;rintro e w4 ⟨rfl,q1,q2⟩
        have OI:Wr N w1 w4:=⟨(Oj.bel.drew.trans (dj b3 OB)).trans q2.bel,fun i cs T h1 h2 h=>q2.fr i cs T h1 h2 ((Oj.fr i cs T h1 h2 h).drew.below b3 (Oj.fr i cs T h1 h2 h).lt)⟩))
    all_goals
     go_wp2;go_roundw
     case rel=>exact⟨i+1,by go_num,by omega,by rw[HS.out];exact q1,OI⟩
     case measure=>simp[intOf];omega
   ·obtain rfl:i=m.fs.length:=by omega
    have hT:=HT.out m.fs.length;rw[aY]at Oy hT;have K2:=Wi.fr _ _ _ (by decide) (by decide) K1;obtain⟨k3,k4⟩:=K2.rules;have HR:=qQ m.unk Oy (by rw[aH];omega) (by omega);go_wp2_with fail
    refine HR.mono ?_;rintro e w3 ⟨rfl,q1,q2⟩;go_wp2;go_end0;exact⟨rfl,by rw[aW]at q1;exact q1,WI.trans q2⟩
section
variable {S:dG} {mp pm:am->Option Nat} {B:Nat}
theorem um (hN:z8 S)(w:an)(Z:ap)(v:Value)(m:PM)(d:MT)(pb:Nat)(gs:List GF)(k:Nat)(cx:p8 w B S mp)(hpc:kI w (fun b=>b<B) S mp pm)(hpl:fZ w (fun b=>b<B) mp pm gs pb)(hG:ja S mp d gs)(hnd:GY d)(hM:fR k w Z v m)(hO:kT k m)(hl:(dD S 8 d m).length<=140737488355328):
  Calls Tryz.prog 59 #[ag pb,.agg #[v,ae m.unk]] w (iu (dm S 8 d m) (aa (dD S 8 d m).length) w):=by
 obtain⟨a,c,rfl⟩:=hM.form;obtain⟨B0,K1⟩:=di w #[.slice a m.fs.length c,ae m.unk] 49;have HC:=Gn (S:=S) (mp:=mp) (pm:=pm) (B:=B) 8 _ Z _ m d pb gs 1 k (cx.on (dj B0 cx.le)) (hpc.on (dj B0 cx.le)) (hpl.on (dj B0 cx.le)) hG (hM.below B0 (ay _)) hO rfl
 have HZ:Hid (∀W,aj w W->dm S 8 d m=true->Calls Tryz.prog 104 #[ag pb,.agg #[.slice a m.fs.length c,ae m.unk]] W (fE (dD S 8 d m) W)):=fun W hW hs=>
  uk hN 8 W Z _ m d pb gs k (cx.on (dj hW cx.le)) (hpc.on (dj hW cx.le)) (hpl.on (dj hW cx.le)) hG hnd (hM.below hW (ay _)) hO hs hl
 generalize dD S 8 d m=y at*;generalize dm S 8 d m=ok at*;obtain⟨k1,k2⟩:=K1.rules;go_enter Tryz.func59,Tryz.ntmps59
 go_wp2_with fail
 refine HC.mono ?_;intro e w2 hr;generalize w.alloc (ak #[.slice a m.fs.length c,ae m.unk] 49)=w1 at*
 rcases hr.part with⟨rfl,rfl,b2⟩|⟨rfl,y,z,rfl,b2⟩
 ·have K2:=K1.below b2 K1.lt;clear k1 k2;obtain⟨k1,k2⟩:=K2.rules;have B2:=cY B0 b2;go_wp2_with fail
  refine(HZ.out w2 B2 trivial).mono ?_;rintro e w3 ⟨rfl,b3⟩;go_wp2;go_ret;exact iu.ok (cY B2 b3)
 ·unfold da;go_wp2;exact⟨rfl,iu.no (cY B0 b2)⟩
theorem Gp (hN:z8 S)(w:an)(Z:ap)(v:Value)(m:PM)(d:MT)(pb:Nat)(gs:List GF)(k:Nat)(cx:p8 w B S mp)(hpc:kI w (fun b=>b<B) S mp pm)(hpl:fZ w (fun b=>b<B) mp pm gs pb)(hG:ja S mp d gs)(hnd:GY d)(hM:fR k w Z v m)(hO:kT k m)(hl:(dD S 8 d m).length<=140737488355328):
  Calls Tryz.prog 55 #[ag pb,.agg #[v,ae m.unk]] w (iu (dm S 8 d m) (ae ⟨(dD S 8 d m).toArray⟩) w):=by
 obtain⟨a,c,rfl⟩:=hM.form;obtain⟨B0,K1⟩:=di w #[.slice a m.fs.length c,ae m.unk] 49;have HC:=um hN _ Z _ m d pb gs k (cx.on (dj B0 cx.le)) (hpc.on (dj B0 cx.le)) (hpl.on (dj B0 cx.le)) hG hnd (hM.below B0 (ay _)) hO hl;have N2:=hM.mono (Y:=fun b=>b<w.heap.size) fun _ _ q=>q
 have HW:Hid (∀W N b,aj w W->w.heap.size<=N->N<=W.heap.size->dm S 8 d m=true->d6 W N b (dx b) []->Calls Tryz.prog 99 #[ag pb,.agg #[.slice a m.fs.length c,ae m.unk],dx b] W (gu N b [] (dD S 8 d m) W)):=fun W N b hW hN1 N3 hs hw=>
  Bv hN 8 W _ _ m d pb gs k N b [] (cx.on (dj hW cx.le)) (hpc.on (dj hW cx.le)) (hpl.on (dj hW cx.le)) hG hnd (N2.below hW (ay _)) (fun i q=>by omega) (by have:=cx.le;omega) N3 hO hs hw (by simpa using hl)
 generalize dD S 8 d m=y at*;generalize dm S 8 d m=ok at*;obtain⟨k1,k2⟩:=K1.rules;have hs1:w.heap.size+1=(w.alloc (ak #[.slice a m.fs.length c,ae m.unk] 49)).heap.size:=by simp
 go_enter Tryz.func55,Tryz.ntmps55
 go_wp2_with fail
 refine HC.mono ?_;intro e w2 hr;generalize w.alloc (ak #[.slice a m.fs.length c,ae m.unk] 49)=w1 at*
 rcases hr.part with⟨rfl,rfl,b2⟩|⟨rfl,y,z,rfl,b2⟩
 ·have hs2:=b2.size;go_wp2_with fail
  refine(rE (B:=w.heap.size+1) y.length hl (by omega)).mono ?_;rintro e w3 ⟨b,rfl,hb,N7,b3⟩;have K3:de w3 w.heap.size _ _:=(b3.block _ (by omega)).trans (K1.below b2 K1.lt);have hs3:=b3.size;have B3:aj w w3:=(cY B0 b2).trans (dj b3 (by omega));clear k1 k2;obtain⟨k1,k2⟩:=K3.rules;go_wp2_with fail
  refine(HW.out w3 (w.heap.size+1) b B3 (by omega) (by omega) trivial N7).mono ?_;rintro e w4 ⟨rfl,q1,q2⟩;rw[aP]at q1;have hs4:=q2.bel.size;go_wp2_with fail
  refine(vV q1 (by omega)).mono ?_;rintro e w5 ⟨rfl,b5⟩;go_wp2;go_ret;exact iu.ok (B3.trans (dj (q2.bel.trans b5) (by omega)))
 ·unfold da;go_wp2;exact⟨rfl,iu.no (cY B0 b2)⟩
end
end
theorem kc {w:an}{P:ap}{v:Value}{bs:List dh}{y:List YM}(hM:d5 w P v bs y)(h:ix bs):y.length<=2001:=by
 have e:y.length=(dq bs).length:=by rw[<-hM.names];simp
 rw[e,gI,aV];exact aG (bI _ _) h.ok.few
theorem uo {w:an}{P:ap}{v:Value}{bs:List dh}{y:List YM}(hM:d5 w P v bs y)(h:ix bs){i:Nat}{m:YM}(hi:y[i]?=some m){nm:am}(hn:(m.1.1.toList==nm.toList)=true):
  ∃d gs,(dt bs).msg nm=some d/\gD w (fun b=>b<w.heap.size) (jc (y.map (·.1))) m.1.2 d.name gs/\ja (dt bs) (jc (y.map (·.1))) d gs/\jB (dt bs) d:=by
 have hz:(y.map (·.1)).map (·.1)=dq bs:=by rw[bz];exact hM.names
 have N7:m.1.1.toList=nm.toList:=by simpa using hn
 have N2:dX (dq bs) nm=true:=(gE _ _).2 ⟨m.1.1,by rw[<-hM.names];exact List.mem_map.2 ⟨m,aI hi,rfl⟩,N7⟩;obtain⟨_,b,_,_,h2,_,_⟩:=nh h.ok hz N2;obtain⟨j,m2,hj,_,q2,q3,q4,q5,q6⟩:=ol hM h h2
 have N8:((y.map (·.1)).map (·.1)).Pairwise (fun x y=>x.toList≠y.toList):=by
  rw[hz,gI];exact List.Pairwise.sublist (List.Sublist.map _ cO) h.ok.names
 have e1:m.1.1=m2.1.1:=gX (N7.trans q3.symm);have g1:=nZ N8 (s:=m.1.1) (b:=m.1.2) (List.mem_map.2 ⟨m,aI hi,rfl⟩);have g2:=nZ N8 (s:=m2.1.1) (b:=m2.1.2) (List.mem_map.2 ⟨m2,aI hj,rfl⟩);rw[e1,g2]at g1;exact⟨_,m2.2,h2,by rw[<-Option.some.inj g1];exact q4,q5,q6⟩
theorem lX {w:an}{P:ap}{v:Value}{bs:List dh}{y:List YM}(hM:d5 w P v bs y){nm:am}(N3:∀m∈y,(m.1.1.toList==nm.toList)=false):(dt bs).msg nm=none:=by
 have hz:(y.map (·.1)).map (·.1)=dq bs:=by rw[bz];exact hM.names
 refine(sS hz ?_).1
 cases hm:dX (dq bs) nm with
 |false=>rfl
 |true=>
  obtain⟨x,hx,Ob⟩:=(gE _ _).1 hm;rw[<-hM.names]at hx;obtain⟨m,Oc,rfl⟩:=List.mem_map.1 hx;have:=N3 m Oc;rw[Ob]at this;simp at this
theorem jN.toK {w:an}{R:Fx PM}{e:Ending}{w':an}(h:jN w R e w'):ot [] (fun _ _=>True) w R e w':=by
 cases R with
 |error x=>exact⟨h.1,.of_below h.2,trivial⟩
 |ok m=>
  obtain⟨v,Z',h1,h2,h3,h4⟩:=h;exact⟨v,Z',h1,h2,h3,.of_below h4,trivial⟩
theorem jp.toRet {w:an}{R:Fx PM}{e:Ending}{w':an}(h:jp [] (fun _ _=>True) w R e w'):Cu w R e w':=by
 cases R with
 |error x=>exact⟨h.1,h.2.1.to_below (ay _) (by simp)⟩
 |ok m=>
  obtain⟨v,Z',h1,h2,h3,h4,_⟩:=h;exact⟨v,Z',h1,h2,h3,h4.to_below (ay _) (by simp)⟩
theorem DU (w:an)(sb:Nat)(v kv:Value)(bs:List dh)(y:List YM)(P:ap)(nm b:am)(h1:de w sb #[v,kv] 92)(hM:d5 w P v bs y)(h:ix bs)(hu:UOK w)(hbs:b.size<=4000000):
  Calls Tryz.prog 21 #[ag sb,aa 1,ae nm,ae b] w (Cu w (gN (dt bs) nm b)):=by
 refine(ww (ks:= []) (K:=fun _ _=>True) _ w (by simp) (fun _ _ _ _ _ _=>trivial) rfl trivial sb v kv bs y P nm b 1 h1 hM (kc hM h) (.inl rfl) (fun N3=> ?_) (fun i m w0 q0 q1 q2 q3 hi hn hb _ _ c0 c1 c2 _=> ?_)).mono fun _ _ q=>q.toRet
 ·unfold gN;rw[lX hM N3]
 ·obtain⟨d,gs,g1,g2,g3,g4⟩:=uo hM h hi hn;have cx:=qO hM h hu;refine(JI _ w0 q0 q1 q2 q3 m.1.2 b c0 c1 c2 fun w2 Od=> ?_).mono fun _ _ q=>q.toK
  have Oa:aj w w2:=cY hb Od;have e:gN (dt bs) nm b=dQ (dt bs) b (b.size+1) d PM.none 0 b.size 1:=by unfold gN;rw[g1]
  rw[e];exact Be (dt bs) (jc (y.map (·.1))) w.heap.size b (LN h) hbs w2 d m.1.2 gs d.name (cx.on Oa) (g2.keep fun x q _=>Oa.block x q) g3 g4
section
open Go.Maps
attribute [local go_sem↓] Go.wp_at_zero Go.wp_at_succ
theorem Ko (S:dG)(b:am)(w:an)(d:MT)(pb:Nat)
  (h:∀(w3:an) (Z:ap) (rb db:Nat),aj w w3->dn w3 rb (b.extract 0 b.size) 0 1->dB S 8 (some d) w3 Z db PM.none->(∀x,Z x->w.heap.size<=x/\x<w3.heap.size)->w.heap.size<=rb->¬Z rb->
   Calls Tryz.prog 89 #[ag pb,ag rb,ag db] w3 (fK S 7 d w3 Z rb db (b.extract 0 b.size) 1 (lQ b.size (dQ S b (b.size+1) d PM.none 0 b.size 1)))):
  Calls Tryz.prog 49 #[ag pb,ae b] w (jN w (dQ S b (b.size+1) d PM.none 0 b.size 1)):=by
 have hex:b.extract 0 b.size=b:=by simp
 have B1:aj w (w.alloc (ak #[ah,ae ⟨#[]⟩] 49)):=(Below.refl _ _).alloc (ay _) _;have B2:=B1.alloc (by simp) (ak #[ah,ah] 183);have B3:=B2.alloc (by simp;omega) (ak #[ae b,aa 0,aa 1] 244);have KR:=((de.new w #[ah,ae ⟨#[]⟩] 49).alloc (ak #[ah,ah] 183)).alloc (ak #[ae b,aa 0,aa 1] 244);have KD:=(de.newAt (w:=w.alloc (ak #[ah,ae ⟨#[]⟩] 49)) (n:=w.heap.size+1) (by simp) #[ah,ah] 183).alloc (ak #[ae b,aa 0,aa 1] 244);have KW:=de.newAt (w:=(w.alloc (ak #[ah,ae ⟨#[]⟩] 49)).alloc (ak #[ah,ah] 183)) (n:=w.heap.size+1+1) (by simp) #[ae b,aa 0,aa 1] 244;have N2:=EE ((w.alloc (ak #[ah,ae ⟨#[]⟩] 49)).alloc (ak #[ah,ah] 183)) b;simp only[bV]at N2;go_enter Tryz.func49,Tryz.ntmps49
 go_wp2_with fail
 refine N2.mono ?_;rintro e w' ⟨rfl,rfl⟩;have hsz:w.heap.size+3=(((w.alloc (ak #[ah,ae ⟨#[]⟩] 49)).alloc (ak #[ah,ah] 183)).alloc (ak #[ae b,aa 0,aa 1] 244)).heap.size:=by simp
 clear N2 B1 B2;go_wp2_with fail
 generalize(((w.alloc (ak #[ah,ae ⟨#[]⟩] 49)).alloc (ak #[ah,ah] 183)).alloc (ak #[ae b,aa 0,aa 1] 244))=w3 at*;have N7:=h w3 (fun x=>x=w.heap.size+1) (w.heap.size+1+1) (w.heap.size+1) B3 (by rw[hex];exact KW) (dB.fresh KD) (fun x hx=>by subst hx;omega) (by omega) (by omega);refine N7.mono ?_;intro e w4 hq
 rcases hq.part with⟨x,hP,rfl,Z',st⟩|⟨m',hP,rfl,Z',st,hdr⟩
 ·unfold da;go_wp2;exact⟨rfl,rfl,B3.trans (st.belowW (by omega) (fun x hx=>by omega) (by omega))⟩
 ·have B4:aj w w4:=B3.trans (st.belowW (by omega) (fun x hx=>by omega) (by omega));have N8:de w4 w.heap.size #[ah,ae ⟨#[]⟩] 49:=(st.block w.heap.size (by omega) (by omega) (by omega)).trans KR;have z4:=st.size;have hg:=st.grow;clear N7 hq st;go_wp2_with fail
  refine(tO (S:=S) 8 (some d) w4 Z' (w.heap.size+1) m' hdr).mono ?_;rintro e w5 ⟨v,Z2,rfl,hm,Oc,Od⟩;obtain⟨va,vc,rfl⟩:=hm.form;have Oa:=N8.below Od N8.lt;obtain⟨r1,r2⟩:=Oa.rules
  have N3:∀x,Z2 x->w.heap.size<x:=fun x hx=>by
   rcases(Oc x hx).2 with h|h
   ·rcases hg x h with h|h
    ·omega
    ·omega
   ·omega
  go_wp2
  have Oe:∀x,Z2 x->x<w5.heap.size->((w5.setCell (ai w.heap.size 0) (.slice va m'.fs.length vc)).setCell (ai w.heap.size 1) (ae m'.unk)).heap[x]?=w5.heap[x]?:=fun x hx _=>by
   have Ob:w.heap.size≠x:=by have:=N3 x hx;omega
   rw[dd,if_neg Ob,dd,if_neg Ob]
  rw[hP];refine bodyPost_ret (dw Tryz.results49 _ _ rfl ((Oa.set 0 _).set 1 _) Tryz.underlying49 (by kernel_rfl)) rfl ⟨_,Z2,rfl,hm.keep Oe,fun x hx=>⟨bw (N3 x hx),by simp only[ca];exact(Oc x hx).1⟩,?_⟩;exact((cY B4 Od).setCell (p:=(ai w.heap.size 0)) (ay _) _).setCell (p:=(ai w.heap.size 1)) (ay _) _
end
section
open Go.Maps
section
variable {w:an} {P:ap} {v:Value} {bs:List dh} {y:List YM}
theorem qj (hM:d5 w P v bs y)(h:ix bs):Ge w P (dt bs) (jc (y.map (·.1))):=by
 refine⟨fun t d ht=> ?_,fun t ht=> ?_⟩
 ·obtain⟨i,m,hi,h1,h2,_,_,h3,_⟩:=ol hM h ht;have Ol:=aI hi;refine⟨m.1.2,m.2,h1,by rw[<-h2];exact hM.msg m Ol,h3,?_⟩;have Ov:m.1.1∈dq bs:=by rw[<-hM.names];exact List.mem_map.2 ⟨m,Ol,rfl⟩
  obtain⟨b,Oh,Oz⟩:=List.mem_map.1 Ov;rw[<-h2,<-Oz];exact(h.ok.ok b (List.mem_filter.1 Oh).1).name
 ·have hz:(y.map (·.1)).map (·.1)=dq bs:=by rw[bz];exact hM.names
  have hs:(jc (y.map (·.1)) t).isSome=true:=by
   unfold gQ at ht
   split at ht
   ·exfalso;have e:kW.length=15:=by decide+kernel
    unfold o8 at ht
    cases hq:yA kW t.toList 0 with
    |none=>rw[hq]at ht;cases ht
    |some k=>
     rw[hq]at ht;have:=xg _ _ _ _ hq;simp at ht;omega
   ·split at ht
    ·assumption
    ·cases ht
  rw[pd,hz]at hs;obtain⟨_,b,_,_,h2,_⟩:=nh h.ok hz hs;exact⟨_,h2⟩
theorem qX (hM:d5 w P v bs y)(h:ix bs){i:Nat}{m:YM}(hi:y[i]?=some m){nm:am}(hn:(m.1.1.toList==nm.toList)=true):
  ∃d gs,(dt bs).msg nm=some d/\gD w P (jc (y.map (·.1))) m.1.2 d.name gs/\ja (dt bs) (jc (y.map (·.1))) d gs/\jB (dt bs) d/\d.name.size<=2000:=by
 have hz:(y.map (·.1)).map (·.1)=dq bs:=by rw[bz];exact hM.names
 have Om:m.1.1.toList=nm.toList:=by simpa using hn
 have Ob:dX (dq bs) nm=true:=(gE _ _).2 ⟨m.1.1,by rw[<-hM.names];exact List.mem_map.2 ⟨m,aI hi,rfl⟩,Om⟩;obtain⟨_,b,_,_,h2,_,_⟩:=nh h.ok hz Ob;obtain⟨j,m2,hj,_,q2,q3,_,q5,q6⟩:=ol hM h h2
 have Oo:((y.map (·.1)).map (·.1)).Pairwise (fun x y=>x.toList≠y.toList):=by
  rw[hz,gI];exact List.Pairwise.sublist (List.Sublist.map _ cO) h.ok.names
 have e1:m.1.1=m2.1.1:=gX (Om.trans q3.symm);have g1:=nZ Oo (s:=m.1.1) (b:=m.1.2) (List.mem_map.2 ⟨m,aI hi,rfl⟩);have g2:=nZ Oo (s:=m2.1.1) (b:=m2.1.2) (List.mem_map.2 ⟨m2,aI hj,rfl⟩);rw[e1,g2]at g1;obtain⟨_,_,_,_,_,k4⟩:=(qj hM h).md nm _ h2;exact⟨_,m2.2,h2,by rw[<-Option.some.inj g1,<-q2];exact hM.msg m2 (aI hj),q5,q6,k4⟩
end
def fS (w:an)(kp mk:Nat)(S:dG)(mp:am->Option Nat)(X:ap):Prop:=∃N pm,rI kp mk 0 S mp w N pm [] X
theorem fS.still {kp mk E B:Nat}{S:dG}{mp:am->Option Nat}{Y Z:ap}(hk:kp<E)(hm:mk<E):jG E B fun w=>fS w kp mk S mp fun b=>(Y b/\b<E)\/(B<=b/\¬Z b):=by
 rintro a b ⟨N,pm,h⟩ _ hb;refine⟨N,pm,(hb kp (.inl hk) h.kb.lt).trans h.kb,h.mb.keep (hb mk (.inl hm) h.mb.lt),h.ne,h.ct,h.inj,fun t p hp=> ?_⟩
 rcases h.pl t p hp with⟨q1,_⟩|⟨d,gs,q1,q2,q3⟩
 ·cases q1
 ·exact .inr ⟨d,gs,q1,q2,q3.keep (fun x q hl=>hb x (q.2.2.2.imp And.right And.left) hl) (fun _ _ q=>q)⟩
theorem fS.less {w:an}{kp mk:Nat}{S:dG}{mp:am->Option Nat}{X Y:ap}(h:fS w kp mk S mp X)(hx:∀b,X b->b<w.heap.size->Y b):fS w kp mk S mp Y:=by
 obtain⟨N,pm,h⟩:=h;exact⟨N,pm,h.less hx⟩
theorem DV (MK:lB)(w:an)(sb kp mk:Nat)(v:Value)(bs:List dh)(y:List YM)(P:ap)(nm b:am)(h1:de w sb #[v,ag kp] 92)(hM:d5 w P v bs y)(h:ix bs)(hu:UOK w)(hbs:b.size<=4000000)
  (Y:ap) (hp:fS w kp mk (dt bs) (jc (y.map (·.1))) Y) (hY:∀x,P x->Y x) (hP:∀x,P x->x≠mk/\x≠kp) (hsb:sb≠mk/\sb≠kp) (hu1:2≠mk/\2≠kp) (hu2:3≠mk/\3≠kp):
  Calls Tryz.prog 21 #[ag sb,aa 2,ae nm,ae b] w (jp [mk,kp] (fun Z w'=>fS w' kp mk (dt bs) (jc (y.map (·.1))) fun x=>(Y x/\x<w.heap.size)\/(w.heap.size+9<=x/\¬Z x)) w (gN (dt bs) nm b)):=by
 obtain⟨N,pm,ok0⟩:=id hp;have Oc:=ok0.kb.lt;have Od:=ok0.mb.lt;have Oq:∀Z:ap,jG w.heap.size (w.heap.size+9) fun w'=>fS w' kp mk (dt bs) (jc (y.map (·.1))) fun x=>(Y x/\x<w.heap.size)\/(w.heap.size+9<=x/\¬Z x):=fun _=>fS.still Oc Od
 have Oe:∀x∈ [mk,kp],x<w.heap.size:=fun x hx=>by
  simp only[aL,bG,or_false]at hx
  rcases hx with rfl|rfl
  ·exact Od
  ·exact Oc
 have N3:∀x,x≠mk->x≠kp->x∉ [mk,kp]:=fun x h1 h2=>by simp[h1,h2]
 refine ww _ w Oe Oq rfl (hp.less fun x hy hl=> .inl ⟨hy,hl⟩) sb v _ bs y P nm b 2 h1 hM (kc hM h) (.inr rfl) (fun OA=> ?_) (fun i m w0 q0 q1 q2 q3 hi hn hb hsz N8 c0 c1 c2 c3=> ?_)
 ·unfold gN;rw[lX hM OA]
 ·have Ot:d5 w (fun x=>P x/\x<w.heap.size) v bs y:=hM.mono fun x q hl=>⟨q,hl⟩
  obtain⟨d,gs,g1,g2,g3,g4,g5⟩:=qX Ot h hi hn;have e:gN (dt bs) nm b=dQ (dt bs) b (b.size+1) d PM.none 0 b.size 1:=by unfold gN;rw[g1]
  rw[e];have N7:∀q,w.heap.size<=q->q∉ [mk,kp]:=fun q hq hx=>by have:=Oe q hx;omega
  have Ou:=jF g1;refine Ke Oe Oq _ w0 hb.size hsz q0 q1 q2 q3 m.1.2 sb kp v b c0 c1 c2 c3 (h1.below hb h1.lt) ⟨N7 _ N8.1,N7 _ N8.2.1,N7 _ N8.2.2.1,N7 _ N8.2.2.2,N3 sb hsb.1 hsb.2⟩ fun w1 Oh hsz1=> ?_
  have N2:aj w w1:=cY hb Oh;have Ow:d5 w1 P v bs y:=hM.keep fun x _ hl=>N2.block x hl
  have Ox:∀x,(P x/\x<w.heap.size)->x<w.heap.size/\x≠mk/\x≠kp:=fun x q=>⟨q.2,hP x q.1⟩
  have md:=(qj Ot h).keep (w':=w1) fun x q _=>N2.block x q.2
  have I1:wo kp mk w.heap.size 0 (dt bs) (jc (y.map (·.1))) (fun x=>P x/\x<w.heap.size) w1 N pm [] fun x=>(Y x/\x<w.heap.size)\/w.heap.size+9<=x:=
   ⟨(ok0.less fun x hy hl=> .inl ⟨hy,hl⟩).keep (fun x hl=>N2.block x hl),md,N2.size,by simp,fun x hx=> .inl ⟨hY x hx.1,hx.2⟩,fun x hx=> .inr (by omega),Ox,Oc,Od⟩
  refine(Ka kp mk w.heap.size (dt bs) (jc (y.map (·.1))) _ MK w1 N pm m.1.2 d gs _ I1 (by rw[Ou];exact g1) (g2.keep fun x q _=>N2.block x q.2) g3 g5).mono ?_;rintro en w2 ⟨p,N',Oi,rfl,OB,ok2,hx2,Oa⟩;refine⟨p,rfl,Oa,fun Z hZ=>⟨N',Oi,ok2.less fun x q hl=>q.imp id fun q=>⟨q,fun z=>by have:=hZ x z;omega⟩⟩,?_⟩;have Oy:d5 w2 P v bs y:=Ow.keep fun x q hl=>Oa.block x hl (N3 x (hP x q).1 (hP x q).2)
  have Of:UOK w1:=hu.keep (N2.block _ hu.lt1) (N2.block _ hu.lt2);have Og:UOK w2:=Of.keep (Oa.block _ Of.lt1 (N3 _ hu1.1 hu1.2)) (Oa.block _ Of.lt2 (N3 _ hu2.1 hu2.2));have cx:=qO Oy h Og
  have pc:kI w2 (fun x=>x<w2.heap.size) (dt bs) (jc (y.map (·.1))) Oi:=fun t q hq=>by
   rcases ok2.pl t q hq with⟨z,_⟩|⟨d',Oj,z1,z2,z3⟩
   ·cases z
   ·exact⟨d',Oj,z1,z3.move (.mono fun x _ hl=>hl) (fun _ _ q=>q),z2⟩
  obtain⟨d',Oj,z1,z2,z3⟩:=pc _ _ OB
  obtain rfl:d=d':=by
   rw[Ou,g1]at z1;exact Option.some.inj z1
  refine Ko (dt bs) b w2 d p fun w3 Z rb db Ok hr hd hZ OC OD=> ?_
  exact Bu (dt bs) (jc (y.map (·.1))) Oi w2.heap.size b (LN h) hbs (b.size+1) w3 Z d PM.none 0 b.size 1 7 p Oj rb db (cx.on Ok) (pc.keep fun x q _=>Ok.block x q) (z2.keep (fun x q _=>Ok.block x q) (fun _ _ q=>q)) z3 g4 hr hd hZ OC OD (aM _) (ay _) (by omega) rfl (WM.none _ _ _)
theorem c5 (w:an)(t:am)(hmax:t.size<=140737488355328)(hg:GOK w)(hbo:BOK w):
  Calls Tryz.prog 13 #[ae t] w (zG w (gi t)):=by
 have hmf:= @rh;have B0:=(Below.refl w.heap.size w).alloc (ay _) (ak #[ae t] 9);generalize hr:gi t=r;have HR:Hid (gi t=r):=hr;clear hr;go_enter Tryz.func13,Tryz.ntmps13
 go_wp2_with fail
 refine(Io _ w.heap.size t hmax ((de.new w #[ae t] 9).cell 0) (hg.keep (B0.block _ hg.lt)) (hbo.keep (B0.block _ hbo.lt))).mono ?_;rw[HR.out]
 cases r with
 |error q=>
  obtain⟨k,p⟩:=q;rintro e w2 ⟨he,N2⟩;obtain rfl:e= .returned (.tuple #[.pointer none,aa k,aa p]):=he;go_wp2;go_ret3
  exact⟨rfl,B0.trans (N2.mono B0.size)⟩
 |ok bs=>
  rintro e w2 ⟨⟨sb,kp,mk,rfl,v,y,h1,⟨h3,h4,h5,h6⟩,hM,hK⟩,N2⟩;go_wp2;go_ret3
  exact⟨⟨sb,kp,mk,rfl,v,y,h1,⟨aG B0.size h3,aG B0.size h4,aG B0.size h5,h6⟩,hM.mono (fun x hx _=>⟨aG B0.size hx.1,hx.2⟩),hK⟩,B0.trans (N2.mono B0.size)⟩
def jq (w:an)(sb kp mk:Nat)(bs:List dh)(P:ap):Prop:=
 ∃v y,de w sb #[v,ag kp] 92/\(P sb/\P kp/\P mk/\sb≠kp/\sb≠mk)/\d5 w (fun b=>P b/\b≠sb/\b≠kp/\b≠mk) v bs y/\fS w kp mk (dt bs) (jc (y.map (·.1))) P
theorem Kq {bs:List dh}(h:ix bs):(dt bs).ms.length<=2001:=by
 show((eM bs).map mL).length<=2001;rw[aV];exact aG (bI _ _) h.ok.few
theorem zF.toP {w:an}{sb kp mk:Nat}{bs:List dh}{lo:Nat}(h:zF w sb kp mk bs lo)(hs:ix bs):jq w sb kp mk bs fun b=>lo<=b:=by
 obtain⟨v,y,h1,⟨a1,a2,a3,a4,a5,a6⟩,h3,h4⟩:=h;refine⟨v,y,h1,⟨a1,a2,a3,a4,a5⟩,h3,0,fun _=>none,h4.1,h4.2,a6,?_,fun _ _ _ q=>(by cases q),fun _ _ q=>(by cases q)⟩;have:=Kq hs;have h5:lz (dt bs) (fun _=>none)<=(dt bs).ms.length:=bI _ _;omega
section
variable {w w':an} {sb kp mk:Nat} {bs:List dh} {P P':ap}
theorem jq.keep (h:jq w sb kp mk bs P)(hk:∀b,P b->b<w.heap.size->w'.heap[b]?=w.heap[b]?):jq w' sb kp mk bs P:=by
 obtain⟨v,y,h1,h2,h3,N,pm,h4⟩:=h;refine⟨v,y,(hk _ h2.1 h1.lt).trans h1,h2,h3.keep (fun b q hl=>hk b q.1 hl),N,pm,(hk _ h2.2.1 h4.kb.lt).trans h4.kb,h4.mb.keep (hk _ h2.2.2.1 h4.mb.lt),h4.ne,h4.ct,h4.inj,fun t p hp=> ?_⟩
 rcases h4.pl t p hp with⟨q,_⟩|⟨d,gs,q1,q2,q3⟩
 ·cases q
 ·exact .inr ⟨d,gs,q1,q2,q3.keep (fun b q hl=>hk b q.2.2.2 hl) (fun _ _ q=>q)⟩
theorem jq.less (h:jq w sb kp mk bs P)(hp:∀b,P b->b<w.heap.size->P' b):jq w sb kp mk bs P':=by
 obtain⟨v,y,h1,⟨a1,a2,a3,a4,a5⟩,h3,N,pm,h4⟩:=h;exact⟨v,y,h1,⟨hp _ a1 h1.lt,hp _ a2 h4.kb.lt,hp _ a3 h4.mb.lt,a4,a5⟩,h3.mono fun b q hl=>⟨hp b q.1 hl,q.2⟩,N,pm,h4.less hp⟩
end
theorem jp.imp {ks:au}{K K':(ap)->an->Prop}{w:an}{R:Fx PM}{e:Ending}{w':an}(h:jp ks K w R e w')(hk:∀Z,(∀b,Z b->w.heap.size<=b)->dl ks w w'->K Z w'->K' Z w'):jp ks K' w R e w':=by
 cases R with
 |error x=>exact⟨h.1,h.2.1,hk _ (fun _ q=>q.elim) h.2.1 h.2.2⟩
 |ok m=>
  obtain⟨v,Z',h1,h2,h3,h4,h5⟩:=h;exact⟨v,Z',h1,h2,h3,h4,hk _ (fun b q=>(h3 b q).1) h4 h5⟩
theorem Cu.toK {ks:au}{K:(ap)->an->Prop}{w:an}{R:Fx PM}{e:Ending}{w':an}(h:Cu w R e w')(hk:∀Z,aj w w'->K Z w'):jp ks K w R e w':=by
 cases R with
 |error x=>exact⟨h.1,.of_below h.2,hk _ h.2⟩
 |ok m=>
  obtain⟨v,Z',h1,h2,h3,h4⟩:=h;exact⟨v,Z',h1,h2,h3,.of_below h4,hk _ h4⟩
theorem wz (MK:lB)(w:an)(sb kp mk:Nat)(bs:List dh)(P:ap)(nm b:am)(way:Int)(hs:jq w sb kp mk bs P)(h:ix bs)(hu:UOK w)(hbs:b.size<=4000000)(hw:way=1\/way=2)(hu1:¬P 2)(hu2:¬P 3):
  Calls Tryz.prog 21 #[ag sb,aa way,ae nm,ae b] w (jp [mk,kp] (fun Z w'=>jq w' sb kp mk bs fun x=>(P x/\x<w.heap.size)\/(w.heap.size<=x/\¬Z x)) w (gN (dt bs) nm b)):=by
 obtain⟨v,y,h1,⟨a1,a2,a3,a4,a5⟩,h3,h4⟩:=id hs
 rcases hw with rfl|rfl
 ·exact(DU w sb v _ bs y _ nm b h1 h3 h hu hbs).mono fun e w' q=>q.toK fun Z hb=>(hs.less (P':=fun x=>(P x/\x<w.heap.size)\/(w.heap.size<=x/\¬Z x)) fun x q hl=> .inl ⟨q,hl⟩).keep fun x _ hl=>hb.block x hl
 ·have N2:mk<w.heap.size/\kp<w.heap.size:=by
   obtain⟨_,_,h5⟩:=h4;exact⟨h5.mb.lt,h5.kb.lt⟩
  refine(DV MK w sb kp mk v bs y _ nm b h1 h3 h hu hbs _ h4 (fun x q=>q.1) (fun x q=>⟨q.2.2.2,q.2.2.1⟩) ⟨a5,a4⟩ ⟨fun e=>hu1 (e▸a3),fun e=>hu1 (e▸a2)⟩ ⟨fun e=>hu2 (e▸a3),fun e=>hu2 (e▸a2)⟩).mono fun e w' q=>q.imp fun Z hZ kw hp=> ?_
  have hn:∀x,x≠kp->x≠mk->x<w.heap.size->w'.heap[x]?=w.heap[x]?:=fun x q1 q2 hl=>kw.block x hl (by simp[q1,q2])
  refine⟨v,y,(hn sb a4 a5 h1.lt).trans h1,⟨.inl ⟨a1,h1.lt⟩,.inl ⟨a2,N2.2⟩,.inl ⟨a3,N2.1⟩,a4,a5⟩,(h3.mono (Q:=fun x=>(P x/\x≠sb/\x≠kp/\x≠mk)/\x<w.heap.size) fun x q hl=>⟨q,hl⟩).keep (fun x q hl=>hn x q.1.2.2.1 q.1.2.2.2 hl)|>.mono fun x q _=>⟨.inl ⟨q.1.1,q.2⟩,q.1.2⟩,?_⟩;exact hp.less fun x q _=>q.imp id fun q=>⟨by omega,q.2⟩
end
end Go.Proofs.YtfebdimolnobaaaGreatDoor
