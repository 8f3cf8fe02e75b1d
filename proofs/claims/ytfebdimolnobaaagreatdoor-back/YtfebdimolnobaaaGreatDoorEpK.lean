import Derived.Test.YtfebdimolnobaaaGreatDoorPlK
import Derived.Test.YtfebdimolnobaaaGreatDoorPxF
set_option maxRecDepth 100000
set_option maxHeartbeats 8000000
set_option linter.all false
namespace Go.Proofs.YtfebdimolnobaaaGreatDoor
open Go.RowKit Go.Proofs.Tryz
section
open Vo
def Ra (S:eD)(mp pm:an)(B n:Nat):Prop:=
 ∀(w:aw) (Z:ax) (v:Value) (m:PM) (d:MT) (pb:Nat) (gs:List GF) (k:Nat),tu w B S mp->nR w (λb=>b<B) S mp pm->iN w (λb=>b<B) mp pm gs pb->lH S mp d gs->NG d->gP k w Z v m->pP k m->dZ S n d m=true->(eG S n d m).length<=2^47->
  U8 104 #[ah pb,.agg #[v,ag m.unk]] w (ij (eG S n d m) w)
def SM (S:eD)(mp pm:an)(B n:Nat):Prop:=
 ∀(w:aw) (Z:ax) (v:Value) (m:PM) (d:MT) (pb:Nat) (gs:List GF) (k N b:Nat) (l:ap),tu w B S mp->nR w (λb=>b<B) S mp pm->iN w (λb=>b<B) mp pm gs pb->lH S mp d gs->NG d->gP k w Z v m->(∀i,Z i->i<N)->B<=N->N<=w.heap.size->pP k m->dZ S n d m=true->fH w N b (eE b) l->l.length+(eG S n d m).length<=2^47->
  U8 99 #[ah pb,.agg #[v,ag m.unk],eE b] w (i9 N b l (eG S n d m) w)
section
variable {w:aw} {B n:Nat} {S:eD} {mp pm:an} {d:MT} {f:fo} {g:GF} {x:sC}
def SN (hN:Es S)(ih:Ra S mp pm B n)(cx:tu w B S mp)(Vt:nR w (λb=>b<B) S mp pm)(fg:FG S mp d f g)(hnm:0<=f.num/\f.num<=536870911)(Vr:nG w (λb=>b<B) mp (mo w (λb=>b<B) mp pm) (jd w (λb=>b<B) mp pm) g x):
  ∃cf Vp,L6 x.c5 cf Vp/\∀N,B<=N->N<=w.heap.size->OV (kL S (eG S n) f) (eC S (dZ S n) f) N cf Vp w:=by
 have⟨iq,VI,_,⟨cf,Vp,h1,h2⟩,_⟩:=Vr.enc;refine⟨cf,Vp,h1,λN hB hw=>h2 S d f n N w (λ_ _ _=>rfl) (λb q _=>Vc) hw fg hnm λVJ=> ?_⟩;obtain⟨t,p,gs,q1,rfl,q3,q4⟩:=Cu Vt fg VI VJ;refine⟨t,q1,λW' Z v m k hb hM hO hs hl=> ?_⟩;have Vu:=ed hb hB;exact ih W' Z v m t p gs k (cx.on Vu) (Vt.on Vu) (q3.on Vu) q4 (uO hN q1) hM hO hs hl
def SO (hN:Es S)(ih:Ra S mp pm B n)(ih2:SM S mp pm B n)(cx:tu w B S mp)(Vt:nR w (λb=>b<B) S mp pm)(fg:FG S mp d f g)(hnm:0<=f.num/\f.num<=536870911)(Vr:nG w (λb=>b<B) mp (mo w (λb=>b<B) mp pm) (jd w (λb=>b<B) mp pm) g x):
  ∃cf Vp,L6 x.c6 cf Vp/\∀N,B<=N->N<=w.heap.size->Tj (kL S (eG S n) f) (eC S (dZ S n) f) N cf Vp w:=by
 have⟨iq,VI,_,_,⟨cf,Vp,h1,h2⟩⟩:=Vr.enc;refine⟨cf,Vp,h1,λN hB hw=>h2 S d f n N w (λ_ _ _=>rfl) (λb q _=>Vc) hw fg hnm λVJ=> ?_⟩;obtain⟨t,p,gs,q1,rfl,q3,q4⟩:=Cu Vt fg VI VJ;refine⟨t,q1,λW' Z v m k hb hM hO hs hl=> ?_,λW' Z v m k b l0 hb hM hZ hO hs VY hl=> ?_⟩;.have Vu:=ed hb hB;exact ih W' Z v m t p gs k (cx.on Vu) (Vt.on Vu) (q3.on Vu) q4 (uO hN q1) hM hO hs hl
 .have Vu:=ed hb hB;exact ih2 W' Z v m t p gs k N b l0 (cx.on Vu) (Vt.on Vu) (q3.on Vu) q4 (uO hN q1) hM hZ hB (aM hw hb.size) hO hs VY hl
end
def yO {S:eD}{mp pm:an}{B:Nat}(hN:Es S):∀n,Ra S mp pm B n:=by
 intro n
 induction n with
 |zero=>
  intro w Z v m d pb gs k cx Vt Vz hG VA hM hO hs
  cases hs
 |succ n ih=>
  intro w Z v m d pb gs k cx Vt Vz hG VA hM hO hs hl
  cases k with
  |zero=>exact hM.elim
  |succ k=>
  obtain⟨cs,hr,VK⟩:=hM;obtain⟨a,c,rfl⟩:=hr.form;obtain⟨VZ,V0,VL⟩:=hO;rw[dZ,aQ]at hs;have hX:=λx hx=>yC (x:=x) hs.1 hx
  have⟨B0,K1⟩:=d8 w #[.slice a m.fs.length c,ag m.unk] 49;rw[eG]at hl;unfold ij;rw[eG];rw[aN]at hl⊢;rw[show m.unk.data.toList.length=m.unk.size by simp]at hl⊢
  have HC:Hid (∀(W0 W:aw) (x:PF) (f:fo) (g:GF) (st:sC) (v:Value),ak w W0->Below W0.heap.size W0 W->x∈m.fs->d9 d.fs x.1=some f->FG S mp d f g->nG W0 (λb=>b<B) mp (mo W0 (λb=>b<B) mp pm) (jd W0 (λb=>b<B) mp pm) g st->pO (gP k w Z) w Z v x.2->∃cf Vp,L6 st.c5 cf Vp/\U8 cf (v::Vp).toArray W (ij (ki S (eG S n) d x) W)):=λW0 W x f g st v Vw hW hx Vs fg Vr hv=>by
   have⟨f',q1,q2⟩:=hX x hx;obtain rfl:f=f':=by grind
   have hb:ki S (eG S n) d x=kL S (eG S n) f x.2:=by unfold ki;rw[Vs]
   have VO:(ki S (eG S n) d x).length<=2^47:=aM (wT hx) Vc;rw[hb]at VO⊢;have Vy:=ed Vw cx.le;have⟨cf,Vp,h1,h2⟩:=SN hN ih (cx.on Vy) (Vt.on Vy) fg (VA _ _ Vs) Vr;exact⟨cf,Vp,h1,h2 W0.heap.size (aM cx.le Vw.size) (aE _) W Z v x.2 k hW (pO.G (dU Vw hW) (aE _) hv) (VL x hx) (λv hv=>yD q2 hv) VO⟩
  have HT:Hid (∀i,((m.fs.take i).flatMap (ki S (eG S n) d)).length+m.unk.size<=2^47):=λi=>by
   have:=iW (g:=ki S (eG S n) d) (l:=m.fs) i;omega
  generalize ki S (eG S n) d=bx at*;clear hl hs;have⟨k1,k2⟩:=K1.I;go_enter func104,ntmps104;go_wp2;generalize w.alloc (am #[.slice a m.fs.length c,ag m.unk] 49)=w1 at*;go_loopw [5,7,14] (λsv _ iv wr=>∃i:Nat,iv=aa i/\i<=m.fs.length/\sv=aa (((m.fs.take i).flatMap bx).length+m.unk.size:Nat)/\ak w1 wr) (λ_ _ iv _=>m.fs.length-(intOf iv).toNat)
  case atStart=>exact⟨0,rfl,aP _,Vd,Below.refl _ _⟩
  case round=>
   obtain⟨i,rfl,hi,rfl,Bw⟩:=hrel;clear k1 k2;have BW:=dU B0 Bw;by_cases hlt:i<m.fs.length
   .have⟨x,hx⟩:=gx hlt;have⟨vv,p1,p2,p3⟩:=VK.get hx;obtain⟨va,vc,rfl⟩:=p1.form;obtain⟨g0,rfl,VB,Vx,Vq⟩:=hr.at Vc;have t0:=Vq wr (BW.block _ Vx) _ _ p2;have t1:=lI (Vq wr (BW.block _ Vx) _ _ p3);have⟨B1,K5⟩:=d8 wr #[aa x.1,.slice va x.2.length vc] 58;have B2:=dU BW B1;have VS:=dU Bw B1;have Vv:=aL hx;have⟨f,Vs,_⟩:=hX x Vv;have⟨g,hg,fg⟩:=hG.yes _ _ Vs;have HF:=tI _ (λb=>b<B) mp pm gs pb x.1 (Vz.on (ed B2.drew cx.le)) hG.srt hG.len;unfold Ct at HF;rw[hg]at HF;have HZ:=λW st hW Vr=>HC.o _ W x f g st _ B2.drew hW Vv Vs fg Vr p1
    have hT:=HT.o (i+1);rw[gd hx,aN]at hT;have HS:Hid (((m.fs.take (i+1)).flatMap bx).length+m.unk.size=((m.fs.take i).flatMap bx).length+m.unk.size+(bx x).length):=(by show((m.fs.take (i+1)).flatMap bx).length+m.unk.size=_;rw[gd hx,aN];omega);have VP:((m.fs.take i).flatMap bx).length+m.unk.size+(bx x).length<=2^47:=Vc;generalize((m.fs.take i).flatMap bx).length+m.unk.size=sz at*;have VT:(i:Int)<(m.fs.length:Int):=Vc;have hsum:IntKind.i64.wrap ((sz:Int)+((bx x).length:Int))=(sz:Int)+((bx x).length:Int):=yE Vc Vc;clear Vq p2 p3 B1 hx hg Vs hT;go_upto_region 5 with fail
    generalize wr.alloc (am #[aa x.1,.slice va x.2.length vc] 58)=w2 at*;generalize wr.heap.size=vb at*;have hW:w2.drew.cell? (aj vb 0)=some (aa x.1)/\w2.drew.cell? (aj vb 1)=some (.slice va x.2.length vc):=⟨K5.drew.cell 0,K5.drew.cell 1⟩;obtain⟨r0,r1⟩:=hW
    go_region_with
     (first
      |(
        go_at_call 141;refine HF.V ?_;rintro e w3 ⟨⟨gb,j,st,rfl,V7,VM,Vr,hc⟩,b3⟩;have⟨cf,Vp,⟨e5,V8⟩,HL⟩:=HZ w3 st b3 Vr;have c5:=hc w3 (b3.block gb VM) 5 _ rfl;rw[e5]at c5;have VF:=K5.drew.G b3 K5.drew.lt;have r3:=VF.cell 1
        simp only[cE,co,cp]at r3)
      |(
        refine HL.V ?_
        rintro e w4 ⟨rfl,b4⟩))
    all_goals
     go_wp2;go_roundw
     case rel=>exact⟨i+1,by go_num,Vc,by rw[HS.o,dE],dU VS.drew (dU b3 b4)⟩
     case measure=>simp[intOf];omega
   .obtain rfl:i=m.fs.length:=Vc;rw[bB];go_wp2;go_ret;exact⟨rfl,BW⟩
def Gk {S:eD}{mp pm:an}{B:Nat}(hN:Es S):∀n,SM S mp pm B n:=by
 intro n
 induction n with
 |zero=>
  intro w Z v m d pb gs k N b l cx Vt Vz hG VA hM hZ VD VE hO hs
  cases hs
 |succ n ih=>
  intro w Z v m d pb gs k N b l cx Vt Vz hG VA hM hZ VD VE hO hs hW hl
  cases k with
  |zero=>exact hM.elim
  |succ k=>
  obtain⟨cs,hr,VK⟩:=hM;obtain⟨a,c,rfl⟩:=hr.form;obtain⟨VZ,V0,VL⟩:=hO;rw[dZ,aQ]at hs;have hX:=λx hx=>yC (x:=x) hs.1 hx
  have⟨B0,K1⟩:=d8 w #[.slice a m.fs.length c,ag m.unk] 49;have W0:=Wr.of B0 VE;have Vw:=hW.on B0;rw[eG]at hl⊢;rw[aN]at hl
  have HC:Hid (∀(W0 W:aw) (x:PF) (f:fo) (g:GF) (st:sC) (v:Value) (l2:ap),Below N w W0->Below N W0 W->x∈m.fs->d9 d.fs x.1=some f->FG S mp d f g->nG W0 (λb=>b<B) mp (mo W0 (λb=>b<B) mp pm) (jd W0 (λb=>b<B) mp pm) g st->pO (gP k w Z) w Z v x.2->l2.length+(ki S (eG S n) d x).length<=2^47->∃cf Vp,L6 st.c6 cf Vp/\(fH W N b (eE b) l2->U8 cf (v::eE b::Vp).toArray W (i9 N b l2 (ki S (eG S n) d x) W))):=λW0 W x f g st v l2 Vw hW hx Vs fg Vr hv VR=>by
   have⟨f',q1,q2⟩:=hX x hx;obtain rfl:f=f':=by grind
   have hb:ki S (eG S n) d x=kL S (eG S n) f x.2:=by unfold ki;rw[Vs]
   rw[hb]at VR⊢;have Vy:=ed Vw VD;have⟨cf,Vp,h1,h2⟩:=SO hN (yO hN n) ih (cx.on Vy) (Vt.on Vy) fg (VA _ _ Vs) Vr;exact⟨cf,Vp,h1,λhw=>h2 N VD (aM VE Vw.size) W Z v x.2 k b l2 hW (hv.under (Vw.J hW) hZ) hZ (VL x hx) (λv hv=>yD q2 hv) hw VR⟩
  have HT:Hid (∀i,l.length+((m.fs.take i).flatMap (ki S (eG S n) d)).length+m.unk.data.toList.length<=2^47):=λi=>by
   have:=iW (g:=ki S (eG S n) d) (l:=m.fs) i;omega
  generalize ki S (eG S n) d=bx at*;clear hl hs;have⟨k1,k2⟩:=K1.I;go_enter func99,ntmps99;go_wp2;generalize w.alloc (am #[.slice a m.fs.length c,ag m.unk] 49)=w1 at*;go_loopw [7,11] (λ_ iv wr=>∃i:Nat,iv=aa i/\i<=m.fs.length/\fH wr N b (eE b) (l++(m.fs.take i).flatMap bx)/\Wr N w1 wr) (λ_ iv _=>m.fs.length-(intOf iv).toNat)
  case atStart=>exact⟨0,rfl,aP _,by grind,Wr.refl _ _⟩
  case round=>
   obtain⟨i,rfl,hi,VN,Wi⟩:=hrel;clear k1 k2;have WI:=W0.J Wi;have hsz:=WI.bel.size;by_cases hlt:i<m.fs.length
   .have⟨x,hx⟩:=gx hlt;have⟨vv,p1,p2,p3⟩:=VK.get hx;obtain⟨va,vc,rfl⟩:=p1.form;obtain⟨g0,rfl,VB,Vx,Vq⟩:=hr.at Vc;have VG:=WI.bel.block _ (hZ _ VB);have t0:=Vq wr VG _ _ p2;have t1:=lI (Vq wr VG _ _ p3);have⟨B1,K5⟩:=d8 wr #[aa x.1,.slice va x.2.length vc] 58;have VC:=Wi.J (Wr.of B1 Vc);have VH:=W0.J VC;have VU:=VN.on B1.drew;have Vv:=aL hx;have⟨f,Vs,_⟩:=hX x Vv;have⟨g,hg,fg⟩:=hG.yes _ _ Vs;have HF:=tI _ (λb=>b<B) mp pm gs pb x.1 (Vz.on (ed VH.bel.drew VD)) hG.srt hG.len;unfold Ct at HF;rw[hg]at HF;have hT:=HT.o (i+1);rw[gd hx,aN]at hT;have VP:(l++(m.fs.take i).flatMap bx).length+(bx x).length<=2^47:=by grind
    have HZ:=λW st hW Vr=>HC.o _ W x f g st _ _ VH.bel.drew hW Vv Vs fg Vr p1 VP
    have HS:Hid (l++(m.fs.take (i+1)).flatMap bx=l++(m.fs.take i).flatMap bx++bx x):=(by show l++(m.fs.take (i+1)).flatMap bx=_;rw[gd hx,bj]);generalize l++(m.fs.take i).flatMap bx=li at*;have VT:(i:Int)<(m.fs.length:Int):=Vc;have VV:=VH.bel.size;clear Vq p2 p3 hx hg Vs hT VG;go_upto_region 4 with fail
    generalize wr.alloc (am #[aa x.1,.slice va x.2.length vc] 58)=w2 at*;generalize wr.heap.size=vb at*;have hC:w2.drew.cell? (aj vb 0)=some (aa x.1)/\w2.drew.cell? (aj vb 1)=some (.slice va x.2.length vc):=⟨K5.drew.cell 0,K5.drew.cell 1⟩;obtain⟨r0,r1⟩:=hC;have VQ:N<=w2.drew.heap.size:=aM VE VV
    go_region_with
     (first
      |(
        go_at_call 141;refine HF.V ?_;rintro e w3 ⟨⟨gb,j,st,rfl,V7,VM,Vr,hc⟩,b3⟩;have⟨cf,Vp,⟨e6,V8⟩,HL⟩:=HZ w3 st (ed b3 VQ) Vr;have c6:=hc w3 (b3.block gb VM) 6 _ rfl;rw[e6]at c6;have VF:=K5.drew.G b3 K5.drew.lt;have VW:=HL (VU.on b3);have r3:=VF.cell 1
        simp only[cE,co,cp]at r3)
      |(
        refine VW.V ?_;rintro e w4 ⟨rfl,q1,q2⟩
        have VX:Wr N w1 w4:=⟨(VC.bel.drew.J (ed b3 VQ)).J q2.bel,λi cs T h1 h2 h=>q2.fr i cs T h1 h2 ((VC.fr i cs T h1 h2 h).drew.G b3 (VC.fr i cs T h1 h2 h).lt)⟩))
    all_goals
     go_wp2;go_roundw
     case rel=>exact⟨i+1,by go_num,Vc,by rw[HS.o];exact q1,VX⟩
     case measure=>simp[intOf];omega
   .obtain rfl:i=m.fs.length:=Vc;have hT:=HT.o m.fs.length;rw[bB]at VN hT;have K2:=Wi.fr _ _ _ Vf Vf K1;have⟨k3,k4⟩:=K2.I;have HR:=uL m.unk VN (by grind) Vc;go_wp2_with fail;refine HR.V ?_;rintro e w3 ⟨rfl,q1,q2⟩;go_wp2;go_end0;exact⟨rfl,by grind,WI.J q2⟩
section
variable {S:eD} {mp pm:an} {B:Nat}
def yS (hN:Es S)(w:aw)(Z:ax)(v:Value)(m:PM)(d:MT)(pb:Nat)(gs:List GF)(k:Nat)(cx:tu w B S mp)(hpc:nR w (λb=>b<B) S mp pm)(hpl:iN w (λb=>b<B) mp pm gs pb)(hG:lH S mp d gs)(hnd:NG d)(hM:gP k w Z v m)(hO:pP k m)(hl:(eG S 8 d m).length<=2^47):
  Calls prog 59 #[ah pb,.agg #[v,ag m.unk]] w (kU (dZ S 8 d m) (aa (eG S 8 d m).length) w):=by
 obtain⟨a,c,rfl⟩:=hM.form;have⟨B0,K1⟩:=d8 w #[.slice a m.fs.length c,ag m.unk] 49;have HC:=Mp (S:=S) (mp:=mp) (pm:=pm) (B:=B) 8 _ Z _ m d pb gs 1 k (cx.on (ed B0 cx.le)) (hpc.on (ed B0 cx.le)) (hpl.on (ed B0 cx.le)) hG (hM.G B0 (aE _)) hO rfl
 have HZ:Hid (∀W,ak w W->dZ S 8 d m=true->U8 104 #[ah pb,.agg #[.slice a m.fs.length c,ag m.unk]] W (ij (eG S 8 d m) W)):=λW hW hs=>
  yO hN 8 W Z _ m d pb gs k (cx.on (ed hW cx.le)) (hpc.on (ed hW cx.le)) (hpl.on (ed hW cx.le)) hG hnd (hM.G hW (aE _)) hO hs hl
 generalize eG S 8 d m=y at*;generalize dZ S 8 d m=ok at*;have⟨k1,k2⟩:=K1.I;go_in
 go_wp2_with fail;refine HC.V ?_;intro e w2 hr;generalize w.alloc (am #[.slice a m.fs.length c,ag m.unk] 49)=w1 at*;rcases hr.part with⟨rfl,rfl,b2⟩|⟨rfl,y,z,rfl,b2⟩;.have K2:=K1.G b2 K1.lt;clear k1 k2;have⟨k1,k2⟩:=K2.I;have B2:=dU B0 b2;go_wp2_with fail;refine(HZ.o w2 B2 trivial).V ?_;rintro e w3 ⟨rfl,b3⟩;go_wp2;go_ret;exact kU.ok (dU B2 b3)
 .unfold dY;go_wp2;exact⟨rfl,kU.no (dU B0 b2)⟩
def Mq (hN:Es S)(w:aw)(Z:ax)(v:Value)(m:PM)(d:MT)(pb:Nat)(gs:List GF)(k:Nat)(cx:tu w B S mp)(hpc:nR w (λb=>b<B) S mp pm)(hpl:iN w (λb=>b<B) mp pm gs pb)(hG:lH S mp d gs)(hnd:NG d)(hM:gP k w Z v m)(hO:pP k m)(hl:(eG S 8 d m).length<=2^47):
  Calls prog 55 #[ah pb,.agg #[v,ag m.unk]] w (kU (dZ S 8 d m) (ag ⟨(eG S 8 d m).toArray⟩) w):=by
 obtain⟨a,c,rfl⟩:=hM.form;have⟨B0,K1⟩:=d8 w #[.slice a m.fs.length c,ag m.unk] 49;have HC:=yS hN _ Z _ m d pb gs k (cx.on (ed B0 cx.le)) (hpc.on (ed B0 cx.le)) (hpl.on (ed B0 cx.le)) hG hnd (hM.G B0 (aE _)) hO hl;have Vp:=hM.V (Y:=λb=>b<w.heap.size) λ_ _ q=>q
 have HW:Hid (∀W N b,ak w W->w.heap.size<=N->N<=W.heap.size->dZ S 8 d m=true->fH W N b (eE b) []->U8 99 #[ah pb,.agg #[.slice a m.fs.length c,ag m.unk],eE b] W (i9 N b [] (eG S 8 d m) W)):=λW N b hW hN1 Vq hs hw=>
  Gk hN 8 W _ _ m d pb gs k N b [] (cx.on (ed hW cx.le)) (hpc.on (ed hW cx.le)) (hpl.on (ed hW cx.le)) hG hnd (Vp.G hW (aE _)) (λi q=>Vc) (by have:=cx.le;omega) Vq hO hs hw (by simpa using hl)
 generalize eG S 8 d m=y at*;generalize dZ S 8 d m=ok at*;have⟨k1,k2⟩:=K1.I;have hs1:w.heap.size+1=(w.alloc (am #[.slice a m.fs.length c,ag m.unk] 49)).heap.size:=Vd;go_in
 go_wp2_with fail;refine HC.V ?_;intro e w2 hr;generalize w.alloc (am #[.slice a m.fs.length c,ag m.unk] 49)=w1 at*;rcases hr.part with⟨rfl,rfl,b2⟩|⟨rfl,y,z,rfl,b2⟩;.have hs2:=b2.size;go_wp2_with fail;refine(vE (B:=w.heap.size+1) y.length hl Vc).V ?_;rintro e w3 ⟨b,rfl,hb,Vr,b3⟩;have K3:dX w3 w.heap.size _ _:=(b3.block _ Vc).J (K1.G b2 K1.lt);have hs3:=b3.size;have B3:ak w w3:=(dU B0 b2).J (ed b3 Vc);clear k1 k2;have⟨k1,k2⟩:=K3.I;go_wp2_with fail;refine(HW.o w3 (w.heap.size+1) b B3 Vc Vc trivial Vr).V ?_;rintro e w4 ⟨rfl,q1,q2⟩;rw[aX]at q1;have hs4:=q2.bel.size;go_wp2_with fail;refine(AM q1 Vc).V ?_;rintro e w5 ⟨rfl,b5⟩;go_wp2;go_ret;exact kU.ok (B3.J (ed (q2.bel.J b5) Vc))
 .unfold dY;go_wp2;exact⟨rfl,kU.no (dU B0 b2)⟩
end
end
def NM (L:List (List F3))(n:Nat):List (Option (Nat×List F3)):=none::(List.range n).map λi=>some (i,(L[i]?).getD [])
def PE:Option (Nat×List F3)->List rA
 |none=> [[101,110,117,109],[69],[123],[65],[61],[48],[59],[125]]
 |some x=>PB x.1 x.2
def wj:Option (Nat×List F3)->d7->Prop
 |none,b=>∃p q r,b=⟨true,(bl [69],p),[],[((bl [65],q),(bl [48],r))]⟩
 |some x,b=>∃p ps,b=⟨false,(bl (77::gr x.1),p),ps,[]⟩/\kG (Da x.2) (iF x.2) ps
def Nl (L:List (List F3)):∀n,Se L n=(NM L n).flatMap PE
 |0=>rfl
 |n+1=>by
  rw[Se,Nl L n];unfold NM;rw[List.range_succ];simp[PE]
section
variable {ws:List W} {L:List (List F3)}
def S2 {fs:List F3}:∀x∈iF fs,NL fs x≠ []:=by
 intro x hx;rcases aW.1 hx with hx|hx
 .obtain⟨⟨k,f⟩,hx1,rfl⟩:=aR.1 hx;have h3:¬f.2.1=3:=by simpa [sE]using(bA.1 hx1).2
  show JN k f≠ [];unfold JN C9;split<;>(try split)<;>(try split)<;>simp_all
 .split at hx;.cases hx
  .obtain rfl:=ba.1 hx;simp[NL]
def Nm (h:CG L):∀x∈NM L L.length,∀i l,Tk ws i (PE x++l)->oC ws i=false/\∃a,jT ws i= .ok (a,i+(PE x).length)/\wj x a:=by
 intro x hx i l ht
 have Vp:∀{y l},Tk ws i (y::l)->qM y≠4->oC ws i=false:=λt hy=>by
  have⟨p,e,_⟩:=t.step;unfold oC;rw[e];simp only;rw[iY];simpa using hy
 rcases aS.1 hx with rfl|hx
 .have ht:Tk ws i ([101,110,117,109]:: [69]:: [123]::([[65],[61],[48],[59]]++ [125]::l)):=ht;refine⟨Vp ht Vg,?_⟩;have⟨e1,t1⟩:=ht.skip;have⟨p,e2,t2⟩:=t1.kind (k:=1) ((iY _).J Vi);have⟨e3,t3⟩:=t2.skip
  have⟨vs,e4,hv⟩:=tX (ws:=ws) (stop:=gk ws [125]) (p:=kW ws) (F:=λ_:Unit=> [[65],[61],[48],[59]]) (R:=λ_ v=>∃q r,v=((bl [65],q),(bl [48],r))) (e:= [125]::l) (λi h=>by rw[h.txt];rfl) [()] (λ_ _ i l t=>by
   have t:Tk ws i ([65]:: [61]:: [48]:: [59]::l):=t;have t0:=t;have⟨q,e1,t1⟩:=t.kind (k:=1) ((iY _).J Vi);have⟨e2,t2⟩:=t1.skip;have⟨r,e3,t3⟩:=t2.kind (k:=2) ((iY _).J Vi);have⟨e4,t4⟩:=t3.skip
   exact⟨by rw[t0.txt];rfl,_,by unfold kW;rw[e1];simp only[gM];simp_all,q,r,rfl⟩) ws.length _ (by have:=t3.len;grind) t3
  have⟨e5,_⟩:=Tk.skip (Tk.app (a:= [[65],[61],[48],[59]]) t3);have e5:gu ws [125] (i+1+1+1+4)= .ok ((),i+1+1+1+4+1):=e5;have e4:gI (gk ws [125]) (kW ws) ws.length (i+1+1+1)= .ok (vs,i+1+1+1+4):=e4
  match vs,hv,e4 with
  | [v],hv,e4=>
   obtain⟨⟨q,r,rfl⟩,_⟩:=hv;refine⟨_,?_,p,q,r,rfl⟩;unfold jT;rw[ht.txt];simp only[beq_self_eq_true,if_true];unfold lV;rw[e1];simp only[gM];rw[e2];simp only;rw[e3];simp only;rw[e4];simp only;rw[e5];rfl
 .obtain⟨k,hk,rfl⟩:=aR.1 hx;have hk:=List.mem_range.1 hk;rw[aO hk]at ht⊢;have⟨f1,f2⟩:=h.few;have⟨_,h7,hf⟩:=h.fs _ (List.getElem_mem hk);generalize L[k]=fs at*;have ht:Tk ws i (PB k fs++l):=ht;show _/\∃a,_=Except.ok (a,i+(PB k fs).length)/\∃p ps,_/\kG (Da fs) (iF fs) ps;rw[RO]at ht⊢;have ht:Tk ws i ([109,101,115,115,97,103,101]::(77::gr k):: [123]::(((iF fs).flatMap (NL fs)++ [[125]])++l)):=ht;refine⟨Vp ht Vg,?_⟩;have Vq:∀k:Fin 3,qM (77::gr k.val)=1:=Vg;have⟨e1,t1⟩:=ht.skip;have⟨p,e2,t2⟩:=t1.kind (k:=1) ((iY _).J (Vq ⟨k,Vc⟩));have⟨e3,t3⟩:=t2.skip;rw[bj]at t3;have hl:=t3.len;have Vr:=rC (F:=NL fs) (iF fs) S2;have⟨ps,e4,Vs⟩:=tX (stop:=gk ws [125]) (p:=kA ws) (F:=NL fs) (R:=Da fs) (e:= [125]::l) (λi h=>by rw[h.txt];rfl) (iF fs) (PD f2 hf h7) ws.length _ (by grind) t3;have⟨e5,_⟩:=Tk.skip t3.app;refine⟨_,?_,p,ps,rfl,Vs⟩;unfold jT;rw[ht.txt];have:(([109,101,115,115,97,103,101]:ap)== [101,110,117,109])=false:=rfl;rw[this];simp only[aU,if_false];unfold ia;rw[e1];simp only[gM];grind
def PG (h:CG L):∃bs j,pZ (fO (qK L))= .ok (bs,j)/\kG wj (NM L L.length) bs:=by
 have ht:Tk (fO (qK L)) 0 ((NM L L.length).flatMap PE++ [[]]):=(by unfold Tk;rw[List.drop_zero,RN h,Nl]);have hl:=ht.len
 have Vr:=rC (F:=PE) (NM L L.length) (λx hx=>by
  rcases aS.1 hx with rfl|hx;.simp[PE]
  .obtain⟨k,_,rfl⟩:=aR.1 hx
   simp[PE,PB])
 have⟨bs,e,hb⟩:=tX (ws:=fO (qK L)) (stop:=oC (fO (qK L))) (p:=jT (fO (qK L))) (F:=PE) (R:=wj) (e:= [[]]) (λi t=>by
  have⟨p,e,_⟩:=Tk.step t;unfold oC;rw[e]
  rfl) (NM L L.length) (Nm h) (fO (qK L)).length 0 (by grind) ht
 exact⟨bs,_,e,hb⟩
end
def Nn (x:Nat×F3):rA:=102::gr x.1
def GK:∀a b:Fin 7,(102::gr a.val)=(102::gr b.val)->a=b:=Vg
def PH:∀k:Fin 7,jc (bl (gr (k.val+1)))=k.val+1:=Vg
def No (N:List rA)(x:rA):fi (N.map bl) (bl x)=N.contains x:=by
 unfold fi;rw[List.any_map,List.contains_eq_any_beq];congr 1;funext y;simp only[Function.comp,zA];rw[Bool.beq_comm]
def tZ {N:List rA}{x:rA}(hx:x∉N)(hs:x.length<=20):iR (N.map bl) (bl x)=false:=by
 unfold iR;rw[No,fR];simp_all
def T7:∀t:Fin 19,qM (gG t.val)=1->(t.val=15/\gG t.val= [69])\/(15<t.val/\gG t.val=77::gr (t.val-16)):=Vg
def RP:∀k∈iu,qM (gG k)=3/\(!(gG k== [102,108,111,97,116])&&(!(gG k== [100,111,117,98,108,101])&& !(gG k== [98,121,116,101,115])))=true:=Vg
def Np (n:Nat):List rA:= [69]::(List.range n).map λi=>77::gr i
section
variable {n:Nat} {N:List rA} {M:aB} {fs:List F3}
def EX (hn:n<=3){k:Nat}{f:F3}{fm:Int}{r:eU}(h:wi k f fm r)(hF:IA n f)(hk:k<7)(hN:(102::gr k)∉N)(hM:k+1∉M)(hl:M.length<12):
  nT ((Np n).map bl) (N.map bl) M r= .ok ((N++ [102::gr k]).map bl,M++ [k+1]):=by
 have Vq:f.1<19:=by have:=hF.1;omega
 unfold nT vk kH;rw[h.form,h.type,h.name,h.num,PH ⟨k,hk⟩]
 have Vp:(fm==4&& !ig (mU r.key) (jK r.key))=false:=by
  by_cases h4:fm=4
  .have e:=h.key;rw[dP h4]at e
   cases hrk:r.key with
   |none=>simp_all
   |some x=>
    rw[hrk]at e;have e:x.1=bl (gG f.2.2):=by simp_all
    have⟨k1,k2⟩:=RP _ hF.2.2.1;unfold mU jK ig;simp only[e,zA];rw[iY,k1,k2];simp
  simp_all
 have Vr:pi ((Np n).map bl) (dV (bl (gG f.1))) (bl (gG f.1))=false:=by
  unfold pi;rw[No,fR,iY];by_cases q:qM (gG f.1)=1
  .have hw:=ro Vq
   have hm:gG f.1∈Np n:=by
    have hlt:=hF.1;rcases T7 ⟨f.1,Vq⟩ q with⟨_,e⟩|⟨g,e⟩;.rw[show gG f.1= [69]from e];exact aZ
    .refine aY _ (aR.2 ⟨f.1-16,List.mem_range.2 ?_,e.sy⟩);grind
   grind
  .simp[q]
 have Vs:pj M (k+1)=false:=(by unfold pj Bp;grind);rw[Vp,Vr,tZ hN (by simp[dig_len]),Vs];simp_all
def ID (hn:n<=3){g:Nat×F3->Int}:∀(xs:List (Nat×F3)) (rs:List eU) (N:List rA) (M:aB),kG (λx r=>wi x.1 x.2 (g x) r) xs rs->(∀x∈xs,x.1<7/\IA n x.2/\Nn x∉N/\x.1+1∉M)->(xs.map (·.1)).Nodup->M.length+xs.length<=12->
  gy ((Np n).map bl) (N.map bl) M rs= .ok ((N++xs.map Nn).map bl,M++xs.map λx=>x.1+1)
 | [],[],N,M,_,_,_,_=>by simp[gy]
 | [],_::_,_,_,h,_,_,_=>h.elim
 |_::_,[],_,_,h,_,_,_=>h.elim
 |x::xs,r::rs,N,M,h,hx,hd,hl=>by
  simp only[bw]at hl;simp only[bK,List.nodup_cons]at hd;have⟨q1,q2,q3,q4⟩:=hx x Vd;rw[gy,EX hn h.1 q2 q1 q3 q4 Vc];simp only
  rw[ID hn xs rs (N++ [102::gr x.1]) (M++ [x.1+1]) h.2 (λy hy=>by
   have⟨p1,p2,p3,p4⟩:=hx y (aY _ hy);have Vt:x.1≠y.1:=λe=>hd.1 (aR.2 ⟨y,hy,e.sy⟩)
   refine⟨p1,p2,λh=> ?_,λh=> ?_⟩
   .rcases aW.1 h with h|h;.exact p3 h
    .have:=GK ⟨y.1,p1⟩ ⟨x.1,q1⟩ (ba.1 h);simp_all
   simp_all) hd.2 (by grind)]
  simp[Nn]
def IE (hn:n<=3)(rest:List fI):∀(xs:List (Nat×F3)) (ps:List fI) (N:List rA) (M:aB),kG (Da fs) (xs.map some) ps->(∀x∈xs,x.1<7/\IA n x.2/\Nn x∉N/\x.1+1∉M)->(xs.map (·.1)).Nodup->M.length+xs.length<=12->
  gQ ((Np n).map bl) (N.map bl) M (ps++rest)=gQ ((Np n).map bl) ((N++xs.map Nn).map bl) (M++xs.map λx=>x.1+1) rest
 | [],[],N,M,_,_,_,_=>Vd
 | [],_::_,_,_,h,_,_,_=>h.elim
 |_::_,[],_,_,h,_,_,_=>h.elim
 |x::xs,p::ps,N,M,h,hx,hd,hl=>by
  simp only[bw]at hl;simp only[bK,List.nodup_cons]at hd;have⟨q1,q2,q3,q4⟩:=hx x Vd;obtain⟨⟨r,rfl,hr⟩,h2⟩:=h;rw[bo,gQ];have e:m9 ((Np n).map bl) (N.map bl) M ⟨none,[r]⟩= .ok ((N++ [102::gr x.1]).map bl,M++ [x.1+1]):=(by rw[m9,show(mU ((⟨none,[r]⟩:fI).oneof)==1)=false from rfl];simp only[aU,if_false];rw[gy,EX hn hr q2 q1 q3 q4 Vc];rfl);rw[e];simp only
  rw[IE hn rest xs ps (N++ [102::gr x.1]) (M++ [x.1+1]) h2 (λy hy=>by
   have⟨p1,p2,p3,p4⟩:=hx y (aY _ hy);have Vt:x.1≠y.1:=λe=>hd.1 (aR.2 ⟨y,hy,e.sy⟩)
   refine⟨p1,p2,λh=> ?_,λh=> ?_⟩
   .rcases aW.1 h with h|h;.exact p3 h
    .have:=GK ⟨y.1,p1⟩ ⟨x.1,q1⟩ (ba.1 h);simp_all
   simp_all) hd.2 (by grind)]
  simp[Nn]
end
def kG.app {α β:Type}{R:β->α->Prop}:∀{xs ys:List β} {l:List α},kG R (xs++ys) l->∃a b,l=a++b/\kG R xs a/\kG R ys b
 | [],_,l,h=>⟨[],l,rfl,trivial,h⟩
 |_::_,_,[],h=>h.elim
 |x::xs,ys,y::l,h=>by
  have⟨a,b,e,h1,h2⟩:=kG.app h.2;exact⟨y::a,b,by rw[e];rfl,⟨h.1,h1⟩,h2⟩
def PI (fs:List F3)(n:Nat):(zG fs n).map (·.1)=List.range n:=by
 unfold zG;rw[bJ];exact List.map_id'' (λ_=>rfl) _
def Bh (fs:List F3)(q:Nat×F3->Bool):(((zG fs fs.length).filter q).map (·.1)).Nodup:=by
 have h:(((zG fs fs.length).filter q).map (·.1)).Sublist ((zG fs fs.length).map (·.1)):=List.filter_sublist.map _;rw[PI]at h;grind
def RQ {n:Nat}(hn:n<=3){fs:List F3}(hf:∀f∈fs,IA n f)(h7:fs.length<=7){ps:List fI}(h:kG (Da fs) (iF fs) ps):∃r,gQ ((Np n).map bl) [] [] ps= .ok r:=by
 have hm:∀q,∀x∈(zG fs fs.length).filter q,x.1<7/\IA n x.2:=λq x hx=>by
  have⟨h1,h2,_⟩:=tY (bA.1 hx).1 (aE _);grind
 have hlen:∀q,((zG fs fs.length).filter q).length<=7:=λq=>by
  have:=bZ q (zG fs fs.length);have e:(zG fs fs.length).length=fs.length:=by unfold zG;simp
  omega
 have hsum:(nL fs).length+(ones fs).length<=7:=by
  have e:(zG fs fs.length).length=fs.length:=by unfold zG;simp
  have:=List.length_eq_countP_add_countP sE (l:=zG fs fs.length);rw[List.countP_eq_length_filter,List.countP_eq_length_filter]at this;unfold nL ones;grind
 unfold iF at h;obtain⟨a,b,rfl,h1,h2⟩:=h.app;have:=IE hn b (nL fs) a [] [] h1 (λx hx=>⟨(hm _ x hx).1,(hm _ x hx).2,Vd,Vd⟩) (Bh fs _) (by(simp;omega));rw[show([]:aA)=([]:List rA).map bl from rfl,this];by_cases ho:ones fs= []
 .rw[dP ho]at h2
  match b,h2 with
  | [],_=>exact⟨_,rfl⟩
 .rw[dO ho]at h2
  match b,h2 with
  | [p],h2=>
   obtain⟨⟨o,rs,rfl,Vw⟩,_⟩:=h2;rw[gQ];have hk:(mU (some (bl [111],o))==1)=true:=(by show(dV (bl [111])==1)=true;rw[iY];rfl)
   have Vu:([111]:rA)∉([]++(nL fs).map Nn):=λq=>by
    have⟨x,_,e⟩:=aR.1 q;cases e
   have hdis:∀x∈ones fs,∀y∈nL fs,x.1≠y.1:=λx hx y hy e=>by
    have⟨x1,x2⟩:=bA.1 hx;have⟨y1,y2⟩:=bA.1 hy;have ex:=(tY x1 (aE _)).2.2;have ey:=(tY y1 (aE _)).2.2;grind
   unfold m9;rw[dP hk];simp only;rw[show jK (some (bl [111],o))=bl [111]from rfl,tZ Vu Vf];simp only[aU,if_false];have e:([]++(nL fs).map Nn).map bl++ [bl [111]]=(([]++(nL fs).map Nn)++ [[111]]).map bl:=Vd
   have hA:∀x∈ones fs,x.1<7/\IA n x.2/\Nn x∉([]++(nL fs).map Nn)++ [[111]]/\x.1+1∉ []++(nL fs).map λx=>x.1+1:=λx hx=>by
    refine⟨(hm _ x hx).1,(hm _ x hx).2,λq=> ?_,λq=> ?_⟩
    .rcases aW.1 q with q|q;.have⟨y,hy,e⟩:=aR.1 q;have:=GK ⟨y.1,(hm _ y hy).1⟩ ⟨x.1,(hm _ x hx).1⟩ e;grind
     .cases ba.1 q
    grind
   rw[e,ID hn (g:=λ_=>3) (ones fs) rs _ _ Vw hA (Bh fs _) (by grind)];exact⟨_,rfl⟩
def IF {n:Nat}(hn:n<=3):∀(xs:List (Nat×List F3)) (bs:List d7) (N:List rA) (m:Nat),kG wj (xs.map some) bs->(∀x∈xs,x.1<3/\x.2.length<=7/\(∀f∈x.2,IA n f)/\(77::gr x.1)∉N)->(xs.map (·.1)).Nodup->m+xs.length<=3->∃r,fP ((Np n).map bl) (N.map bl) m bs= .ok r
 | [],[],_,_,_,_,_,_=>⟨_,rfl⟩
 | [],_::_,_,_,h,_,_,_=>h.elim
 |_::_,[],_,_,h,_,_,_=>h.elim
 |x::xs,b::bs,N,m,h,hx,hd,hl=>by
  simp only[bw]at hl;simp only[bK,List.nodup_cons]at hd;have⟨q1,q2,q3,q4⟩:=hx x Vd;obtain⟨⟨p,ps,rfl,Vx⟩,h2⟩:=h;have⟨r,hr⟩:=RQ hn q3 q2 Vx;rw[fP];simp only;rw[tZ q4 (by simp[dig_len])];simp only[aU,if_false];rw[dO (by grind),hr];simp only;rw[show N.map bl++ [bl (77::gr x.1)]=(N++ [77::gr x.1]).map bl by simp];have hi:∀a b:Fin 3,(77::gr a.val)=(77::gr b.val)->a=b:=Vg
  exact IF hn xs bs _ (m+1) h2 (λy hy=>by
   have⟨p1,p2,p3,p4⟩:=hx y (aY _ hy);refine⟨p1,p2,p3,λh=> ?_⟩;rcases aW.1 h with h|h;.exact p4 h
   .have:=hi ⟨y.1,p1⟩ ⟨x.1,q1⟩ (ba.1 h)
    grind) hd.2 Vc
def GL {L:List (List F3)}(h:CG L)(hz:(qK L).size<=2000):∃bs,iS (qK L)= .ok bs/\kG wj (NM L L.length) bs:=by
 have⟨bs,j,e,hb⟩:=PG h;refine⟨bs,?_,hb⟩;have⟨f1,f2⟩:=h.few;unfold iS;rw[dO Vc,e];simp only
 match bs,hb with
 |b::bs,hb=>
  obtain⟨⟨p,q,r,rfl⟩,hb⟩:=hb
  have Vv:∀(xs:List (Nat×List F3)) (bs:List d7),kG wj (xs.map some) bs->fJ bs=(xs.map λx=>77::gr x.1).map bl:=λxs=>by
   induction xs with
   |nil=>intro bs h;match bs,h with| [],_=>rfl
   |cons x xs ih=>
    intro bs h
    match bs,h with
    |b::bs,h=>
     obtain⟨⟨p,ps,rfl,_⟩,h2⟩:=h;show _::fJ bs=_;simp_all
  have hb:kG wj ((((List.range L.length).map λi=>(i,(L[i]?).getD []))).map some) bs:=by rw[bJ];exact hb
  have en:fJ (⟨true,(bl [69],p),[],[((bl [65],q),(bl [48],r))]⟩::bs)=(Np L.length).map bl:=(by show bl [69]::fJ bs=_;rw[Vv _ _ hb];unfold Np;simp);rw[en,fP];simp only;rw[show([]:aA)=([]:List rA).map bl from rfl,tZ Vd Vf];simp only[aU,if_false,if_true];rw[lp];simp only;rw[show([]:aA)=([]:List rA).map bl from rfl,tZ Vd Vf];simp only[aU,if_false];rw[dO (show¬decide (2147483647<jc (bl [48]))=true by decide+kernel),lp];simp only
  have⟨u,hu⟩:=IF (n:=L.length) f2 _ bs [[69]] 0 hb (λx hx=>by
   obtain⟨k,hk,rfl⟩:=aR.1 hx;have hk:=List.mem_range.1 hk;simp only;rw[aO hk];have⟨_,g1,g2⟩:=h.fs _ (List.getElem_mem hk)
   exact⟨Vc,g1,g2,Vd⟩) (by rw[bJ,List.map_id'' (f:=(λx:Nat×List F3=>x.1)∘λi=>(i,(L[i]?).getD [])) (λ_=>rfl)];grind) Ve
  rw[show List.map bl []++bl [69]::List.map bl []=List.map bl [[69]]from rfl,hu]
end Go.Proofs.YtfebdimolnobaaaGreatDoor
