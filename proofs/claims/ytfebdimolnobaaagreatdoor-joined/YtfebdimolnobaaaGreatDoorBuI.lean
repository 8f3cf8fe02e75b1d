import Derived.Test.YtfebdimolnobaaaGreatDoorCkG
import Derived.Laws.Bits64b
import Derived.Deep.CutBlock
import Derived.Shelf.Unicode.ValidAny
set_option maxRecDepth 100000
set_option maxHeartbeats 8000000
set_option linter.all false
namespace Go.Proofs.YtfebdimolnobaaaGreatDoor
open Go.RowKit Go.Proofs.Tryz
section
open Go.Maps
open Uq
def Tryz.info212:(prog.info? 212).map (λi=>(i.zero,i.size,i.bytes))=some (some (.pointer none),1,8):=Uj
structure OQ (f:eF):Prop where
 num:AM f
 ty:Et f
def wN (w wr:an)(mp:am->Option Nat)(v:Value)(gs:List GF):Prop:=
 ∃Ur:au,wr.ownsRow w.heap.size 212 1 v gs.length (eU Ur)/\fT wr (λb=>w.heap.size<=b/\v.ownBlock≠some b) mp gs Ur/\aj w wr
def wN.on {w wr w2:an}{mp:am->Option Nat}{v:Value}{gs:List GF}(h:wN w wr mp v gs)(hb:aj wr w2):wN w w2 mp v gs:=by
 obtain⟨Ur,h1,h2,h3⟩:=h;exact⟨Ur,eH hb h1,h2.keep (λb _ hl=>hb.block b hl),ew h3 hb⟩
def wN.start (w wr:an)(mp:am->Option Nat)(h:aj w wr):wN w wr mp (ah) []:=⟨[],bm _ _ _ _,rfl,h⟩
def qQ (l:au)(b:Nat):eU (l++ [b])=eU l++ [gI (some b)]:=by simp[eU]
def wN.snoc {w W w5:an}{mp:am->Option Nat}{v v':Value}{gs:List GF}{g:GF}{Ur:au}{fb:Nat}(h2:fT W (λb=>w.heap.size<=b/\v.ownBlock≠some b) mp gs Ur)(h3:aj w W)(hbase:∀k,v.ownBlock=some k->w.heap.size<=k)
  (hf:eJ W (λb=>w.heap.size<=b/\v.ownBlock≠some b) mp g fb) (Uw:w5.ownsRow w.heap.size 212 1 v' (gs.length+1) (eU Ur++ [gI (some fb)])) (Uq:W.grownBy w5 v.ownBlock) (hloc:v.ownBlock=v'.ownBlock\/v'.ownBlock=some W.heap.size):wN w w5 mp v' (gs++ [g]):=by
 have h4:=h2.snoc hf
 have hq:∀b,(w.heap.size<=b/\v.ownBlock≠some b)->b<W.heap.size->(w.heap.size<=b/\v.ownBlock≠some b)/\v'.ownBlock≠some b:=by
  grind
 have h5:=(h4.mono hq).keep (w':=w5) (λb hb hl=>Uq.block b hl (λe=>hb.1.2 e.symm));refine⟨Ur++ [fb],?_,h5.mono (λb hb _=>⟨hb.1.1,hb.2⟩),h3.grown Uq h3.size hbase⟩;rw[qQ,aH];omega
def yI (ps:List fo):List GF:=ps.flatMap λp=>p.fields.map (rS p)
def rV:∀ps:List fo,(yI ps).length<=lO ps
 | []=>ay _
 |p::ps=>by
  have:=rV ps;unfold yI at this⊢;rw[bi,aH,bE,lO];omega
def zj:∀(ps:List fo) (k:Nat),lO (ps.take k)<=lO ps
 | [],k=>by grind
 |p::ps,0=>by simp[lO]
 |p::ps,k+1=>by have:=zj ps k;rw[List.take_succ_cons,lO,lO];omega
def Hl {α β:Type}{h:α->β}{l' l:List β}(p:l'.Perm l):∀z:List α,z.map h=l->∃z':List α,z'.Perm z/\z'.map h=l':=by
 induction p with
 |nil=>intro z hz;exact⟨z,List.Perm.refl _,hz⟩
 |cons x _ ih=>
  intro z hz
  cases z with
  |nil=>grind
  |cons a z=>
   simp at hz;have⟨z',h1,h2⟩:=ih z hz.2;exact⟨a::z',h1.cons a,by grind⟩
 |swap x y l=>
  intro z hz
  match z,hz with
  | [],hz=>grind
  | [_],hz=>grind
  |a::c::z,hz=>
   simp at hz;exact⟨c::a::z,List.Perm.swap _ _ _,by grind⟩
 |trans _ _ ih1 ih2=>
  intro z hz;have⟨z1,h1,h2⟩:=ih2 z hz;have⟨z2,h3,h4⟩:=ih1 z1 h2;exact⟨z2,h3.trans h1,h4⟩
def zl (w:an)(mp:am->Option Nat)(b:dQ)(e:Ending)(w':an):Prop:=
 ∃(v:Value) (gs:List GF) (Ur:au),e= .returned v/\gs.Perm (uD b)/\gs.Pairwise (λx y=>x.f.num<=y.f.num)/\
  eD w' (λx=>w.heap.size<=x) 212 1 v Ur.length (eU Ur)/\fT w' (λx=>w.heap.size<=x) mp gs Ur/\aj w w'
def I8 (w:an)(mb n:Nat)(mp:am->Option Nat)(b:dQ)(pa va:aw)(pc vn vc:Nat)(pcs:aq)(S:ap)(hrow:eD w S 208 4 (.slice pa b.parts.length pc) b.parts.length pcs)(hps:ft w S pcs b.parts)
  (H:fU w mb n mp) (hlen:lO b.parts<=2001) (hgood:∀p∈b.parts,∀f∈p.fields,OQ f) (hg:GOK w) (hb:BOK w):
  Calls prog 67 #[.map (some mb),.agg #[.bool b.enum,aa (dJ b.name.1),ae b.name.1,aa b.name.2,.slice pa b.parts.length pc,.slice va vn vc]] w (zl w mp b):=by
 have⟨i0,Vx,Vy,Vz,U4⟩:=info_parts Tryz.info212;have hpl:b.parts.length<=2001:=aG (wG b.parts) hlen;have C0:=(Uc w).alloc (ay _) (ak #[.bool b.enum,aa (dJ b.name.1),ae b.name.1,aa b.name.2,.slice pa b.parts.length pc,.slice va vn vc] 152);go_in
 go_wp2;go_loopw [5,13] (λv i wr=>∃(k:Nat),k<=b.parts.length/\i=aa k/\wN w wr mp v (yI (b.parts.take k))) (λ_ i _=>b.parts.length-(intOf i).toNat)
 case atStart=>exact⟨0,aL _,rfl,wN.start _ _ _ C0⟩
 case round=>
  clear C0;obtain⟨k,hk,rfl,HI⟩:=hrel
  by_cases hlt:k<b.parts.length
  ·have⟨p,hp⟩:=gx hlt;have U9:p∈b.parts:=aI hp;have Us:b.parts.take (k+1)=b.parts.take k++ [p]:=by rw[bJ,hp];rfl
   have Va:yI (b.parts.take (k+1))=yI (b.parts.take k)++p.fields.map (rS p):=by rw[Us];simp[yI]
   have UR:(yI (b.parts.take k)).length+p.fields.length<=2001:=by
    have h1:=rV (b.parts.take (k+1));have h2:=zj b.parts (k+1)
    grind
   have CW:aj w wr:=by obtain⟨_,_,_,h⟩:=HI;exact h
   have Vl:∀j,u5.ownBlock=some j->w.heap.size<=j/\j<wr.heap.size:=by obtain⟨_,h,_,_⟩:=HI;exact h.lt
   obtain⟨g,rfl,_,U1,UA⟩:=el hrow.1 Ue;have⟨fa,fn,fc,p0,p1,p2,p3,U5⟩:=hps.get hp;have Vm:=eK U5.1;subst Vm;have UF:=UA wr (CW.block g U1);have q0:=UF _ _ p0;have q1:=UF _ _ p1;have q2:=UF _ _ p2;have q3:=UF _ _ p3;have KP:=dM.new wr #[aa (lW p.oneof),ae (jg p.oneof),aa (mW p.oneof),.slice fa p.fields.length fc] 208;have Vb:=HI.on ((Uc wr).alloc (ay _) (ak #[aa (lW p.oneof),ae (jg p.oneof),aa (mW p.oneof),.slice fa p.fields.length fc] 208));have UG:u5.ownBlock≠some wr.heap.size:=λe=>by grind
   have Uu:=hgood p U9;have hpb:w.heap.size<=wr.heap.size:=CW.size;generalize yI (b.parts.take k)=G at Vb Va UR;clear UA UF p0 p1 p2 p3 hp U9 Us HI Vl hgood;go_wp2_with fail;generalize wr.alloc (ak #[aa (lW p.oneof),ae (jg p.oneof),aa (mW p.oneof),.slice fa p.fields.length fc] 208)=w1 at*;generalize wr.heap.size=pb at*;clear q0 q1 q2 q3;go_loopw [5,20] (λv i wr=>∃(j:Nat),j<=p.fields.length/\i=aa j/\wN w wr mp v (G++(p.fields.take j).map (rS p))/\dM wr pb #[aa (lW p.oneof),ae (jg p.oneof),aa (mW p.oneof),.slice fa p.fields.length fc] 208/\v.ownBlock≠some pb) (λ_ i _=>p.fields.length-(intOf i).toNat)
   case atStart=>exact⟨0,aL _,rfl,by grind,KP,UG⟩
   case round=>
    clear Vb KP UG CW;obtain⟨j,hj,rfl,HJ,KP,UG⟩:=hrel
    by_cases hlt2:j<p.fields.length
    ·have⟨f,hf⟩:=gx hlt2;have Vc:f∈p.fields:=aI hf;have Us:G++(p.fields.take (j+1)).map (rS p)=(G++(p.fields.take j).map (rS p))++ [rS p f]:=by rw[bJ,hf];simp
     obtain⟨gf,rfl,_,U6,Uv⟩:=el U5.1 Ue;have Vn:aj w wr:=by obtain⟨_,_,_,h⟩:=HJ;exact h
     have UC:∀x,u5.ownBlock=some x->w.heap.size<=x/\x<wr.heap.size:=by obtain⟨_,h,_,_⟩:=HJ;exact h.lt
     have Vd:=Uv wr (Vn.block gf U6);have⟨t0,t1,t2,t3,t4,t5,t6,t7,t8,t9,VA,VB,VC⟩:=wE hf Vd;have UO:=Uu f Vc;have KF:=dM.new wr (FC f) 211;have Ve:=KP.alloc (FO f);have Vf:=HJ.on ((Uc wr).alloc (ay _) (FO f));have US:u5.ownBlock≠some wr.heap.size:=λe=>by have:=(UC _ e).2;omega
     have UT:Hid (∀x,u5.ownBlock=some x->x<wr.heap.size):=λx hx=>(UC x hx).2
     have Vo:(G++(p.fields.take j).map (rS p)).length<=2001:=by rw[aH,bE,bG];omega
     generalize(G++(p.fields.take j).map (rS p))=G2 at Vf Us Vo;have hzz:pb<wr.heap.size:=KP.lt;clear Uv Vd hf Vc HJ KP UC;go_upto_region 8 with fail
     clear t0 t1 t2 t3 t4 t5 t6 t7 t8 t9 VA VB VC;generalize hw1:wr.alloc (FO f)=W1 at*;have zc:wr.heap.size<W1.heap.size:=KF.lt;clear hw1;generalize wr.heap.size=c9 at*;obtain⟨Ur,Uw,Ut,CA⟩:=Vf;have UE:aj w W1.drew:=CA.drew;have UU:=KF.drew;have UV:=Ve.drew;have Uy:W1.drew.ownsRow w.heap.size 212 1 u5 G2.length (eU Ur):=Uw;have UD:fT W1.drew (λb=>w.heap.size<=b/\u5.ownBlock≠some b) mp G2 Ur:=fT.keep (w:=W1) (w':=W1.drew) (λ_ _ _=>rfl) Ut;have a0:=RS.of UU UV;have Vp:Hid (Ua 109 #[.agg (FC f)] W1.drew (λe w'=>e= .returned (aa (i9 f))/\Below W1.drew.heap.size W1.drew w')):=rT _ f UO.num.1 UO.num.2 (hg.keep (UE.block _ hg.lt))
     have Vq:Hid (∀w2:an,Below W1.drew.heap.size W1.drew w2->Ua 110 #[.map (some mb),.agg (FC f)] w2 (λe w'=>∃tb tv,e= .returned (.agg #[aa tb,tv])/\qK w' (λb=>w2.heap.size<=b) mp f tb tv/\aj w2 w')):=
      λw2 h2=>AO w2 mb n mp f UO.ty (H.keep ((ew UE h2).block _ H.lt)) (hb.keep ((ew UE h2).block _ hb.lt))
     have Vr:Hid (∀w3:an,Below W1.drew.heap.size W1.drew w3->Ua 111 #[.agg #[aa (lW p.oneof),ae (jg p.oneof),aa (mW p.oneof),Ub gf p.fields.length fc],.agg (FC f)] w3 (λe w'=>∃v,e= .returned v/\w'.ownsRow w3.heap.size 3 1 v (pp p f).length (gd (pp p f))/\aj w3 w')):=
      λw3 h3=>I6 w3 p f _ fc S (U5.keep (λx _ hl=>(ew UE h3).block x hl)) Ue UO.num (λo ho=>(Uu o ho).num) (hg.keep ((ew UE h3).block _ hg.lt))
     have Vs:Hid (∀(W:an) (fb:Nat) (tb:Int) (tv rv:Value),dM W fb #[aa (i9 f),aa f.form,aa tb,tv,rv] 220->(w.heap.size<=fb/\u5.ownBlock≠some fb)->eD W (λb=>w.heap.size<=b/\u5.ownBlock≠some b) 3 1 rv (pp p f).length (gd (pp p f))->qK W (λb=>w.heap.size<=b/\u5.ownBlock≠some b) mp f tb tv->eJ W (λb=>w.heap.size<=b/\u5.ownBlock≠some b) mp (rS p f) fb):=λW fb tb tv rv h1 h2 h3 h4=>I7 h1 h2 h3 h4
     have Vt:Hid (some c9≠u5.ownBlock):=λe=>US e.symm
     have Vu:Hid (some pb≠u5.ownBlock):=λe=>UG e.symm
     clear Uw Ut CA KF Ve
     go_region_held3 (λw'=>w'.cell? (ai c9 0)=some (aa f.form)/\w'.cell? (ai c9 1)=some (aa (lW f.key))/\w'.cell? (ai c9 2)=some (ae (jg f.key))/\w'.cell? (ai c9 3)=some (aa (mW f.key))/\w'.cell? (ai c9 4)=some (aa (dJ f.type.1))/\w'.cell? (ai c9 5)=some (ae f.type.1)/\w'.cell? (ai c9 6)=some (aa f.type.2)/\w'.cell? (ai c9 7)=some (aa (dJ f.name.1))/\w'.cell? (ai c9 8)=some (ae f.name.1)/\w'.cell? (ai c9 9)=some (aa f.name.2)/\w'.cell? (ai c9 10)=some (aa (dJ f.num.1))/\w'.cell? (ai c9 11)=some (ae f.num.1)/\w'.cell? (ai c9 12)=some (aa f.num.2)/\w'.cell? (ai pb 0)=some (aa (lW p.oneof))/\w'.cell? (ai pb 1)=some (ae (jg p.oneof))/\w'.cell? (ai pb 2)=some (aa (mW p.oneof))/\w'.cell? (ai pb 3)=some (Ub gf p.fields.length fc))
      (first|exact a5|exact RS.of ((UP.alloc _).alloc _) ((UQ.alloc _).alloc _)|exact RS.of (UP.alloc _) (UQ.alloc _)|exact RS.of UP UQ|exact RS.of UY UZ|exact RS.of UW UX|exact a0)
      (first|(refine step_append_lies _ Uk _ _ _ Uk w.heap.size 212 i0 _ 1 8 underlying106 Vx Vy Vz U4 rfl Ue u5 G2.length (eU Ur) Uk ((UH.alloc _).alloc _) (ai (w4.heap.size+1) 0) 1 1 [_] Uk Uk (br (dM.newAt Uf _ _)) Um Ue Ul Ue (by have:=C4.size;simp;omega) (w4.heap.size+1+1) Uf ?_;intro gg cap w5 UB Uq Vj hlt5;have Vv:=((UP.alloc _).alloc _).grown Uq Vt.out;have Vg:=((UQ.alloc _).alloc _).grown Uq Vu.out;have a5:=RS.of Vv Vg)|(go_at_call 109;refine Vp.out.mono ?_;rintro e w2 ⟨rfl,b2⟩;have UW:=UU.below b2 UU.lt;have UX:=UV.below b2 UV.lt)|(go_at_call 110;refine(Vq.out w2 b2).mono ?_;rintro e w3 ⟨tb,tv,rfl,VD,b3⟩;have UY:=UW.below b3 UW.lt;have UZ:=UX.below b3 UX.lt)|(go_at_call 111;refine(Vr.out w3 (ew b2 b3)).mono ?_;rintro e w4 ⟨rv,rfl,Vk,b4⟩;obtain⟨ra,rn,rc,rfl⟩:=dN Vk;have UP:=UY.below b4 UY.lt;have UQ:=UZ.below b4 UZ.lt;have C4:=ew (ew (ew UE b2) b3) b4;have UH:=eH (ew (ew b2 b3) b4) Uy))
     have Z2:=b2.size;have Z3:=b3.size;have Z4:=b4.size;have zc2:c9<W1.drew.heap.size:=zc;have Ux:∀x,W1.drew.heap.size<=x->u5.ownBlock≠some x:=λx hx e=>by have:=UT.out x e;omega
     have Vh:∀x,w3.heap.size<=x->w.heap.size<=x/\u5.ownBlock≠some x:=λx hx=>⟨Ue,Ux x Ue⟩
     have BW:aj w4 ((w4.alloc (ak #[aa (i9 f),aa f.form,aa tb,tv,.slice ra rn rc] 220)).alloc (ak #[ag w4.heap.size] 212)):=(Ud w4 _).alloc Uf _;have Vi:=fT.keep (w:=W1.drew) (w':=((w4.alloc (ak #[aa (i9 f),aa f.form,aa tb,tv,.slice ra rn rc] 220)).alloc (ak #[ag w4.heap.size] 212))) (λx _ hl=>(ew (ew (ew b2 b3) b4) BW).block x hl) UD;have Uz:=((eD.of Vk).mono (S':=λb=>w.heap.size<=b/\u5.ownBlock≠some b) (λx hx _=>Vh x hx)).keep (w':=((w4.alloc (ak #[aa (i9 f),aa f.form,aa tb,tv,.slice ra rn rc] 220)).alloc (ak #[ag w4.heap.size] 212))) (λx _ hl=>BW.block x hl);have UI:=(qK.mono (Q:=λb=>w.heap.size<=b/\u5.ownBlock≠some b) (λx hx _=>⟨Ue,Ux x Ue⟩) VD).keep (w':=((w4.alloc (ak #[aa (i9 f),aa f.form,aa tb,tv,.slice ra rn rc] 220)).alloc (ak #[ag w4.heap.size] 212))) (λx _ hl=>(ew b4 BW).block x hl);have UJ:=Vs.out _ w4.heap.size tb tv (.slice ra rn rc) ((dM.new w4 _ _).alloc _) ⟨C4.size,Ux _ Ue⟩ Uz UI;have HI6:=wN.snoc (v':= Ub gg (G2.length+1) cap) Vi (ew C4 BW) (λx hx=>(Uy.lt x hx).1) UJ UB Uq (Vj.imp (λh=>h) (λh=>by rw[h];simp[Value.ownBlock]))
     have U0:(Value.slice (some (ai gg 0)) (G2.length+1) cap).ownBlock≠some pb:=λe=>by
      rcases Vj with h|h
      ·exact UG (h.trans e)
      ·have e2:=Option.some.inj e;simp only at e2;omega
     clear a5 Vi Uz UI UJ UB Uq BW Ux Vh;go_wp2;go_roundw
     case rel=>exact⟨j+1,Ue,rfl,by grind,Vg,U0⟩
     case measure=>simp[intOf];omega
    ·have hli2:decide ((j:Int)<(p.fields.length:Int))=false:=by grind
     obtain rfl:j=p.fields.length:=Ue;rw[bo]at HJ;go_wp2;go_roundw
     case rel=>exact⟨k+1,Ue,rfl,by rw[Va];exact HJ⟩
     case measure=>simp[intOf];omega
  ·have hli:decide ((k:Int)<(b.parts.length:Int))=false:=by grind
   obtain rfl:k=b.parts.length:=Ue;rw[bo]at HI;go_wp2_with fail;obtain⟨Ur,Uw,Ut,CW⟩:=HI;have⟨z,UK,U4,U7⟩:=Ut.zip;have U1:z.length=(yI b.parts).length:=by rw[<-UK];simp
   have U2:z.length<=2001:=by have:=rV b.parts;omega
   have U3:=Ps wr w.heap.size u5 (z.map λx=>(x.1.f.num,x.2)) (by rw[bE,U1,bB,show((λx:Int×Nat=>x.2)∘λx:GF×Nat=>(x.1.f.num,x.2))=(λx=>x.2)from rfl,U4];omega)
    (λx hx=>by obtain⟨y,hy,rfl⟩:=aP.1 hx;exact(U7 y hy).cell0.1) (λx hx=>by obtain⟨y,hy,rfl⟩:=aP.1 hx;exact(U7 y hy).cell0.2.2) (by simpa using U2)
   refine U3.mono ?_;rintro e w' ⟨rfl,l',UL,UM,UN,Uq⟩;obtain⟨z',U8,rfl⟩:=Hl UL z rfl;go_wp2;go_ret;refine⟨u5,z'.map (·.1),z'.map (·.2),rfl,?_,?_,?_,?_,?_⟩
   ·rw[show uD b=yI b.parts from rfl,<-UK];exact U8.map _
   ·rw[cm]at UM⊢;omega
   ·have Vw:(z'.map (·.2)).length=(z.map λx:GF×Nat=>(x.1.f.num,x.2)).length:=by simp[U8.length_eq]
    rw[Vw];have:=eD.of UN;rw[bB]at this;exact this
   ·have h5:∀x∈z',eJ w' (λx=>w.heap.size<=x) mp x.1 x.2:=λx hx=>by
     have h6:=U7 x (U8.mem_iff.1 hx);exact(h6.keep (w':=w') (λc hc hl=>Uq.block c hl (λe=>hc.2 e.symm))).mono (λc hc _=>hc.1)
    exact fT.of_zip h5
   ·exact CW.grown Uq CW.size (λx hx=>(Uw.lt x hx).1)
end
section
variable {types:ar} {nums:au} {f:eF} {bs:List dQ}
structure I9 (types:ar)(f:eF):Prop where
 key:f.form=4->lW f.key=3
 lo:1<=iJ f.num.1
 hi:iJ f.num.1<=536870911
 ty:dJ f.type.1=1->eM types f.type.1=true
 kg:f.form=4->gM (lW f.key) (jg f.key)=true
theorem rW {names:ar}{n:ar}{m:au}(h:mX types names nums f= .ok (n,m)):I9 types f/\AF nums (iJ f.num.1)=false/\m=nums++ [iJ f.num.1]/\n=names++ [f.name.1]/\eM names f.name.1=false:=by
 unfold mX uC jQ at h
 split at h
 ·grind
 ·rename_i hk
  split at h
  ·grind
  ·rename_i ht
   split at h
   ·grind
   ·rename_i hn
    split at h
    ·grind
    ·split at h
     ·grind
     ·rename_i hb
      simp at h;unfold ox at hb;unfold ow at ht;unfold il at hn;simp at hb ht hk hn;refine⟨⟨λh4=> ?_,Ue,Ue,λh1=> ?_,hk⟩,hb.2.2,h.2.symm,h.1.symm,hn.2⟩
      ·have:=hk h4;unfold gM at this
       simp_all
      simp_all
theorem nx:∀(fs:List eF) (names:ar) (nums:au) (n:ar) (m:au),fX types names nums fs= .ok (n,m)->nums.Nodup->
  (∀f∈fs,I9 types f)/\m=nums++fs.map (λf=>iJ f.num.1)/\m.Nodup
 | [],names,nums,n,m,h,hd=>by
  simp[fX]at h
  simp_all
 |f::fs,names,nums,n,m,h,hd=>by
  unfold fX at h
  split at h
  ·cases h
  ·rename_i n1 m1 h1
   have g1:=rW h1;have g2:=wH h1 hd;have g3:=nx fs n1 m1 n m h g2.2.2
   grind
theorem rX:∀(ps:List fo) (names:ar) (nums:au) (n:ar) (m:au),gy types names nums ps= .ok (n,m)->nums.Nodup->
  (∀p∈ps,∀f∈p.fields,I9 types f)/\m=nums++ps.flatMap (λp=>p.fields.map (λf=>iJ f.num.1))/\m.Nodup
 | [],names,nums,n,m,h,hd=>by
  simp[gy]at h
  simp_all
 |p::ps,names,nums,n,m,h,hd=>by
  unfold gy at h
  split at h
  ·cases h
  ·rename_i n1 m1 h1
   have g1:(∀f∈p.fields,I9 types f)/\m1=nums++p.fields.map (λf=>iJ f.num.1)/\m1.Nodup:=by
    unfold mf at h1
    split at h1
    ·split at h1
     ·cases h1
     ·exact nx _ _ _ _ _ h1 hd
    ·exact nx _ _ _ _ _ h1 hd
   have g3:=rX ps n1 m1 n m h g1.2.2
   grind
structure MY (types:ar)(b:dQ):Prop where
 flds:∀p∈b.parts,∀f∈p.fields,I9 types f
 nums:(b.parts.flatMap (λp=>p.fields.map (λf=>iJ f.num.1))).Nodup
theorem lp (l r:ar)(s:am):eM (l++r) s=(eM l s||eM r s):=by simp[eM]
theorem qR:∀(bs:List dQ) (names:ar) (m:Nat),fC types names m bs= .ok ()->
  (∀b∈bs,b.enum=false->MY types b)/\(fi bs).Pairwise (λx y=>x.toList≠y.toList)/\(∀b∈bs,eM names b.name.1=false)
 | [],names,m,_=>⟨Uf,List.Pairwise.nil,Uf⟩
 |b::bs,names,m,h=>by
  have key:∀m',fC types (names++ [b.name.1]) m' bs= .ok ()->il names b.name.1=false->(b.enum=false->MY types b)->
    (∀x∈b::bs,x.enum=false->MY types x)/\(fi (b::bs)).Pairwise (λx y=>x.toList≠y.toList)/\(∀x∈b::bs,eM names x.name.1=false):=by
   intro m' h2 h3 h4;have g:=qR bs _ m' h2;refine⟨?_,?_,?_⟩
   ·simp_all
   ·refine List.Pairwise.cons ?_ g.2.1;intro y hy;obtain⟨c,hc,rfl⟩:=aP.1 hy;have:=g.2.2 c hc;rw[lp]at this;simp[eM]at this
    simp_all
   ·intro x hx
    rcases aN.1 hx with rfl|hx
    ·unfold il at h3
     simp_all
    ·have:=g.2.2 x hx;rw[lp]at this
     simp_all
  unfold fC at h
  split at h
  ·cases h
  ·rename_i h3
   simp only[Bool.not_eq_true]at h3
   split at h
   ·grind
   ·split at h
    ·cases h
    ·split at h
     ·cases h
     ·rename_i n1 h5
      obtain⟨a,c⟩:=n1;have g:=rX b.parts [] [] a c h5 List.nodup_nil;exact key (m+1) h h3 (λ_=>⟨g.1,by grind⟩)
structure CN (bs:List dQ):Prop where
 ok:∀b∈bs,oy b
 few:bs.length<=2001
 shape:∀b∈bs,AK b
 chk:∀b∈bs,b.enum=false->MY (fi bs) b
 names:(fi bs).Pairwise (λx y=>x.toList≠y.toList)
theorem rk {t:am}(h:im t= .ok bs):CN bs:=by
 unfold im at h
 split at h
 ·cases h
 ·split at h
  ·cases h
  ·rename_i h3
   split at h
   ·cases h
   ·rename_i h4
    cases h
    have hw:=pj t Ue;have g:=qR _ _ _ h4;exact⟨(wI hw h3).1,(wI hw h3).2,CB hw h3,g.1,g.2.1⟩
theorem CN.field (h:CN bs){b:dQ}(hb:b∈bs)(he:b.enum=false){p:fo}(hp:p∈b.parts)(hf:f∈p.fields):OQ f:=by
 have c:=(h.chk b hb he).flds p hp f hf;have s:=(h.shape b hb p hp).1 f hf;refine⟨⟨(h.ok b hb).fnum p hp f hf,c.hi⟩,⟨λh4=> ?_,s.size⟩⟩;have k3:=c.key h4;have⟨x,hx⟩:=bZ.1 (s.key.1 h4);rw[hx]at k3⊢;have hk:dJ x.1=3:=k3;refine⟨rfl,?_⟩;show x.1.size<=2000;have hm:x.1.toList∈mN:=by have:=mm hk;simpa [je]using this
 have hl:∀l∈mN,l.length<=2000:=Uh;have:=hl _ hm;rw[ByteArray.toList_eq]at this
 simp_all
end
section
open Go.Maps Go.ChangeMaps Go.WideMaps Go.WideElems
open Uq
def Tryz.info105:(prog.info? 105).map (λi=>(i.zero,i.size,i.bytes))=some (some (.pointer none),1,8):=Uj
def lR (z:List (am×Nat)):am->Option Nat:=z.foldl (λmp x=>ja mp x.1 x.2) (λ_=>none)
def Ja (z:List (am×Nat))(s:am)(b:Nat):lR (z++ [(s,b)])=ja (lR z) s b:=by simp[lR]
structure Hm (w0 wr:an)(kb:Nat)(v:Value)(z:List (am×Nat)):Prop where
 row:wr.ownsRow w0.heap.size 105 1 v z.length (eU (z.map (·.2)))
 map:fU wr kb z.length (lR z)
 msg:∀x∈z,dM wr x.2 #[ae x.1,ah] 108/\w0.heap.size<=x.2/\v.ownBlock≠some x.2
 nd:(z.map (·.2)).Nodup
 kept:dX [kb] w0 wr
def fU.put {w w':an}{kb n:Nat}{mp:am->Option Nat}{s:am}{b:Nat}{D:DataW Unit}(h1:w.ownsMap prog 9 gr kb n D)(h2:∀s:am,D.atKey (qH s) (nO none)=nO (mp s))
  (h:w'.ownsMap prog 9 gr kb (n+1) (D.put (qH s) (nO (some b)))):fU w' kb (n+1) (ja mp s b):=⟨_,h,MV (World.ownsMap.isMap h1) h2 s b⟩
def Hm.snoc {w0 wr w2 w5:an}{kb:Nat}{v v':Value}{z:List (am×Nat)}{s:am}(h:Hm w0 wr kb v z)(hkb:kb<w0.heap.size)
  (hg2:(wr.alloc (.cells #[ae s,ah] 108)).grownBy w2 (some kb)) (hm:fU w2 kb (z.length+1) (ja (lR z) s wr.heap.size)) {o:Obj}
  (hg5:(w2.alloc o).grownBy w5 v.ownBlock) (hown:w5.ownsRow w0.heap.size 105 1 v' (z.length+1) (eU (z.map (·.2))++ [gI (some wr.heap.size)])) (hloc:v'.ownBlock=v.ownBlock\/v'.ownBlock=some (w2.alloc o).heap.size):
  Hm w0 w5 kb v' (z++ [(s,wr.heap.size)]):=by
 have Us:=h.row.lt;have hsz:=h.kept.size;have hs2:wr.heap.size+1<=w2.heap.size:=by have:=hg2.size;simpa using this
 have Ut:some kb≠v.ownBlock:=λe=>by have:=(Us _ e.symm).1;omega
 have Ur:∀{b:Nat} {cs:Array Value} {T:TypeId},dM (wr.alloc (.cells #[ae s,ah] 108)) b cs T->b≠kb->v.ownBlock≠some b->dM w5 b cs T:=λhb h1 h2=>
  ((hb.grown hg2 (λe=>h1 (Option.some.inj e))).alloc o).grown hg5 (λe=>h2 e.symm)
 have Uq:∀x,x<w2.heap.size+1->v.ownBlock≠some x->v'.ownBlock≠some x:=λx hx h1 e=>by
  rcases hloc with h2|h2
  ·exact h1 (h2▸e)
  ·rw[h2]at e;have:=Option.some.inj e;simp at this;omega
 refine⟨?_,?_,?_,?_,?_⟩
 ·rw[bI,aH];simp only[bO,List.map_nil,be,cW,qQ];exact hown
 ·rw[Ja,aH];exact hm.keep ((hg5.block kb (by have:=hm.lt;simp;omega) Ut).trans (Below.heap_alloc _ _ _ hm.lt))
 ·intro x hx
  rcases aR.1 hx with hx|hx
  ·have⟨m1,m2,m3⟩:=h.msg x hx;have:=m1.lt;exact⟨Ur (m1.alloc _) Ue m3,m2,Uq _ Ue m3⟩
  ·simp at hx;subst hx;have m3:v.ownBlock≠some wr.heap.size:=λe=>by have:=(Us _ e).2;omega
   exact⟨Ur (dM.new _ _ _) (by show wr.heap.size≠kb;omega) m3,hsz,Uq _ (by show wr.heap.size<w2.heap.size+1;omega) m3⟩
 ·rw[bI,dz];refine⟨h.nd,Uf,?_⟩;intro a ha c hc;obtain⟨x,hx,rfl⟩:=aP.1 ha;simp at hc;have:=(h.msg x hx).1.lt;omega
 ·refine⟨?_,?_,?_,?_,?_⟩
  ·rw[hg5.os];exact hg2.os.trans h.kept.os
  ·rw[hg5.tape];exact hg2.tape.trans h.kept.tape
  ·rw[hg5.output];exact hg2.output.trans h.kept.output
  ·have:=hg5.size;simp at this;omega
  ·intro k hk hn;have h1:(w2.alloc o).heap[k]?=w2.heap[k]?:=Below.heap_alloc _ _ _ Ue;have h2:(wr.alloc (.cells #[ae s,ah] 108)).heap[k]?=wr.heap[k]?:=Below.heap_alloc _ _ _ Ue;rw[hg5.block k Ug (λe=>by have:=(Us _ e.symm).1;omega),h1,hg2.block k Ug (λe=>hn (by simp at e;simp[e])),h2];exact h.kept.block k hk hn
end
section
open Go.Maps
def gh (bs:List dQ):List dQ:=bs.filter λb=> !b.enum
def iN (bs:List dQ):dY bs=(gh bs).map λb=>b.name.1:=rfl
def R8 (b:dQ)(gs:List GF):Prop:=gs.Perm (uD b)/\gs.Pairwise (λx y=>x.f.num<=y.f.num)
def Qz (w0:an)(z:List (am×Nat))(v:Value):ap:=λb=>w0.heap.size<=b/\b∉z.map (·.2)/\v.ownBlock≠some b
abbrev YM:=(am×Nat)×List GF
def MI (w0 wr:an)(z:List (am×Nat))(v:Value)(m:YM):Prop:=
 ∃fv Ur,dM wr m.1.2 #[ae m.1.1,fv] 108/\eD wr (Qz w0 z v) 212 1 fv Ur.length (eU Ur)/\fT wr (Qz w0 z v) (lR z) m.2 Ur
structure rY (w0 wr:an)(kb:Nat)(v:Value)(z:List (am×Nat))(done:List dQ)(y:List YM):Prop where
 row:wr.ownsRow w0.heap.size 105 1 v z.length (eU (z.map (·.2)))
 map:fU wr kb z.length (lR z)
 zy:y.map (·.1)=z
 mi:∀m∈y,MI w0 wr z v m
 at_:∀x∈z,w0.heap.size<=x.2/\v.ownBlock≠some x.2
 nd:(z.map (·.2)).Nodup
 g:∀(i:Nat) (b:dQ),(gh done)[i]?=some b->∃m:YM,y[i]?=some m/\R8 b m.2
 kept:dX [kb] w0 wr
def rY.start {w0 wr:an}{kb:Nat}{v:Value}{z:List (am×Nat)}(h:Hm w0 wr kb v z):rY w0 wr kb v z [] (z.map λx=>(x,[]))where
 row:=h.row
 map:=h.map
 zy:=by rw[bB];exact List.map_id z
 mi:=by
  intro m hm;obtain⟨x,hx,rfl⟩:=aP.1 hm;exact⟨_,[],(h.msg x hx).1,eD.nil0 _ _ _ _,rfl⟩
 at_:=λx hx=>⟨(h.msg x hx).2.1,(h.msg x hx).2.2⟩
 nd:=h.nd
 g:=by intro i b hb;simp[gh]at hb
 kept:=h.kept
def rY.on {w0 wr w2:an}{kb:Nat}{v:Value}{z:List (am×Nat)}{done:List dQ}{y:List YM}(h:rY w0 wr kb v z done y)(hb:aj wr w2):rY w0 w2 kb v z done y where
 row:=eH hb h.row
 map:=h.map.keep (hb.block _ h.map.lt)
 zy:=h.zy
 mi:=λm hm=>by
  have⟨fv,Ur,h1,h2,h3⟩:=h.mi m hm;exact⟨fv,Ur,h1.below hb h1.lt,h2.keep (λb _ hl=>hb.block b hl),h3.keep (λb _ hl=>hb.block b hl)⟩
 at_:=h.at_
 nd:=h.nd
 g:=h.g
 kept:=h.kept.trans (dX.of_below hb)
def rY.enum {w0 wr:an}{kb:Nat}{v:Value}{z:List (am×Nat)}{done:List dQ}{y:List YM}{b:dQ}(h:rY w0 wr kb v z done y)(he:b.enum=true):rY w0 wr kb v z (done++ [b]) y where
 row:=h.row
 map:=h.map
 zy:=h.zy
 mi:=h.mi
 at_:=h.at_
 nd:=h.nd
 g:=by
  have:gh (done++ [b])=gh done:=by simp[gh,he]
  rw[this];exact h.g
 kept:=h.kept
def rY.message {w0 w2:an}{kb:Nat}{v fv2:Value}{z:List (am×Nat)}{done:List dQ}{y:List YM}{b:dQ}{gs:List GF}{Ur:au}{nm:am}{mbi lo:Nat}(h:rY w0 w2 kb v z done y)(he:b.enum=false)(hkb:kb<w0.heap.size)
  (hz:z[(gh done).length]?=some (nm,mbi)) (hG:R8 b gs) (hlo:∀x,lo<=x->Qz w0 z v x) (hr:eD w2 (λx=>lo<=x) 212 1 fv2 Ur.length (eU Ur)) (hf:fT w2 (λx=>lo<=x) (lR z) gs Ur):
  ∃y',rY w0 (w2.setCell (ai mbi 1) fv2) kb v z (done++ [b]) y':=by
 have Ut:(nm,mbi)∈z:=aI hz;have Us:=h.at_ _ Ut;have Uv:∀x,Qz w0 z v x->x≠mbi:=λx hx e=>hx.2.1 (by rw[e];exact aP.2 ⟨_,Ut,rfl⟩)
 have Uq:∀x,x≠mbi->(w2.setCell (ai mbi 1) fv2).heap[x]?=w2.heap[x]?:=λx hx=>by rw[dK,dD (λe=>hx e.symm)]
 have hlen:y.length=z.length:=by rw[<-h.zy];simp
 have Uw:(gh done).length<y.length:=by
  rw[hlen]
  by_cases hq:(gh done).length<z.length
  ·exact hq
  ·rw[aY Ue]at hz;cases hz
 refine⟨y.set (gh done).length ((nm,mbi),gs),?_⟩;have Uu:gh (done++ [b])=gh done++ [b]:=by simp[gh,he]
 refine⟨?_,?_,?_,?_,h.at_,h.nd,?_,?_⟩
 ·exact d6 h.row (λx hx=>Uq x (λe=>Us.2 (by rw[hx,e])))
 ·exact h.map.keep (Uq kb (by show kb≠mbi;have:=Us.1;simp only at this;omega))
 ·rw[List.map_set,h.zy];apply List.ext_getElem?;intro j;rw[dA]
  split
  ·rename_i e
   subst e;rw[dE Ue,hz]
  ·rfl
 ·intro m hm;have⟨j,hj⟩:=da hm;rw[dA]at hj
  split at hj
  ·obtain rfl:=Option.some.inj hj;obtain⟨m0,Ux⟩:∃m0,y[(gh done).length]?=some m0:=⟨_,aK Uw⟩;have⟨fv,l,h1,_,_⟩:=h.mi m0 (aI Ux)
   have e0:m0.1=(nm,mbi):=by
    have:z[(gh done).length]?=some m0.1:=by rw[<-h.zy,aO,Ux];rfl
    rw[hz]at this;exact(Option.some.inj this).symm
   rw[e0]at h1;refine⟨fv2,Ur,h1.set 1 fv2,?_,?_⟩
   ·exact(hr.mono (S':=Qz w0 z v) (λx hx _=>hlo x hx)).keep (λx hx _=>Uq x (Uv x hx))
   ·exact(hf.mono (Q:=Qz w0 z v) (λx hx _=>hlo x hx)).keep (λx hx _=>Uq x (Uv x hx))
  ·rename_i UC
   have Uy:m∈y:=aI hj;have Uz:z[j]?=some m.1:=by rw[<-h.zy,aO,hj];rfl
   have UA:m.1.2≠mbi:=by
    intro e;apply UC;have e1:(z.map (·.2))[(gh done).length]?=some mbi:=by rw[aO,hz];rfl
    have e2:(z.map (·.2))[j]?=some mbi:=by rw[aO,Uz,<-e];rfl
    exact(List.getElem?_inj (by rw[bE];omega) h.nd).1 (e1.trans e2.symm)
   have⟨fv,l,h1,h2,h3⟩:=h.mi m Uy;exact⟨fv,l,(Uq _ UA).trans h1,h2.keep (λx hx _=>Uq x (Uv x hx)),h3.keep (λx hx _=>Uq x (Uv x hx))⟩
 ·intro i c hc;rw[Uu,List.getElem?_append]at hc
  split at hc
  ·rename_i hi
   have⟨m,h1,h2⟩:=h.g i c hc;exact⟨m,by rw[dA,dD Ue];exact h1,h2⟩
  ·rename_i hi
   have UB:i=(gh done).length:=by
    by_cases hq:i-(gh done).length=0
    ·omega
    ·rw[aY Ug]at hc;cases hc
   subst UB;simp at hc;subst hc;exact⟨_,by rw[dA,dE rfl,dE Uw],hG⟩
 ·have hk:=h.kept;refine⟨hk.os,hk.tape,hk.output,by simpa using hk.size,λk UD UE=> ?_⟩;rw[Uq k (by have:=Us.1;simp only at this;omega)];exact hk.block k UD UE
def zp {z:List (am×Nat)}{s:am}:∀{r:List (am×Nat)} {mp:am->Option Nat},(∀x∈r,x.1.toList≠s.toList)->r.foldl (λmp x=>ja mp x.1 x.2) mp s=mp s
 | [],_,_=>rfl
 |x::r,mp,h=>by
  rw[List.foldl_cons,zp (z:=z) (λy hy=>h y (aT _ hy))];unfold ja;rw[dD];unfold gG;simp;exact λe=>h x aV e.symm
def FN:∀{r:List (am×Nat)} {mp:am->Option Nat} {s:am} {b:Nat},(r.map (·.1)).Pairwise (λx y=>x.toList≠y.toList)->(s,b)∈r->r.foldl (λmp x=>ja mp x.1 x.2) mp s=some b
 | [],_,_,_,_,h=>by simp at h
 |x::r,mp,s,b,hp,h=>by
  rw[List.foldl_cons];rw[bO,bg]at hp
  rcases aN.1 h with rfl|h
  ·rw[zp (z:=r) (λy hy e=>hp.1 y.1 (aP.2 ⟨y,hy,rfl⟩) e.symm)];unfold ja;rw[dE (by unfold gG;simp)]
  ·exact FN hp.2 h
def qe {z:List (am×Nat)}{s:am}{b:Nat}(hp:(z.map (·.1)).Pairwise (λx y=>x.toList≠y.toList))(h:(s,b)∈z):lR z s=some b:=FN hp h
end
section
open Go.Maps Go.ChangeMaps Go.WideMaps Go.WideElems
open Uq
structure fI (w:an)(P:ap)(v:Value)(bs:List dQ)(y:List YM):Prop where
 row:eD w P 105 1 v y.length (eU (y.map (·.1.2)))
 names:y.map (·.1.1)=dY bs
 msg:∀m∈y,iE w P (lR (y.map (·.1))) m.1.2 m.1.1 m.2
 g:∀(i:Nat) (b:dQ),(gh bs)[i]?=some b->∃m:YM,y[i]?=some m/\R8 b m.2
def Jb (w:an)(bs:List dQ)(e:Ending)(w':an):Prop:=∃v y,e= .returned v/\fI w' (λb=>w.heap.size<=b) v bs y/\aj w w'
def MZ (w:an)(ta:aw)(tc:Nat)(bs:List dQ)(cs:aq)(S:ap)(hrow:eD w S 152 6 (.slice ta bs.length tc) bs.length cs)(hbs:eQ w S cs bs)(hok:CN bs)(hg:GOK w)(hb:BOK w):
  Calls prog 35 #[.agg #[.slice ta bs.length tc]] w (Jb w bs):=by
 have⟨i0,Va,Vb,Vc,Vd⟩:=info_parts Tryz.info105;have hmm:= @run_makeMap prog;have UB:=hok.few;have C0:aj w ((w.alloc (ak #[.slice ta bs.length tc] 87)).alloc (Obj.map #[] 0)):=(Ud w _).alloc Uf _;have UR:=(dM.new w #[.slice ta bs.length tc] 87).alloc (Obj.map #[] 0)
 have M0:fU ((w.alloc (ak #[.slice ta bs.length tc] 87)).alloc (Obj.map #[] 0)) (w.heap.size+1) 0 (λ_=>none):=by
  have:=fU.made (w.alloc (ak #[.slice ta bs.length tc] 87));simpa using this
 go_in
 go_wp2_with fail;generalize((w.alloc (ak #[.slice ta bs.length tc] 87)).alloc (Obj.map #[] 0))=w1 at*;have zk:w.heap.size+1<w1.heap.size:=M0.lt;refine(TN w1 ta bs.length tc bs cs S (hrow.keep (λb _ hl=>C0.block b hl)) (hbs.keep (λb _ hl=>C0.block b hl)) UB hok.ok).mono ?_;rintro e w0 ⟨nv,rfl,Us,UE⟩;obtain⟨na,nn,nc,rfl⟩:=dN Us;obtain rfl:nn=(dY bs).length:=eK Us;have C1:=ew C0 UE;have U1:=UR.below UE Ue;have M1:=M0.keep (UE.block _ M0.lt);have zk0:w.heap.size+1<w0.heap.size:=by have:=UE.size;omega
 have hnl:(dY bs).length<=2001:=by
  rw[iN,bE];exact aG (bV _ _) UB
 have UC:∀s∈dY bs,s.size<=2000:=λs hs=>by
  obtain⟨b,Uy,rfl⟩:=aP.1 hs;exact(hok.ok b (bw.1 Uy).1).name
 have Ut:eD w0 (λx=>w1.heap.size<=x) 9 1 (.slice na (dY bs).length nc) (dY bs).length (fF (dY bs)):=eD.of Us;have B0:Hm w0 w0 (w.heap.size+1) (ah) []:=⟨bm _ _ _ _,M1,Uf,List.nodup_nil,dX.refl _ _⟩;clear Us UE M0 M1 UR C0;go_wp2;go_loopw [4,14] (λv i wr=>∃(k:Nat) (z:List (am×Nat)),k<=(dY bs).length/\i=aa k/\z.map (·.1)=(dY bs).take k/\Hm w0 wr (w.heap.size+1) v z) (λ_ i _=>(dY bs).length-(intOf i).toNat)
 case atStart=>exact⟨0,[],aL _,rfl,rfl,B0⟩
 case round=>
  clear B0;obtain⟨k,z,hk,rfl,hz,HB⟩:=hrel
  by_cases hlt:k<(dY bs).length
  ·obtain⟨s,hs⟩:∃s,(dY bs)[k]?=some s:=⟨_,aK hlt⟩;have hsz:=UC s (aI hs);have Uv:(dY bs).take (k+1)=(dY bs).take k++ [s]:=by rw[bJ,hs];rfl
   have hzl:z.length=k:=by have:=dH List.length hz;grind
   obtain⟨g,rfl,_,UM,Uq⟩:=el Ut.1 Ue;have hgw:w1.heap.size<=g:=Ut.2 g rfl;have hq:=Uq wr (HB.kept.block g UM (by grind)) k (ae s) (by simp[fF,hs]);have UD:=HB.row.alloc (ak #[ae s,ah] 108);have⟨D,Ve,Vf⟩:=HB.map;have US:=Ve.alloc (ak #[ae s,ah] 108);have U2:z.length<maxLen:=Ul;have hob:=HB.row.lt;clear Uq;go_wp2_with (first|(at_mapUpdate;refine wpList_mapUpdate_own _ rfl _ _ _ 145 rfl 9 105 Hd underlying145 _ (w.heap.size+1) _ _ rfl US U2 _ _ _ rfl rfl (He s Ul) _ [] (kK (some wr.heap.size)) ?_;intro w2 UF Ur)|(at_builtin;refine wpList_append_own_at _ rfl _ _ 83 rfl w0.heap.size 105 i0 _ 1 8 underlying83 Va Vb Vc Vd rfl Uh u4 _ _ rfl ((UD.kept Ur (.inr (λe=>by grind))).alloc _) _ 1 1 [_] rfl rfl (cell_one_new _ _ _) ?h1 ?h63 ?hby ?hba ?_;rotate_right;intro v' w5 UG Uz hnil UN))
   case h1=>rfl
   case h63=>omega
   case hby=>omega
   case hba=>have:=Ur.size;have:=HB.kept.size;simp at*;omega
   have U3:=HB.snoc Ue Ur (fU.put US Vf UF) Uz UG UN;exact⟨⟨k+1,z++ [(s,wr.heap.size)],Ue,by go_num,by grind,U3⟩,by simp[intOf];omega⟩
  ·have hli:decide ((k:Int)<((dY bs).length:Int))=false:=by grind
   obtain rfl:k=(dY bs).length:=Ue;rw[bo]at hz;have U4:=rY.start HB
   have U5:(z.map (·.1)).Pairwise (λx y=>x.toList≠y.toList):=by
    rw[hz,iN];exact List.Pairwise.sublist (List.Sublist.map _ dq) hok.names
   have⟨t1,t2⟩:=((show dM wr w.heap.size #[.slice ta bs.length tc] 87 from(HB.kept.block _ Ue Uf).trans U1)).rules;clear HB Ut UC;go_wp2_with fail;clear t1 t2;go_loopw [32] (λi wr=>∃(k:Nat) (y:List YM),k<=bs.length/\i=aa k/\rY w0 wr (w.heap.size+1) u4 z (bs.take k) y) (λi _=>bs.length-(intOf i).toNat)
   case atStart=>exact⟨0,_,aL _,rfl,by rw[List.take_zero];omega⟩
   case round=>
    clear U4;obtain⟨k,y,hk2,rfl,HC⟩:=hrel;have CW:aj w wr:=C1.trans (HC.kept.to_below Ue Uf)
    by_cases hlt2:k<bs.length
    ·have⟨b,Uy⟩:=gx hlt2;have UJ:=aI Uy;have Uv:bs.take (k+1)=bs.take k++ [b]:=by rw[bJ,Uy];rfl
     obtain⟨g,rfl,_,UM,Uq⟩:=el hrow.1 Ue;have⟨pa,pn,pc,va,vn,vc,p0,p1,p2,p3,p4,p5,Vg,UZ,Vh,_⟩:=hbs.get Uy;obtain rfl:pn=b.parts.length:=eK UZ.1;have Uw:=Uq wr (CW.block g UM);rw[Nat.add_zero]at p0;have q0:=Uw _ _ p0;have q1:=Uw _ _ p1;have q2:=Uw _ _ p2;have q3:=Uw _ _ p3;have q4:=Uw _ _ p4;have q5:=Uw _ _ p5;have KB:=dM.new wr #[.bool b.enum,aa (dJ b.name.1),ae b.name.1,aa b.name.2,.slice pa b.parts.length pc,.slice va vn vc] 152;have UH:=HC.on ((Uc wr).alloc (ay _) (ak #[.bool b.enum,aa (dJ b.name.1),ae b.name.1,aa b.name.2,.slice pa b.parts.length pc,.slice va vn vc] 152));clear Uq Uw p0 p1 p2 p3 p4 p5 HC
     cases hen:b.enum
     ·rw[hen]at q0 KB UH
      have U6:(gh bs)[(gh (bs.take k)).length]?=some b:=by
       have e1:bs=bs.take k++b::bs.drop (k+1):=by
        conv=>lhs;rw[<-ca k bs]
        rw[aX hlt2];rw[aK hlt2]at Uy;rw[Option.some.inj Uy]
       have e2:gh bs=gh (bs.take k)++b::gh (bs.drop (k+1)):=by
        conv=>lhs;rw[e1]
        simp[gh,hen]
       grind
      obtain⟨UA,UO⟩:∃UA,z[(gh (bs.take k)).length]?=some (b.name.1,UA):=by
       have e3:(z.map (·.1))[(gh (bs.take k)).length]?=some b.name.1:=by rw[hz,iN,aO,U6];rfl
       grind
      have UT:lR z b.name.1=some UA:=qe U5 (aI UO);have hbsz:=(hok.ok b UJ).name;go_upto_region 14 with fail
      clear q0 q1 q2 q3 q4 q5;have U7:aj w (wr.alloc (ak #[.bool false,aa (dJ b.name.1),ae b.name.1,aa b.name.2,.slice pa b.parts.length pc,.slice va vn vc] 152)):=CW.alloc CW.size _;generalize hw1:wr.alloc (ak #[.bool false,aa (dJ b.name.1),ae b.name.1,aa b.name.2,.slice pa b.parts.length pc,.slice va vn vc] 152)=W1 at*;have zc:wr.heap.size<W1.heap.size:=KB.lt;clear hw1;generalize wr.heap.size=c9 at*;have UI:aj w W1.drew:=U7.drew;have UK:=KB.drew;have Uu:rY w0 W1.drew (w.heap.size+1) u4 z (bs.take k) y:=UH.on (Below.refl _ _).drew
      have UU:Hid (Ua 67 #[.map (some (w.heap.size+1)),.agg #[.bool false,aa (dJ b.name.1),ae b.name.1,aa b.name.2,.slice pa b.parts.length pc,.slice va vn vc]] W1.drew (zl W1.drew (lR z) b)):=by
       have:=I8 W1.drew (w.heap.size+1) z.length (lR z) b pa va pc vn vc Vg S (UZ.keep (λx _ hl=>UI.block x hl)) (Vh.keep (λx _ hl=>UI.block x hl)) Uu.map (hok.ok b UJ).parts (λp hp f hf=>hok.field UJ hen hp hf) (hg.keep (UI.block _ hg.lt)) (hb.keep (UI.block _ hb.lt));rw[hen]at this;exact this
      have Ux:=Uu.map.look b.name.1 Ul;rw[UT]at Ux;unfold gI at Ux
      have UV:Hid (∀w2:an,Below W1.drew.heap.size W1.drew w2->(Instr.lookup 145 (.map (some (w.heap.size+1))) (ae b.name.1) false).run prog w2= .ok (ag UA) w2):=λw2 h2=>by
       have h3:=((Uu.on h2).map.look b.name.1 Ul);rw[UT]at h3;exact h3
      have UW:Hid (∀w2:an,Below W1.drew.heap.size W1.drew w2->∃fv,dM w2 UA #[ae b.name.1,fv] 108):=λw2 h2=>by
       have h3:=Uu.on h2;have h4:(b.name.1,UA)∈z:=aI UO;rw[<-h3.zy]at h4;have⟨m,hm,Vi⟩:=aP.1 h4;have⟨fv,UP,h5,_,_⟩:=h3.mi m hm;rw[Vi]at h5;exact⟨fv,h5⟩
      have⟨x1,x2⟩:=UK.rules;go_region_with (first|(go_at_call 67;refine UU.out.mono ?_;rintro e w2 ⟨fv2,gs,UP,rfl,Vj,Vk,U0,Vl,b2⟩;obtain⟨fa2,fn2,fc2,rfl⟩:=dN U0.1;have UL:=UV.out w2 b2;have⟨fvo,KM⟩:=UW.out w2 b2;have⟨x3,x4⟩:=(UK.below b2 UK.lt).rules;have⟨x5,x6⟩:=KM.rules))
      all_goals
       have UX:=Uu.on b2
       have UY:∀x,W1.drew.heap.size<=x->Qz w0 z u4 x:=λx hx=>by
        refine⟨?_,?_,?_⟩
        ·have:=Uu.kept.size;omega
        ·intro UQ;obtain⟨q,hq,rfl⟩:=aP.1 UQ;rw[<-Uu.zy]at hq;obtain⟨m,hm,rfl⟩:=aP.1 hq;have⟨_,_,h5,_,_⟩:=Uu.mi m hm;have:=h5.lt;omega
        ·intro e;have:=(Uu.row.lt _ e).2;omega
       have⟨y',HCy⟩:=UX.message hen Ue UO ⟨Vj,Vk⟩ UY U0 Vl;clear UX UY UU UV UW Ux UL x1 x2 x3 x4 x5 x6;go_wp2;go_roundw
       case rel=>grind
       case measure=>simp[intOf];omega
     ·rw[hen]at q0 KB UH;go_wp2;go_roundw
      case rel=>exact⟨k+1,y,Ue,rfl,by rw[Uv];exact UH.enum hen⟩
      case measure=>simp[intOf];omega
    ·have hli2:decide ((k:Int)<(bs.length:Int))=false:=by grind
     obtain rfl:k=bs.length:=Ue;rw[bo]at HC;go_wp2;go_ret;have U8:y.length=z.length:=by rw[<-HC.zy];simp
     refine⟨u4,y,rfl,⟨?_,?_,?_,HC.g⟩,CW⟩
     ·have h1:=eD.of HC.row;have e1:y.map (·.1.2)=z.map (·.2):=by rw[<-HC.zy,bB];rfl
      rw[e1,U8];exact h1.mono (λx hx _=>Ue)
     ·have e1:y.map (·.1.1)=z.map (·.1):=by rw[<-HC.zy,bB];rfl
      rw[e1,hz]
     ·intro m hm;have⟨fv,UP,h1,h2,h3⟩:=HC.mi m hm;have U9:m.1∈z:=by rw[<-HC.zy];exact aP.2 ⟨m,hm,rfl⟩
      rw[HC.zy];exact⟨fv,UP,h1,by have:=(HC.at_ _ U9).1;omega,h2.mono (λx hx _=>by have:=hx.1;omega),h3.mono (λx hx _=>by have:=hx.1;omega)⟩
end
def nP (b:dQ):MT:=⟨b.name.1,b.parts.flatMap λp=>p.fields.map (iM p.oneof)⟩
def dU (bs:List dQ):d8:=⟨(gh bs).map nP,(bs.filter λb=>b.enum).map λb=>b.name.1⟩
def zq:∀(l:List (List UInt8)) (s:List UInt8) (k:Nat),l.contains s=false->CF l s k=none
 | [],s,k,_=>rfl
 |x::l,s,k,h=>by
  rw[ba,dd]at h;rw[CF,dD (by simp_all)];exact zq l s (k+1) h.2
def zv:∀(l:List (List UInt8)) (s:List UInt8) (k:Nat),l.contains s=true->∃n,CF l s k=some n
 | [],s,k,h=>by grind
 |x::l,s,k,h=>by
  rw[CF]
  by_cases q:(s==x)=true
  ·simp_all
  ·rw[dD q];rw[ba,ci]at h;exact zv l s (k+1) (h.resolve_left q)
def CO (t:am):∀(z:List (am×Nat)) (mp:am->Option Nat),(z.foldl (λmp x=>ja mp x.1 x.2) mp t).isSome=(eM (z.map (·.1)) t||(mp t).isSome)
 | [],mp=>Uk
 |x::z,mp=>by
  rw[List.foldl_cons,CO t z];unfold ja eM gG
  grind
def rl (z:List (am×Nat))(t:am):(lR z t).isSome=eM (z.map (·.1)) t:=by
 unfold lR;rw[CO];simp
def iF (l:ar)(s:am):eM l s=true<->∃x∈l,x.toList=s.toList:=by
 unfold eM;simp
def Eu {bs:List dQ}(hok:CN bs){t:am}(h:eM (fi bs) t=true):eM ((bs.filter λb=>b.enum).map λb=>b.name.1) t= !(eM (dY bs) t):=by
 have key:∀b∈bs,∀c∈bs,b.name.1.toList=t.toList->c.name.1.toList=t.toList->b.enum=c.enum:=by
  intro b hb c hc h1 h2;have⟨i,hi⟩:=da hb;have⟨j,hj⟩:=da hc;have hp:=hok.names;unfold fi at hp;rw[cm,bM]at hp
  grind
 have⟨x,hx,Uq⟩:=(iF _ _).1 h;obtain⟨b,hb,rfl⟩:=aP.1 hx
 cases he:b.enum
 ·have h1:eM (dY bs) t=true:=(iF _ _).2 ⟨_,aP.2 ⟨b,bw.2 ⟨hb,by grind⟩,rfl⟩,Uq⟩;rw[h1]
  cases h2:eM ((bs.filter λb=>b.enum).map λb=>b.name.1) t
  ·rfl
  ·have⟨y,hy,Ur⟩:=(iF _ _).1 h2
   grind
 ·have h1:eM ((bs.filter λb=>b.enum).map λb=>b.name.1) t=true:=(iF _ _).2 ⟨_,aP.2 ⟨b,bw.2 ⟨hb,Ue⟩,rfl⟩,Uq⟩;rw[h1]
  cases h2:eM (dY bs) t
  ·rfl
  ·have⟨y,hy,Ur⟩:=(iF _ _).1 h2;obtain⟨c,hc,rfl⟩:=aP.1 hy
   grind
def vG {bs:List dQ}(hok:CN bs){z:List (am×Nat)}(hz:z.map (·.1)=dY bs){t:am}(ht:dJ t=3\/(dJ t=1/\eM (fi bs) t=true)):(dU bs).base t=i8 (lR z) t:=by
 unfold d8.base i8
 by_cases h3:dJ t=3
 ·rw[dE h3];have⟨n,hn⟩:=zv mN t.toList 0 (mm h3);unfold nw
  simp_all
 ·rw[dD h3];have⟨h1,hm⟩:=ht.resolve_left h3
  have hb:mN.contains t.toList=false:=by
   cases q:mN.contains t.toList
   ·rfl
   ·exfalso;have h4:=CD t;rw[show je t.toList=true from q]at h4
    simp_all
  rw[zq _ _ _ hb,rl,hz];show(if eM ((bs.filter λb=>b.enum).map λb=>b.name.1) t then 15 else 16)=_;rw[Eu hok hm]
  cases eM (dY bs) t<;>rfl
def qf (a b:am):gG a b=true<->a.toList=b.toList:=by unfold gG;simp
def pu {t:am}:∀{l:List dQ},(∃b∈l,b.name.1.toList=t.toList)->∃(i:Nat) (b:dQ),l[i]?=some b/\b.name.1.toList=t.toList/\mg (l.map nP) t=some (nP b)
 | [],h=>by simp_all
 |c::l,h=>by
  by_cases q:c.name.1.toList=t.toList
  ·exact⟨0,c,rfl,q,by rw[bO,mg,dE (show gG (nP c).name t=true from(qf _ _).2 q)]⟩
  ·obtain⟨b,hb,Us⟩:=h
   rcases aN.1 hb with rfl|hb
   ·simp_all
   ·have⟨i,d,h1,h2,h3⟩:=pu (t:=t) (l:=l) ⟨b,hb,Us⟩;exact⟨i+1,d,by simpa using h1,h2,by rw[bO,mg,dD (show¬gG (nP c).name t=true from λe=>q ((qf _ _).1 e))];exact h3⟩
def pw {t:am}:∀{l:List dQ},(∀b∈l,b.name.1.toList≠t.toList)->mg (l.map nP) t=none
 | [],_=>rfl
 |c::l,h=>by
  rw[bO,mg,dD (show¬gG (nP c).name t=true from λe=>h c aV ((qf _ _).1 e))];exact pw (λb hb=>h b (aT _ hb))
def Jc {z:List (am×Nat)}{s t:am}(h:s.toList=t.toList):lR z s=lR z t:=by
 obtain rfl:s=t:=by
  apply cM;apply cT.1;rw[<-ByteArray.toList_eq,<-ByteArray.toList_eq];exact h
 rfl
def px {bs:List dQ}(hok:CN bs){z:List (am×Nat)}(hz:z.map (·.1)=dY bs){t:am}(h:eM (dY bs) t=true):
  ∃(i:Nat) (b:dQ) (blk:Nat),(gh bs)[i]?=some b/\(dU bs).msg t=some (nP b)/\z[i]?=some (b.name.1,blk)/\lR z t=some blk:=by
 have⟨x,hx,Ut⟩:=(iF _ _).1 h;obtain⟨c,hc,rfl⟩:=aP.1 hx;have⟨i,b,h1,h2,h3⟩:=pu (t:=t) (l:=gh bs) ⟨c,hc,Ut⟩;have e3:(z.map (·.1))[i]?=some b.name.1:=by rw[hz,iN,aO,h1];rfl
 rw[aO]at e3;have⟨y,hy,Uu⟩:=aW.1 e3;have Uq:y=(b.name.1,y.2):=by rw[<-Uu]
 have Ur:(z.map (·.1)).Pairwise (λx y=>x.toList≠y.toList):=by
  rw[hz,iN];exact List.Pairwise.sublist (List.Sublist.map _ dq) hok.names
 refine⟨i,b,y.2,h1,h3,by rw[hy,<-Uq],?_⟩;rw[<-Jc h2];exact qe Ur (by grind)
def wO {bs:List dQ}{z:List (am×Nat)}(hz:z.map (·.1)=dY bs){t:am}(h:eM (dY bs) t=false):(dU bs).msg t=none/\lR z t=none:=by
 refine⟨pw (λb hb e=> ?_),?_⟩
 ·have:eM (dY bs) t=true:=(iF _ _).2 ⟨_,aP.2 ⟨b,hb,rfl⟩,e⟩
  simp_all
 ·have:=rl z t
  simp_all
def gT (ps:List fo):ar:=ps.filterMap λp=>p.oneof.map (·.1)
def mq {types:ar}:∀(fs:List eF) (names:ar) (nums:au) (n:ar) (m:au),fX types names nums fs= .ok (n,m)->∀s,eM names s=true->eM n s=true
 | [],names,nums,n,m,h,s,hs=>by
  simp[fX]at h
  simp_all
 |f::fs,names,nums,n,m,h,s,hs=>by
  unfold fX at h
  split at h
  ·cases h
  ·rename_i n1 m1 h1
   have g:=rW h1;refine mq fs n1 m1 n m h s ?_;rw[g.2.2.2.1,lp,hs];rfl
def r9 {types:ar}:∀(ps:List fo) (names:ar) (nums:au) (n:ar) (m:au),gy types names nums ps= .ok (n,m)->(∀p∈ps,∀o,p.oneof=some o->dJ o.1=1)->
  (gT ps).Pairwise (λx y=>x.toList≠y.toList)/\(∀s∈gT ps,eM names s=false)
 | [],names,nums,n,m,_,_=>⟨List.Pairwise.nil,by simp[gT]⟩
 |p::ps,names,nums,n,m,h,hk=>by
  unfold gy at h
  split at h
  ·cases h
  ·rename_i n1 m1 h1
   have ih:=r9 ps n1 m1 n m h (λq hq=>hk q (aT _ hq))
   cases ho:p.oneof with
   |none=>
    have e:gT (p::ps)=gT ps:=by simp[gT,ho]
    rw[e];refine⟨ih.1,λs hs=> ?_⟩;have h2:=ih.2 s hs;unfold mf at h1;rw[ho]at h1;have h3:fX types names nums p.fields= .ok (n1,m1):=by simpa [lW]using h1
    cases q:eM names s
    ·rfl
    ·rw[mq _ _ _ _ _ h3 s q]at h2
     cases h2
   |some o=>
    have e:gT (p::ps)=o.1::gT ps:=by simp[gT,ho]
    rw[e];have hk1:dJ o.1=1:=hk p aV o ho;unfold mf at h1;rw[ho]at h1
    have hq:(lW (some o)==1)=true:=by
     show(dJ o.1==1)=true
     (simp;omega)
    rw[dE hq]at h1
    split at h1
    ·cases h1
    ·rename_i hb
     have Ut:il names o.1=false:=by simpa [jg]using hb
     have hm:eM names o.1=false:=by
      unfold il at Ut
      simp_all
     have Us:∀s,eM (names++ [o.1]) s=true->eM n1 s=true:=mq _ _ _ _ _ h1;refine⟨List.Pairwise.cons (λy hy e2=> ?_) ih.1,λs hs=> ?_⟩
     ·have h4:=ih.2 y hy;rw[Us y (by rw[lp];simp[eM,e2])]at h4
      cases h4
     ·rcases aN.1 hs with rfl|hs
      ·exact hm
      ·have h4:=ih.2 s hs
       cases q:eM names s
       ·rfl
       ·rw[Us s (by rw[lp,q];rfl)]at h4
        cases h4
def mr {types:ar}:∀(bs:List dQ) (names:ar) (m:Nat),fC types names m bs= .ok ()->∀b∈bs,b.enum=false->∃a c,gy types [] [] b.parts= .ok (a,c)
 | [],_,_,_,b,hb,_=>by simp at hb
 |x::bs,names,m,h,b,hb,he=>by
  unfold fC at h
  split at h
  ·cases h
  ·split at h
   ·rename_i hx
    split at h
    ·cases h
    ·rcases aN.1 hb with rfl|hb
     ·simp_all
     ·exact mr bs _ _ h b hb he
   ·split at h
    ·cases h
    ·split at h
     ·cases h
     ·rename_i n1 h5
      rcases aN.1 hb with rfl|hb
      ·grind
      ·exact mr bs _ _ h b hb he
def Ev {t:am}{bs:List dQ}(h:im t= .ok bs){b:dQ}(hb:b∈bs)(he:b.enum=false):(gT b.parts).Pairwise (λx y=>x.toList≠y.toList):=by
 have Uu:=rk h;unfold im at h
 split at h
 ·cases h
 ·split at h
  ·cases h
  ·split at h
   ·cases h
   ·rename_i h4
    cases h
    have⟨a,c,hp⟩:=mr _ _ _ h4 b hb he;refine(r9 _ _ _ _ _ hp (λp hp o ho=> ?_)).1
    rcases(Uu.shape b hb p hp).2 with⟨o2,h1,h2,_⟩|⟨h1,_⟩
    ·simp_all
    simp_all
def kL (d:MT)(f:eT):List Int:=(d.fs.filter λo=>gG o.how f.how&&jh o.how&&decide (o.num≠f.num)).map (·.num)
def QX (s:am)(k:Nat):fL s k=((s.data.toList.getD k 0).toNat:Int):=by
 have hz:s.data.size=s.size:=rfl;unfold fL
 by_cases h:k<s.size
 ·rw[dif_pos h,bW,bz,bF (show k<s.data.size from h)];rfl
 ·rw[dif_neg h,bW,bz,cE Ue];rfl
def zx (s:am):jh (qJ s)=true:=by
 rfl
def M4 {s t:am}(h:gG (qJ s) (qJ t)=true):s.toList=t.toList:=by
 rw[qf]at h;unfold qJ at h;rw[ByteArray.toList_eq,ByteArray.toList_eq]at h⊢
 simp_all
def zA (form:Int):jh (yG none form)=false:=by
 unfold yG;simp only
 split
 ·decide
 ·split
  ·decide
  ·split<;>decide
def Pt {q p:fo}{o:W}{f g:eF}(hp:p.oneof=some o)(hq:∀o2,q.oneof=some o2->o2.1.toList≠o.1.toList):(gG (iM q.oneof g).how (iM p.oneof f).how&&jh (iM q.oneof g).how)=false:=by
 cases Ur:q.oneof with
 |none=>
  show(gG (yG none g.form) _&&jh (yG none g.form))=false;rw[zA,cB]
 |some o2=>
  rw[hp];show(gG (qJ o2.1) (qJ o.1)&&jh (qJ o2.1))=false
  cases h:gG (qJ o2.1) (qJ o.1)
  ·rfl
  ·exact absurd (M4 h) (hq o2 Ur)
def zC {q p:fo}{o:W}{f:eF}(hp:p.oneof=some o)(hq:∀o2,q.oneof=some o2->o2.1.toList≠o.1.toList):
  ((q.fields.map (iM q.oneof)).filter λx=>gG x.how (iM p.oneof f).how&&jh x.how&&decide (x.num≠(iM p.oneof f).num))= []:=by
 rw[List.filter_eq_nil_iff];intro x hx;obtain⟨g,_,rfl⟩:=aP.1 hx;rw[Pt hp hq];simp
def M5 (s:am):gG s s=true:=(qf _ _).2 rfl
def Pv {b:dQ}(hones:(gT b.parts).Pairwise (λx y=>x.toList≠y.toList))(hshape:AK b){p:fo}(hp:p∈b.parts){f:eF}(hf:f∈p.fields):kL (nP b) (iM p.oneof f)=pp p f:=by
 unfold kL nP;simp only;rw[List.filter_flatMap]
 cases ho:p.oneof with
 |none=>
  have h0:∀q∈b.parts,((q.fields.map (iM q.oneof)).filter λx=>gG x.how (iM none f).how&&jh x.how&&decide (x.num≠(iM none f).num))= []:=by
   intro q _;rw[List.filter_eq_nil_iff];intro x _ hx;simp only[aJ]at hx;have e:x.how.toList=(yG none f.form).toList:=(qf _ _).1 hx.1.1
   have e2:x.how=yG none f.form:=by
    apply cM;apply cT.1;rw[<-ByteArray.toList_eq,<-ByteArray.toList_eq];exact e
   have h1:=hx.1.2;rw[e2,zA]at h1
   cases h1
  rw[List.flatMap_eq_nil_iff.2 h0]
  rcases(hshape p hp).2 with⟨o,h1,_⟩|⟨_,g,hg,_⟩
  ·simp_all
  ·rw[hg]at hf;have e:f=g:=by simp_all
   unfold pp
   simp_all
 |some o=>
  have⟨l1,l2,hl⟩:=List.append_of_mem hp
  have Uq:gT b.parts=gT l1++o.1::gT l2:=by
   rw[hl];simp[gT,ho]
  rw[Uq,bU]at hones;obtain⟨_,h2,h3⟩:=hones;rw[bg]at h2
  have Uv:∀q∈l1,∀o2,q.oneof=some o2->o2.1.toList≠o.1.toList:=λq hq o2 Ur=>
   h3 o2.1 (List.mem_filterMap.2 ⟨q,hq,by simp_all⟩) o.1 aV
  have Uw:∀q∈l2,∀o2,q.oneof=some o2->o2.1.toList≠o.1.toList:=λq hq o2 Ur e=>
   h2.1 o2.1 (List.mem_filterMap.2 ⟨q,hq,by simp_all⟩) e.symm
  rw[hl,cV,bi];rw[List.flatMap_eq_nil_iff.2 (λq hq=>by rw[<-ho];exact zC ho (Uv q hq)),List.flatMap_eq_nil_iff.2 (λq hq=>by rw[<-ho];exact zC ho (Uw q hq))];rw[aS,bN,ho]
  have Ux:((p.fields.map (iM (some o))).filter λx=>gG x.how (iM (some o) f).how&&jh x.how&&decide (x.num≠(iM (some o) f).num))=(p.fields.filter λx=>decide (i9 x≠i9 f)).map (iM (some o)):=by
   rw[List.filter_map]
   congr 1;apply List.filter_congr;intro x _;show(gG (qJ o.1) (qJ o.1)&&jh (qJ o.1)&&decide ((iJ x.num.1:Int)≠(iJ f.num.1:Int)))=decide (i9 x≠i9 f);rw[M5,zx];rfl
  rw[Ux,bB];rfl
section
open Uq
def dW (w:an)(rb:Nat)(s:am)(a:Nat)(deep:Int):Prop:=dM w rb #[ae s,aa a,aa deep] 244
def Jd (w:an)(s:am):Calls prog 84 #[ae s] w λe w'=>e= .returned (ag w.heap.size)/\w'=w.alloc (.cells #[ae s,aa 0,aa 1] 244):=by
 go_in
 go_wp2;go_ret;exact⟨rfl,rfl⟩
def rm (w:an)(rb:Nat)(s:am)(a:Nat)(deep:Int)(h:dW w rb s a deep):Calls prog 129 #[ag rb] w λe w'=>e= .returned (.bool (decide (a<s.size)))/\∃q,w'=w.drewN q:=by
 have e0:decide (a<s.size)=decide ((a:Int)<(s.size:Int)):=by rw[co];simp
 rw[e0];have⟨k1,k2⟩:=dM.rules h;go_in
 go_wp2;go_quiet (fail)
 go_wp2;go_ret;exact⟨rfl,nq,rfl⟩
def Rf (w:an)(rb:Nat)(s:am)(a:Nat)(deep:Int)(h:dW w rb s a deep):Calls prog 130 #[ag rb] w λe w'=>e= .returned (aa a)/\w'=w:=by
 have⟨k1,k2⟩:=dM.rules h;go_in
 go_wp2;go_ret;exact⟨rfl,rfl⟩
def vH (w:an)(rb:Nat)(s:am)(a:Nat)(deep:Int)(st:Nat)(h:dW w rb s a deep)(h1:st<=a)(h2:a<=s.size):
  Calls prog 136 #[ag rb,aa st] w λe w'=>e= .returned (ae (s.extract st a))/\∃q,w'=w.drewN q:=by
 have⟨k1,k2⟩:=dM.rules h;go_in
 go_wp2;go_quiet (fail)
 go_wp2;go_ret;exact⟨rfl,nq,rfl⟩
def Ew (w:an)(rb:Nat)(s:am)(a:Nat)(deep:Int)(h:dW w rb s a deep)(h2:a<=s.size):
  Calls prog 272 #[ag rb] w λe w'=>e= .returned (ae (s.extract a s.size))/\∃q,w'=w.drewN q:=by
 have⟨k1,k2⟩:=dM.rules h;go_in
 go_wp2;go_quiet (fail)
 go_wp2;go_ret;exact⟨rfl,nq,rfl⟩
end


def Tryz.info102:(prog.info? 102).map (λi=>(i.zero,i.size,i.bytes))=some (some (.agg #[T9,aa 0]),2,24):=Uj
def lS (w:an)(a b:Value)(t:TypeId):∀j u,[a,b][j]?=some u->(w.alloc (.cells #[a,b] t)).cell? (((ai w.heap.size 0):Addr).add j)=some u:=by
 intro j u hj
 match j,hj with
 |0,hj=>simp at hj;subst hj;simp[Addr.add]
 |1,hj=>simp at hj;subst hj;simp[Addr.add]
 |j+2,hj=>simp at hj
def dX.below {bs:au}{a b c:an}(h:dX bs a b)(k:Below b.heap.size b c):dX bs a c:=h.trans (dX.of_below k)
def dX.drewN {bs:au}{a b:an}(h:dX bs a b)(n:Nat):dX bs a (b.drewN n):=h.trans ⟨rfl,rfl,rfl,ay _,λ_ _ _=>rfl⟩
def dM.kept {w w1:an}{bs:au}{b:Nat}{cs:Array Value}{T:TypeId}(h:dM w b cs T)(hk:dX bs w w1)(hn:b∉bs):dM w1 b cs T:=(hk.block b h.lt hn).trans h
def jX (t:am)(k:Nat):0<=fL t k/\fL t k<256:=by
 unfold fL
 split
 ·rename_i h
  have:=t[k].toNat_lt;omega
 ·omega
def zD (i:Nat):(2:Int)^(7*(i+1))=128*2^(7*i):=by
 rw[show 7*(i+1)=7*i+7 from by omega,Int.pow_add];omega
def wS {i j:Nat}(h:i<=j):(2:Int)^i<=2^j:=by
 have:=de (n:=2) Uh h
 exact_mod_cast this
def AP {i:Nat}{n c:Int}(h0:0<=n)(h1:n<2^(7*i)):0<=n+c%128*2^(7*i)/\n+c%128*2^(7*i)<2^(7*(i+1)):=by
 have hp:(0:Int)<2^(7*i):=Int.pow_pos Uh;have h2:0<=c%128:=Int.emod_nonneg _ Uh;have h3:c%128<=127:=by have:=Int.emod_lt_of_pos c (show(0:Int)<128 by decide);omega
 rw[zD];generalize(2:Int)^(7*i)=q at*;have h4:0<=c%128*q:=Int.mul_nonneg h2 Ue;have h5:c%128*q<=127*q:=Int.mul_le_mul_of_nonneg_right h3 Ue;omega
def gm {c:Int}(h0:0<=c)(h1:c<18446744073709551616):IntKind.u64.wrap c=c:=by
 simp[IntKind.wrap,IntKind.signed,IntKind.bits];omega
section
open Uq
def oU {α:Type}(w:an)(rb:Nat)(s:am)(deep:Int)(r:Fx (α×Nat))(V:α->Value)(e:Ending)(w':an):Prop:=
 dX [rb] w w'/\(match r with
 | .error x=>e=dL x.1 x.2
 | .ok x=>e= .returned (V x.1)/\dW w' rb s x.2 deep)
def dX.set1 {bs:au}{a b:an}(h:dX bs a b){c:Nat}(hp:c∈bs)(off:Nat)(u:Value):dX bs a (b.setCell (ai c off) u):=
 h.trans ⟨rfl,rfl,rfl,Uf,λk _ hn=>by
  rw[dK,dD];intro e;rw[e]at hp
  exact hn hp⟩
def Pw:∀c:Fin 256,bits .andNot .u8 ((c.val:Nat):Int) 128=((c.val%128:Nat):Int)/\(bits .and .u8 ((c.val:Nat):Int) 128==0)=decide (c.val<128):=Ui
def FQ {c:Int}(h0:0<=c)(h1:c<256):bits .andNot .u8 c 128=c%128/\(bits .and .u8 c 128==0)=decide (c<128):=by
 obtain⟨n,rfl⟩:=bt h0;have:=Pw ⟨n,Ue⟩;refine⟨?_,?_⟩
 ·rw[this.1];simp
 ·rw[this.2,co];simp;omega
def M6 {n x:Int}{k:Nat}(h0:0<=n)(h1:n<2^k)(hx:0<=x)(h2:n+x*2^k<18446744073709551616):bits .or .u64 n (x*2^k)=n+x*2^k:=by
 obtain⟨a,rfl⟩:=bt h0;obtain⟨b,rfl⟩:=bt hx;have e:((b:Int)*2^k)=((b*2^k:Nat):Int):=by push_cast;rfl
 rw[e]at h2⊢;have ha:a<2^k:=by exact_mod_cast h1
 rw[bits_or_u64_nat a (b*2^k) Ue Ue,Nat.or_comm,<-df,<-cX ha,df]
 push_cast
 omega
def dW.drewN {w:an}{rb:Nat}{s:am}{a:Nat}{deep:Int}(h:dW w rb s a deep)(q:Nat):dW (w.drewN q) rb s a deep:=h
def mt (w:an)(rb:Nat)(s:am)(a:Nat)(deep:Int)(h:dW w rb s a deep)(hs:s.size<=140737488355328):
  Calls prog 182 #[ag rb] w (oU w rb s deep (g9 s a s.size) (Value.int .u64)):=by
 obtain⟨r,HR⟩:∃r,Hid (g9 s a s.size=r):=⟨_,rfl⟩;rw[HR.out];have⟨k1,k2⟩:=dM.rules h;go_in
 go_wp2;clear k1 k2;go_loopw [4,5] (λv sh wr=>∃(i:Nat) (n:Int),i<=9/\v= .int .u64 n/\sh=aa ((7*i:Nat):Int)/\0<=n/\n<2^(7*i)/\Hid (lL s a s.size (10-i) i n=r)/\dW wr rb s (a+i) deep/\dX [rb] w wr) (λ_ sh _=>63-(intOf sh).toNat)
 case atStart=>exact⟨0,0,Ue,rfl,rfl,Ue,Uf,HR,h,dX.refl _ _⟩
 case round=>
  clear HR;obtain⟨i,n,hi,rfl,rfl,UF,UG,HV,Us,HK⟩:=hrel;have hrl:=dM.lt Us;obtain⟨m,hm⟩:∃m,10-i=m+1:=⟨9-i,Ue⟩;have HN:Hid (n<2^(7*i)):=UG;clear UG
  by_cases hlt:a+i<s.size
  ·have Uv:=jf (t:=s) (k:=a+i) hlt;have Uz:=jX s (a+i);obtain⟨c,hc⟩:∃c,fL s (a+i)=c:=⟨_,rfl⟩;have HC:Hid (fL s (a+i)=c):=hc;rw[hc]at Uv Uz;clear hc;obtain⟨Uy,UH⟩:=Uz;obtain⟨z,hz⟩:∃z,a+i=z:=⟨_,rfl⟩;have HZ:Hid (a+i=z):=hz;rw[hz]at Us hlt;have hbk2:(s[z].toNat:Int)=c:=by simp only[<-hz];exact Uv
   clear hz Uv;go_wp2_with fail;refine(rm _ _ _ _ _ Us).mono ?_;rintro e w2 ⟨rfl,q,rfl⟩;rw[decide_eq_true hlt];have UA:=Us.drewN q;have UI:=HK.drewN q;generalize wr.drewN q=wq at*;have hzl:(z:Int)<(s.size:Int):=Ue;have⟨k1,k2⟩:=dM.rules UA;go_upto_region 6 with fail
   go_quiet (fail)
   have Ut:dW (wq.drewN nq) rb s z deep:=UA.drewN nq;have Uu:=UI.drewN nq;generalize wq.drewN nq=w3 at*;clear k1 k2;have⟨k1,k2⟩:=dM.rules Ut
   by_cases h9:i=9/\1<c
   ·obtain⟨rfl,UD⟩:=h9
    have HE:Hid (r= .error (7,(a:Int))):=by
     have:=HV.out;rw[hm,lL,dE (by have:=HZ.out;omega),dE ⟨rfl,by rw[HC.out];exact UD⟩]at this;exact this.symm
    clear HN HV;go_wp2_with fail;refine(IH _ _ _).mono ?_;rintro e w4 ⟨rfl,rfl⟩;go_wp2;rw[HE.out];exact⟨rfl,Uu,rfl⟩
   ·have UB:¬(7*(i:Int)==63)=true\/¬1<c:=by
     by_cases h:i=9
     ·exact .inr (λhc=>h9 ⟨h,hc⟩)
     ·exact .inl Ug
    have hg:=AP (i:=i) (c:=c) UF HN.out;have UC:Hid (n+c%128*2^(7*i)<2^(7*(i+1))):=hg.2;have Uw:=hg.1;have Ur:0<=c%128:=Int.emod_nonneg _ Uh;have Ux:0<=c%128*2^(7*i):=Int.mul_nonneg Ur (Int.le_of_lt (Int.pow_pos Uh))
    have Uq:n+c%128*2^(7*i)<18446744073709551616:=by
     by_cases h:i=9
     ·subst h;have h1:=HN.out;have UD:¬1<c:=λh=>h9 ⟨rfl,h⟩
      have:c%128=c:=Int.emod_eq_of_lt Uy Ue;rw[this];simp only[Nat.reduceMul,Int.reducePow]at*;omega
     ·have h2:(2:Int)^(7*(i+1))<=2^63:=wS Ue;have h1:=hg.2;omega
    have HX:Hid (bits BinOp.or IntKind.u64 n (IntKind.u64.wrap (IntKind.u64.wrap (bits BinOp.andNot IntKind.u8 c 128)*2^(7*i)))=n+c%128*2^(7*i)):=by
     have UJ:=gm Ur Ue;have UK:=gm Ux Ue;show bits BinOp.or IntKind.u64 n (IntKind.u64.wrap (IntKind.u64.wrap (bits BinOp.andNot IntKind.u8 c 128)*2^(7*i)))=n+c%128*2^(7*i);rw[(FQ Uy UH).1,UJ,UK];exact M6 UF HN.out Ur Uq
    have UE:=(FQ Uy UH).2;clear hg
    by_cases hc8:c<128
    ·have HE:Hid (r= .ok (n+c%128*2^(7*i),z+1)):=by
      have:=HV.out;rw[hm,lL,dE (by have:=HZ.out;omega),dD (by rw[HC.out];exact h9),HC.out,dE hc8,HZ.out]at this;exact this.symm
     rw[decide_eq_true hc8]at UE;clear HV HN UC Uw Ur Ux Uq
     cases UL:(7*(i:Int)==63)
     ·go_wp2;go_ret;rw[HE.out,<-HX.out];exact⟨Uu.set1 Uf _ _,rfl,by unfold dW;simpa using dM.set Ut 1 (aa ((z:Int)+1))⟩
     ·have hc1':decide ((1:Int)<c)=false:=by rcases UB with h|h<;>simp_all
      go_wp2;go_ret;rw[HE.out,<-HX.out];exact⟨Uu.set1 Uf _ _,rfl,by unfold dW;simpa using dM.set Ut 1 (aa ((z:Int)+1))⟩
    ·have hi8:i<9:=by
      by_cases h:i=9
      ·exact absurd ⟨h,Ue⟩ h9
      ·omega
     have UL:(7*(i:Int)==63)=false:=Ug
     have UM:Hid (lL s a s.size (10-(i+1)) (i+1) (n+c%128*2^(7*i))=r):=by
      have:=HV.out;rw[hm,lL,dE (by have:=HZ.out;omega),dD (by rw[HC.out];exact h9),HC.out,dD hc8]at this;rw[show 10-(i+1)=m from by omega];exact this
     rw[decide_eq_false hc8]at UE;have UN:Hid (0<=n+c%128*2^(7*i)):=Uw;clear HV HN Uw Ur Ux Uq UB;go_wp2;refine⟨⟨i+1,n+c%128*2^(7*i),Ue,by rw[HX.out],by congr 1,UN.out,UC.out,UM,?_,Uu.set1 Uf _ _⟩,by simp[intOf];omega⟩;have e1:((a+(i+1):Nat):Int)=(z:Int)+1:=by have:=HZ.out;omega
     unfold dW;rw[e1];simpa using dM.set Ut 1 (aa ((z:Int)+1))
  ·have HE:Hid (r= .error (6,(a:Int))):=by
    have:=HV.out;rw[hm,lL,dD hlt]at this;exact this.symm
   clear HN HV;go_wp2_with fail;refine(rm _ _ _ _ _ Us).mono ?_;rintro e w2 ⟨rfl,q,rfl⟩;rw[decide_eq_false hlt];go_wp2_with fail;refine(IH _ _ _).mono ?_;rintro e w4 ⟨rfl,rfl⟩;go_wp2;rw[HE.out];exact⟨rfl,HK.drewN q,rfl⟩
end
def Je {b:am}{a e:Nat}:∀f i n m z,lL b a e f i n= .ok (m,z)->i+f=10->0<=n->n<2^(7*i)->0<=m/\m<18446744073709551616/\a+i<z/\z<=e
 |0,i,n,m,z,h,_,_,_=>by simp[lL]at h
 |f+1,i,n,m,z,h,hi,h0,h1=>by
  rw[lL]at h
  split at h
  ·rename_i hlt
   split at h
   ·simp at h
   ·rename_i h9
    have hg:=AP (i:=i) (c:=fL b (a+i)) h0 h1
    split at h
    ·rename_i hc
     simp only[Except.ok.injEq,Prod.mk.injEq]at h;obtain⟨rfl,rfl⟩:=h;refine⟨hg.1,?_,Ue,Ue⟩
     by_cases hi9:i=9
     ·subst hi9;have hr:=jX b (a+9);have hc2:¬1<fL b (a+9):=λh=>h9 ⟨rfl,h⟩
      simp only[Nat.reduceMul,Int.reducePow]at h1⊢;omega
     ·have h2:(2:Int)^(7*(i+1))<=2^63:=wS Ue;have h3:=hg.2;omega
    ·have⟨q0,q1,q2,q3⟩:=Je f (i+1) _ m z h Ue hg.1 hg.2;exact⟨q0,q1,Ue,q3⟩
  ·simp at h
def iG {b:am}{a e:Nat}{m:Int}{z:Nat}(h:g9 b a e= .ok (m,z)):0<=m/\m<18446744073709551616/\a<z/\z<=e:=by
 have:=Je 10 0 0 m z h rfl Ue Uh;simpa using this
def AQ {b:am}{a e:Nat}:∀f i n c p,lL b a e f i n= .error (c,p)->(c=6\/c=7)/\p=a
 |0,i,n,c,p,h=>by
  simp[lL]at h;omega
 |f+1,i,n,c,p,h=>by
  rw[lL]at h
  split at h
  ·split at h
   ·simp at h;omega
   ·split at h
    ·simp at h
    ·exact AQ f _ _ c p h
  ·simp at h;omega
def FR {b:am}{a e:Nat}{c p:Int}(h:g9 b a e= .error (c,p)):(c=6\/c=7)/\p=a:=AQ 10 0 0 c p h
section
variable {b:am} {a e fr:Nat} {t:Int}
end
section
open Uq
def oN (s:am)(a:Nat)(n:Int):Fx (am×Nat):=if(a:Int)+n<=s.size then .ok (s.extract a (a+n.toNat),a+n.toNat)else .error (6,a)
def wT (w:an)(rb:Nat)(s:am)(a:Nat)(deep:Int)(n:Int)(h:dW w rb s a deep)(ha:a<=s.size)(hs:s.size<=140737488355328)(hn0:0<=n)(hn1:n<18446744073709551616):
  Calls prog 196 #[ag rb,.int .u64 n] w (oU w rb s deep (oN s a n) Value.string):=by
 obtain⟨L,hL⟩:∃L,s.extract a s.size=L:=⟨_,rfl⟩;have hsz:L.size=s.size-a:=by rw[<-hL,aU];omega
 have Us:Hid (∀(w:an),dW w rb s a deep->Ua 272 #[ag rb] w λe w'=>e= .returned (ae L)/\∃q,w'=w.drewN q):=λw h=>by
  rw[<-hL];exact Ew w rb s a deep h ha
 have hw:IntKind.u64.wrap (L.size:Int)=(L.size:Int):=gm Ue Ue;unfold oN
 by_cases hle:(a:Int)+n<=s.size
 ·rw[dE hle];obtain⟨k,rfl⟩:=bt hn0;have Uu:Hid (a+k<=s.size):=by show a+k<=s.size;omega
  have hki:(k:Int)<=140737488355328:=Ue;have hai:(a:Int)<=140737488355328:=Ue;have hd:decide (L.size<k)=false:=Ug;have hw2:IntKind.i64.wrap (k:Int)=(k:Int):=by simp[IntKind.wrap,IntKind.bits,IntKind.signed];omega
  clear hL hsz hle hn0 hn1 ha hs;go_in
  go_wp2_with fail;refine(Us.out _ h).mono ?_;rintro e w2 ⟨rfl,q,rfl⟩;have h2:=h.drewN q;have K2:dX [rb] w (w.drewN q):=(dX.refl _ _).drewN q;generalize w.drewN q=wq at*;have⟨k1,k2⟩:=dM.rules h2;clear h Us;go_wp2_with fail;have h3:dW (wq.setCell (ai rb 1) (aa ((a:Int)+(k:Int)))) rb s (a+k) deep:=by unfold dW;simpa using dM.set h2 1 (aa ((a:Int)+(k:Int)))
  have K3:=K2.set1 (c:=rb) Uf 1 (aa ((a:Int)+(k:Int)));refine(vH _ _ _ _ _ a h3 Ue Uu.out).mono ?_;rintro e w3 ⟨rfl,q2,rfl⟩;go_wp2;go_ret;exact⟨K3.drewN q2,rfl,h3.drewN q2⟩
 ·rw[dD hle];obtain⟨k,rfl⟩:=bt hn0;have hd:decide (L.size<k)=true:=Ug;clear hL hsz hle hn0 hn1 ha hs;go_in
  go_wp2_with fail;refine(Us.out _ h).mono ?_;rintro e w2 ⟨rfl,q,rfl⟩;have h2:=h.drewN q;have K2:dX [rb] w (w.drewN q):=(dX.refl _ _).drewN q;generalize w.drewN q=wq at*;have⟨k1,k2⟩:=dM.rules h2;go_wp2_with fail;refine(IH _ _ _).mono ?_;rintro e w4 ⟨rfl,rfl⟩;go_wp2;exact⟨rfl,K2,rfl⟩
def eP (s:am)(a:Nat):Fx (Nat×Nat):=
 match g9 s a s.size with
 | .error x=> .error x
 | .ok x=>if(x.2:Int)+x.1<=s.size then .ok (x.2,x.2+x.1.toNat)else .error (6,x.2)
def FU (w:an)(rb:Nat)(s:am)(deep:Int)(r:Fx (Nat×Nat))(e:Ending)(w':an):Prop:=
 dX [rb] w w'/\(match r with
 | .error x=>e=dL x.1 x.2
 | .ok x=>∃nb,e= .returned (ag nb)/\w.heap.size<=nb/\nb≠rb/\dW w' nb (s.extract 0 x.2) x.1 deep/\dW w' rb s x.2 deep)
def nQ (w:an)(rb:Nat)(s:am)(a:Nat)(deep:Int)(h:dW w rb s a deep)(hs:s.size<=140737488355328):
  Calls prog 197 #[ag rb] w (FU w rb s deep (eP s a)):=by
 obtain⟨r,HR⟩:∃r,Hid (eP s a=r):=⟨_,rfl⟩;rw[HR.out];go_in
 go_wp2_with fail;refine(mt w rb s a deep h hs).mono ?_
 cases hv:g9 s a s.size with
 |error x=>
  rintro e w2 ⟨hk,he⟩;obtain rfl:e=dL x.1 x.2:=he;obtain rfl:r= .error x:=by rw[<-HR.out,eP,hv]
  unfold dL;go_wp2;exact⟨rfl,hk,rfl⟩
 |ok x=>
  obtain⟨n,z⟩:=x;have⟨v0,v1,v2,v3⟩:=iG hv;rintro e w2 ⟨hk,he,hr⟩;have hr:=hr;obtain rfl:e= .returned (.int .u64 n):=he;have⟨k1,k2⟩:=dM.rules hr;go_wp2_with fail;refine(wT w2 rb s z deep n hr v3 hs v0 v1).mono ?_;unfold oN
  by_cases hle:(z:Int)+n<=s.size
  ·rw[dE hle];obtain rfl:r= .ok (z,z+n.toNat):=by rw[<-HR.out,eP,hv];simp only;rw[dE hle]
   rintro e w3 ⟨Ut,Ur,Uq⟩;have Ur:=Ur;subst Ur;obtain⟨m,hm⟩:∃m,z+n.toNat=m:=⟨_,rfl⟩;have Uq:=Uq;rw[hm]at Uq;have HM:Hid (z+n.toNat=m):=hm;have hml:m<=s.size:=Ue;have K3:=hk.trans Ut;have hlt:rb<w3.heap.size:=dM.lt Uq;have hlt0:rb<w.heap.size:=dM.lt h;have⟨k1,k2⟩:=dM.rules Uq;have h4:dM w3.drew rb #[ae s,aa m,aa deep] 244:=Uq;go_wp2
   go_region_held3 (λw'=>w'.cell? (ai rb 0)=some (ae s)/\w'.cell? (ai rb 1)=some (aa m)/\w'.cell? (ai rb 2)=some (aa deep))
    (first|exact⟨(h4.alloc _).cell 0,(h4.alloc _).cell 1,(h4.alloc _).cell 2⟩|exact⟨h4.cell 0,h4.cell 1,h4.cell 2⟩)
    (fail)
   all_goals
    go_wp2;go_ret;have hn:=dM.newAt (w:=w3) rfl #[ae (s.extract 0 m),aa z,aa deep] 244;exact⟨(K3.alloc _).drew,_,rfl,by have:=K3.size;omega,Ue,by show dW _ _ (s.extract 0 (z+n.toNat)) z deep;rw[HM.out];exact hn,by show dW _ _ s (z+n.toNat) deep;rw[HM.out];exact h4.alloc _⟩
  ·rw[dD hle];obtain rfl:r= .error (6,(z:Int)):=by rw[<-HR.out,eP,hv];simp only;rw[dD hle]
   rintro e w3 ⟨Ut,Ur⟩;obtain rfl:e=dL 6 z:=Ur;unfold dL;go_wp2;exact⟨rfl,hk.trans Ut,rfl⟩
def ny (s:am)(a:Nat)(deep lv:Int):Fx (Nat×Nat):=
 match eP s a with
 | .error x=> .error x
 | .ok x=>if 8<deep+lv then .error (11,x.1)else .ok x
def Jf (w:an)(rb:Nat)(s:am)(deep:Int)(r:Fx (Nat×Nat))(e:Ending)(w':an):Prop:=
 dX [rb] w w'/\(match r with
 | .error x=>e=dL x.1 x.2
 | .ok x=>∃nb,e= .returned (ag nb)/\w.heap.size<=nb/\nb≠rb/\dW w' nb (s.extract 0 x.2) x.1 (deep+1)/\dW w' rb s x.2 deep)
def qg (w:an)(rb:Nat)(s:am)(a:Nat)(deep lv:Int)(h:dW w rb s a deep)(hs:s.size<=140737488355328)(hd0:0<=deep)(hd1:deep<=8)(hl0:0<=lv)(hl1:lv<=2):
  Calls prog 185 #[ag rb,aa lv] w (Jf w rb s deep (ny s a deep lv)):=by
 obtain⟨r,HR⟩:∃r,Hid (ny s a deep lv=r):=⟨_,rfl⟩;rw[HR.out];go_in
 go_wp2_with fail;refine(nQ w rb s a deep h hs).mono ?_
 cases hv:eP s a with
 |error x=>
  rintro e w2 ⟨hk,he⟩;obtain rfl:e=dL x.1 x.2:=he;obtain rfl:r= .error x:=by rw[<-HR.out,ny,hv]
  unfold dL;go_wp2;exact⟨rfl,hk,rfl⟩
 |ok x=>
  rintro e w2 ⟨hk,nb,rfl,Uy,Uw,Ux,Uz⟩;have⟨k1,k2⟩:=dM.rules Ux
  by_cases hd:8<deep+lv
  ·obtain rfl:r= .error (11,(x.1:Int)):=by rw[<-HR.out,ny,hv];simp only;rw[dE hd]
   go_wp2_with fail;refine(IH _ _ _).mono ?_;rintro e w4 ⟨rfl,rfl⟩;go_wp2;exact⟨rfl,hk,rfl⟩
  ·have hdd:decide (8<deep+lv)=false:=Ug;obtain rfl:r= .ok x:=by rw[<-HR.out,ny,hv];simp only;rw[dD hd]
   go_wp2;go_ret;have h5:dW (w2.setCell (ai nb 2) (aa (deep+1))) nb (s.extract 0 x.2) x.1 (deep+1):=by unfold dW;simpa using dM.set Ux 2 (aa (deep+1))
   have h6:dW (w2.setCell (ai nb 2) (aa (deep+1))) rb s x.2 deep:=dM.other Uz 2 _ Uw;refine⟨?_,nb,rfl,Uy,Uw,h5,h6⟩;exact⟨hk.os,hk.tape,hk.output,by simpa using hk.size,λk Ut Uu=>by rw[dK,dD Ue];exact hk.block k Ut Uu⟩
def ju (s:am)(a:Nat):Fx ((Int×Int)×Nat):=
 match g9 s a s.size with
 | .error x=> .error x
 | .ok x=>if x.1/8<1\/536870911<x.1/8 then .error (8,a)else if x.1%8=0\/x.1%8=1\/x.1%8=2\/x.1%8=5 then .ok ((x.1/8,x.1%8),x.2)else .error (9,a)
def Jg (w:an)(rb:Nat)(s:am)(a:Nat)(deep:Int)(h:dW w rb s a deep)(hs:s.size<=140737488355328):
  Calls prog 131 #[ag rb] w (oU w rb s deep (ju s a) (λx=> .agg #[aa x.1,aa x.2])):=by
 obtain⟨r,HR⟩:∃r,Hid (ju s a=r):=⟨_,rfl⟩;rw[HR.out];have h1:dW (w.alloc (ak #[aa 0,aa 0] 237)) rb s a deep:=dM.alloc h _;have K1:dX [rb] w (w.alloc (ak #[aa 0,aa 0] 237)):=(dX.refl _ _).alloc _;have B1:=dM.new w #[aa 0,aa 0] 237;have hlt:rb<w.heap.size:=dM.lt h;have⟨k1,k2⟩:=dM.rules h1;go_in
 go_wp2_with fail;generalize(w.alloc (ak #[aa 0,aa 0] 237))=w1 at*;clear k1 k2;refine(mt w1 rb s a deep h1 hs).mono ?_
 cases hv:g9 s a s.size with
 |error x=>
  rintro e w2 ⟨hk,he⟩;obtain rfl:e=dL x.1 x.2:=he;obtain rfl:r= .error x:=by rw[<-HR.out,ju,hv]
  unfold dL;go_wp2;exact⟨rfl,K1.trans hk,rfl⟩
 |ok x=>
  obtain⟨t,z⟩:=x;have⟨v0,v1,v2,v3⟩:=iG hv;rintro e w2 ⟨hk,he,hr⟩;have hr:dW w2 rb s z deep:=hr;obtain rfl:e= .returned (.int .u64 t):=he;have K2:=K1.trans hk;have B2:dM w2 w.heap.size #[aa 0,aa 0] 237:=(hk.block _ B1.lt Ug).trans B1;have q1:t.tdiv 8=t/8:=Int.tdiv_eq_ediv_of_nonneg v0;have q2:t.tmod 8=t%8:=Int.tmod_eq_emod_of_nonneg v0;have Uq:IntKind.i64.wrap (t%8)=t%8:=by simp[IntKind.wrap,IntKind.bits,IntKind.signed];omega
  have Ur:Hid (∀x y:Value,dX [rb] w ((w2.setCell (ai w.heap.size 0) x).setCell (ai w.heap.size 1) y)):=λx y=>
   ⟨K2.os,K2.tape,K2.output,by simpa using K2.size,λk Ut Uu=>by rw[dK,dD Ue,dK,dD Ue];exact K2.block k Ut Uu⟩
  have Us:Hid (∀x y:Value,dW ((w2.setCell (ai w.heap.size 0) x).setCell (ai w.heap.size 1) y) rb s z deep):=λx y=>(dM.other hr 0 x Ue).other 1 y Ue
  have Uv:t/8<=536870911->IntKind.i64.wrap (t/8)=t/8:=λh=>by simp[IntKind.wrap,IntKind.bits,IntKind.signed];omega
  have⟨y7,y8⟩:=B2.rules
  by_cases hA:t/8=0
  ·obtain rfl:r= .error (8,(a:Int)):=by rw[<-HR.out,ju,hv];simp only;rw[dE Ue]
   rw[hA]at q1;go_wp2_with fail;refine(IH _ _ _).mono ?_;rintro e w4 ⟨rfl,rfl⟩;go_wp2;exact⟨rfl,K2,rfl⟩
  ·have hA2:(t/8==0)=false:=Ug
   by_cases hB:536870911<t/8
   ·obtain rfl:r= .error (8,(a:Int)):=by rw[<-HR.out,ju,hv];simp only;rw[dE Ue]
    go_wp2_with fail;refine(IH _ _ _).mono ?_;rintro e w4 ⟨rfl,rfl⟩;go_wp2;exact⟨rfl,K2,rfl⟩
   ·have hB2:decide (536870911<t/8)=false:=Ug;have hw8:=Uv Ue;clear Uv
    by_cases g0:t%8=0
    ·obtain rfl:r= .ok ((t/8,0),z):=by rw[<-HR.out,ju,hv];simp only;rw[dD Ue,dE Ue,g0]
     rw[g0]at q2;clear g0 Uq;go_wp2;exact dG (ec results131 _ _ rfl ((B2.set 0 _).set 1 _) underlying237 Uj) rfl ⟨Ur.out _ _,rfl,Us.out _ _⟩
    have b0:(t%8==0)=false:=by simp[g0]
    by_cases g1:t%8=1
    ·obtain rfl:r= .ok ((t/8,1),z):=by rw[<-HR.out,ju,hv];simp only;rw[dD Ue,dE Ue,g1]
     rw[g1]at q2;clear g1 Uq;go_wp2;exact dG (ec results131 _ _ rfl ((B2.set 0 _).set 1 _) underlying237 Uj) rfl ⟨Ur.out _ _,rfl,Us.out _ _⟩
    have b1:(t%8==1)=false:=by simp[g1]
    by_cases g2:t%8=2
    ·obtain rfl:r= .ok ((t/8,2),z):=by rw[<-HR.out,ju,hv];simp only;rw[dD Ue,dE Ue,g2]
     rw[g2]at q2;clear g2 Uq;go_wp2;exact dG (ec results131 _ _ rfl ((B2.set 0 _).set 1 _) underlying237 Uj) rfl ⟨Ur.out _ _,rfl,Us.out _ _⟩
    have b2:(t%8==2)=false:=by simp[g2]
    by_cases g5:t%8=5
    ·obtain rfl:r= .ok ((t/8,5),z):=by rw[<-HR.out,ju,hv];simp only;rw[dD Ue,dE Ue,g5]
     rw[g5]at q2;clear g5 Uq;go_wp2;exact dG (ec results131 _ _ rfl ((B2.set 0 _).set 1 _) underlying237 Uj) rfl ⟨Ur.out _ _,rfl,Us.out _ _⟩
    have b5:(t%8==5)=false:=by simp[g5]
    obtain rfl:r= .error (9,(a:Int)):=by rw[<-HR.out,ju,hv];simp only;rw[dD Ue,dD Ue]
    go_wp2_with fail;refine(IH _ _ _).mono ?_;rintro e w4 ⟨rfl,rfl⟩;go_wp2;exact⟨rfl,K2,rfl⟩
def yJ (s:am)(j:Nat):Int:=Hi s (s.size-j) j
def CP (s:am):yJ s s.size=0:=by unfold yJ;rw[Nat.sub_self];rfl
def zF {s:am}{i:Nat}(h:i<s.size):yJ s i=256*yJ s (i+1)+fL s i:=by
 unfold yJ;rw[show s.size-i=(s.size-(i+1))+1 from by omega,Hi,dE h]
def AR:∀(k:Nat) (s:am) (j:Nat),s.size=j+k->0<=yJ s j/\yJ s j<256^k
 |0,s,j,h=>by
  rw[show j=s.size from by omega,CP];decide
 |k+1,s,j,h=>by
  have ih:=AR k s (j+1) Ue;have hr:=jX s j;rw[zF Ue,Int.pow_succ];omega
def M7 {x n:Int}(hx:0<=x)(h0:0<=n)(h1:n<256)(h2:x*256+n<18446744073709551616):bits .or .u64 (x*256) n=x*256+n:=by
 obtain⟨a,rfl⟩:=bt hx;obtain⟨b,rfl⟩:=bt h0;have e:((a:Int)*256)=((a*256:Nat):Int):=Ue;rw[e]at h2⊢;have hb:b<2^8:=show b<256 by omega
 have e2:a*256=a<<<8:=by rw[df]
 rw[bits_or_u64_nat (a*256) b Ue Ue,e2,<-cX hb];omega
def CQ (w:an)(s:am)(hs:s.size<=8):Calls prog 406 #[ae s] w λe w'=>e= .returned (.int .u64 (wJ s))/\w'=w:=by
 have e0:wJ s=yJ s 0:=rfl;rw[e0];go_in
 go_wp2;go_loopw [3,4] (λv i wr=>∃(k:Nat),k<=s.size/\i=aa ((k:Int)-1)/\v= .int .u64 (yJ s k)/\w=wr) (λ_ i _=>((intOf i)+1).toNat)
 case atStart=>exact⟨s.size,ay _,rfl,by rw[CP],rfl⟩
 case round=>
  obtain⟨k,hk,rfl,rfl,rfl⟩:=hrel
  cases k with
  |zero=>
   go_wp2;go_ret;exact⟨rfl,rfl⟩
  |succ i=>
   have Uv:i<s.size:=Ue;have Ux:=jf (t:=s) (k:=i) Uv;have Ut:=jX s i;have Us:=zF Uv;have Uq:=AR (s.size-(i+1)) s (i+1) Ue;have Ur:=AR (s.size-i) s i Ue
   have hp:(256:Int)^(s.size-i)<=256^8:=by
    have:=de (n:=256) Uh (show s.size-i<=8 by omega)
    exact_mod_cast this
   obtain⟨c,hc⟩:∃c,fL s i=c:=⟨_,rfl⟩;rw[hc]at Ux Ut Us;obtain⟨x,hx⟩:∃x,yJ s (i+1)=x:=⟨_,rfl⟩;rw[hx]at Us Uq⊢
   have Uu:x*256+c<18446744073709551616:=by
    rw[Us]at Ur;have h3:(256:Int)^8=18446744073709551616:=Uh;omega
   have hw1:IntKind.u64.wrap (x*256)=x*256:=gm Ue Ue;have hw2:IntKind.u64.wrap c=c:=gm Ue Ue;have hb:=M7 Uq.1 Ut.1 Ut.2 Uu;have hgi:(0:Int)<=(i:Int):=Ue;have Uy:(i:Int)+1-1=(i:Int):=Ue;have Uw:((i+1:Nat):Int)-1=(i:Int):=Ue;rw[Uw];clear Uw Uy Uq Ur hp e0;go_wp2;go_roundw
   case rel=>exact⟨i,Ue,rfl,by rw[Us];congr 1;omega,trivial⟩
   case measure=>simp[intOf]
def iT (s:am)(a:Nat)(k:Nat):Fx (Int×Nat):=if a+k<=s.size then .ok (wJ (s.extract a (a+k)),a+k)else .error (6,a)
def tF (s:am)(a k:Nat):oN s a k=if a+k<=s.size then .ok (s.extract a (a+k),a+k)else .error (6,(a:Int)):=by
 unfold oN
 by_cases h:a+k<=s.size
 ·rw[dE h,dE Ue];simp
 ·rw[dD h,dD Ue]
def AS (w:an)(rb:Nat)(s:am)(a:Nat)(deep:Int)(h:dW w rb s a deep)(ha:a<=s.size)(hs:s.size<=140737488355328):
  Calls prog 352 #[ag rb] w (oU w rb s deep (iT s a 4) (Value.int .u64)):=by
 have HT:=wT w rb s a deep 4 h ha hs Uh Uh;rw[show(4:Int)=((4:Nat):Int)from rfl,tF]at HT;unfold iT
 by_cases Uq:a+4<=s.size
 ·rw[dE Uq]at HT⊢;go_in
  go_wp2_with fail;refine HT.mono ?_;rintro e w2 ⟨hk,he,hr⟩;obtain rfl:e= .returned (ae (s.extract a (a+4))):=he;go_wp2_with fail;refine(CQ w2 (s.extract a (a+4)) (by rw[aU];omega)).mono ?_;rintro e w3 ⟨rfl,rfl⟩;go_wp2;go_ret;exact⟨hk,rfl,hr⟩
 ·rw[dD Uq]at HT⊢;go_in
  go_wp2_with fail;refine HT.mono ?_;rintro e w2 ⟨hk,he⟩;obtain rfl:e=dL 6 a:=he;unfold dL;go_wp2;exact⟨rfl,hk,rfl⟩
def vI (w:an)(rb:Nat)(s:am)(a:Nat)(deep:Int)(h:dW w rb s a deep)(ha:a<=s.size)(hs:s.size<=140737488355328):
  Calls prog 353 #[ag rb] w (oU w rb s deep (iT s a 8) (Value.int .u64)):=by
 have HT:=wT w rb s a deep 8 h ha hs Uh Uh;rw[show(8:Int)=((8:Nat):Int)from rfl,tF]at HT;unfold iT
 by_cases Uq:a+8<=s.size
 ·rw[dE Uq]at HT⊢;go_in
  go_wp2_with fail;refine HT.mono ?_;rintro e w2 ⟨hk,he,hr⟩;obtain rfl:e= .returned (ae (s.extract a (a+8))):=he;go_wp2_with fail;refine(CQ w2 (s.extract a (a+8)) (by rw[aU];omega)).mono ?_;rintro e w3 ⟨rfl,rfl⟩;go_wp2;go_ret;exact⟨hk,rfl,hr⟩
 ·rw[dD Uq]at HT⊢;go_in
  go_wp2_with fail;refine HT.mono ?_;rintro e w2 ⟨hk,he⟩;obtain rfl:e=dL 6 a:=he;unfold dL;go_wp2;exact⟨rfl,hk,rfl⟩
def sf (w:an)(n:Int):Calls prog 348 #[.int .u64 n] w λe w'=>e= .returned (.int .u64 (n%4294967296))/\w'=w:=by
 have e1:IntKind.u64.wrap (IntKind.u32.wrap n)=n%4294967296:=by
  rw[IntKind.wrap_u32];exact gm Ue Ue
 go_in
 go_wp2;go_ret;exact⟨rfl,rfl⟩
def oA (w:an)(n:Int):Calls prog 347 #[.int .u64 n] w λe w'=>e= .returned (.int .u64 (mh n))/\w'=w:=by
 have e1:IntKind.u64.wrap (IntKind.i32.wrap n)=mh n:=by
  rw[IntKind.wrap_i32];unfold mh
  split
  ·rw[show(n+2147483648)%4294967296-2147483648=n%4294967296 from by omega];exact gm Ue Ue
  ·simp[IntKind.wrap,IntKind.bits,IntKind.signed];omega
 have e2:IntKind.u64.wrap (wrap32 n)=mh n:=by
  rw[<-e1]
  congr 1;rw[IntKind.wrap_i32];unfold wrap32;rfl
 go_in
 go_wp2;go_ret;exact⟨rfl,rfl⟩
def vJ (w:an)(n:Int)(h0:0<=n):Calls prog 351 #[.int .u64 n] w λe w'=>e= .returned (.int .u64 (if 0<n then 1 else 0))/\w'=w:=by
 by_cases h:0<n
 ·have hd:(n==0)=false:=Ug;rw[dE h];go_in
  go_wp2;go_ret;exact⟨rfl,rfl⟩
 ·obtain rfl:n=0:=Ue;rw[dD h];go_in
  go_wp2;go_ret;exact⟨rfl,rfl⟩
def qS {n:Int}(h0:0<=n)(h1:n<18446744073709551616):bits .xor .u64 n 18446744073709551615=18446744073709551615-n:=by
 obtain⟨a,rfl⟩:=bt h0
 have hx:(BitVec.ofInt 64 (a:Int)).toNat=a:=by
  rw[BitVec.ofInt_natCast,BitVec.toNat_ofNat];exact Nat.mod_eq_of_lt Ue
 show IntKind.u64.wrap (((BitVec.ofInt 64 (a:Int))^^^(BitVec.ofInt 64 18446744073709551615)).toNat:Int)=_;have e1:BitVec.ofInt 64 18446744073709551615=BitVec.allOnes 64:=Uh;rw[e1,BitVec.xor_allOnes,BitVec.toNat_not,hx];rw[gm Ue Ue];omega
def qT {n:Int}(h0:0<=n)(h1:n<18446744073709551616):bits .xor .u64 n 0=n:=by
 obtain⟨a,rfl⟩:=bt h0
 have hx:(BitVec.ofInt 64 (a:Int)).toNat=a:=by
  rw[BitVec.ofInt_natCast,BitVec.toNat_ofNat];exact Nat.mod_eq_of_lt Ue
 show IntKind.u64.wrap (((BitVec.ofInt 64 (a:Int))^^^(BitVec.ofInt 64 0)).toNat:Int)=_;have e1:BitVec.ofInt 64 0=0#64:=Uh;rw[e1,BitVec.xor_zero,hx];exact gm Ue Ue
def AT {n:Int}(h0:0<=n)(h1:n<18446744073709551616):bits .and .u64 n 1=n%2:=by
 obtain⟨a,rfl⟩:=bt h0;rw[show(1:Int)=((1:Nat):Int)from rfl,bits_and_u64_nat a 1 Ue Ue,Nat.and_one_is_mod];omega
def Ex (w:an)(n:Int)(h0:0<=n)(h1:n<18446744073709551616):Calls prog 350 #[.int .u64 n] w λe w'=>e= .returned (.int .u64 (Co n))/\w'=w:=by
 have hb:=AT h0 h1;unfold Co
 by_cases h:n%2=1
 ·rw[dE h];rw[h]at hb;have hw:IntKind.u64.wrap (-1)=18446744073709551615:=Uh;have hx:=qS (n:=n/2) Ue Ue;go_in
  go_wp2;go_ret;exact⟨rfl,rfl⟩
 ·rw[dD h];have h2:n%2=0:=Ue;rw[h2]at hb;have hw:IntKind.u64.wrap 0=0:=Uh;have hx:=qT (n:=n/2) Ue Ue;go_in
  go_wp2;go_ret;exact⟨rfl,rfl⟩
def Jh (w:an)(n:Int):Calls prog 349 #[.int .u64 n] w λe w'=>e= .returned (.int .u64 (Co (n%4294967296)))/\w'=w:=by
 go_in
 go_wp2_with fail;refine(sf w n).mono ?_;rintro e w2 ⟨rfl,rfl⟩;go_wp2_with fail;refine(Ex _ (n%4294967296) Ue Ue).mono ?_;rintro e w2 ⟨rfl,rfl⟩;go_wp2;go_ret;exact⟨rfl,rfl⟩
end
end Go.Proofs.YtfebdimolnobaaaGreatDoor
namespace Go.Proofs
open Go.Shelf
def Tryz.laysVs_ren:Go.Shelf.Ren:=⟨fun|196=>325|259=>393|n=>n,fun|9=>9|4=>4|3=>3|5=>5|12=>12|119=>459|0=>0|46=>295|139=>462|138=>461|53=>53|n=>n,fun|3=>2|4=>3|n=>n⟩
theorem Tryz.laysVs:Go.Proofs.Lays.n196 Tryz.prog Tryz.laysVs_ren:=by constructor<;>first|kernel_rfl|(intro w;kernel_rfl)
end Go.Proofs
namespace Go.Proofs.YtfebdimolnobaaaGreatDoor
open Go.RowKit Go.Proofs.Tryz
section
open Uq
def UOK (w:an):Prop:=Lib.Utf8Tabs 2 3 w
def UOK.lt1 {w:an}(h:UOK w):2<w.heap.size:=aQ _ _ (h.1 0 Uh)
def UOK.lt2 {w:an}(h:UOK w):3<w.heap.size:=aQ _ _ (h.2 0 Uh).1
def UOK.keep {w w':an}(h:UOK w)(hb:w'.heap[2]?=w.heap[2]?)(hb2:w'.heap[3]?=w.heap[3]?):UOK w':=
 ⟨λc hc=>(bu (a:=(ai 2 c)) hb).trans (h.1 c hc), λi hi=>⟨(bu (a:=(ai 3 (2*i))) hb2).trans (h.2 i hi).1,(bu (a:=(ai 3 (2*i+1))) hb2).trans (h.2 i hi).2⟩⟩
def AU (w:an)(s:am)(hs:s.size<=140737488355328)(hu:UOK w):Ua 325 #[ae s] w λe w'=>e= .returned (.bool (Lib.validD s.data.toList))/\aj w w':=
 Any.utf8_ValidString Tryz.laysVs s w Ue hu
def FV (s:am)(w:an)(h:s.size<=140737488355328):
  Calls prog 108 #[ae s] w λe w'=>e= .returned (ae s)/\aj w w':=by
 go_in
 go_wp2_with fail;refine(AnyPu.stringslite_Clone Tryz.laysPu25 s _ Ue).mono ?_;rintro e w1 ⟨rfl,hb⟩;go_wp2;go_ret;exact⟨rfl,hb⟩
def iU {s:am}{a z e:Nat}(h:eP s a= .ok (z,e)):a<z/\z<=e/\e<=s.size:=by
 unfold eP at h
 split at h
 ·cases h
 ·rename_i x hv
  have⟨v0,v1,v2,v3⟩:=iG (m:=x.1) (z:=x.2) hv
  split at h
  ·simp at h;obtain⟨rfl,rfl⟩:=h;omega
  ·cases h
def FX (s:am)(z e:Nat):(s.extract 0 e).extract z (s.extract 0 e).size=s.extract z e:=by
 apply cM;simp only[cI];apply Array.ext
 ·simp
 ·intro i h1 h2;simp
def nA (s:am)(a:Nat):Fx (am×Nat):=
 match eP s a with
 | .error x=> .error x
 | .ok x=> .ok (s.extract x.1 x.2,x.2)
def qU (s:am)(a:Nat):Fx (am×Nat):=
 match eP s a with
 | .error x=> .error x
 | .ok x=>if Lib.validD (s.extract x.1 x.2).data.toList then .ok (s.extract x.1 x.2,x.2)else .error (10,x.1)
def FY (w:an)(rb:Nat)(s:am)(a:Nat)(deep:Int)(h:dW w rb s a deep)(hs:s.size<=140737488355328):
  Calls prog 270 #[ag rb] w (oU w rb s deep (nA s a) Value.string):=by
 obtain⟨r,HR⟩:∃r,Hid (nA s a=r):=⟨_,rfl⟩;rw[HR.out];go_in
 go_wp2_with fail;refine(nQ w rb s a deep h hs).mono ?_
 cases hv:eP s a with
 |error x=>
  rintro e w2 ⟨hk,he⟩;obtain rfl:e=dL x.1 x.2:=he;obtain rfl:r= .error x:=by rw[<-HR.out,nA,hv]
  unfold dL;go_wp2;exact⟨rfl,hk,rfl⟩
 |ok x=>
  obtain⟨z,en⟩:=x;have⟨v1,v2,v3⟩:=iU hv;obtain rfl:r= .ok (s.extract z en,en):=by rw[<-HR.out,nA,hv]
  rintro e w2 ⟨hk,nb,rfl,UB,UC,Uq,Uv⟩;have Uq:dW w2 nb (s.extract 0 en) z deep:=Uq;have hsz:(s.extract 0 en).size=en:=by rw[aU];omega
  go_wp2_with fail;have HL:=Ew w2 nb (s.extract 0 en) z deep Uq Ue;rw[FX]at HL;refine HL.mono ?_;rintro e w3 ⟨rfl,q,rfl⟩;go_wp2_with fail;refine(FV (s.extract z en) _ (by rw[aU];omega)).mono ?_;rintro e w4 ⟨rfl,b4⟩;go_wp2;go_ret;exact⟨(hk.drewN q).trans (dX.of_below b4),rfl,dM.below (Uv.drewN q) b4 (dM.lt Uv)⟩
def Ji (w:an)(rb:Nat)(s:am)(a:Nat)(deep:Int)(h:dW w rb s a deep)(hs:s.size<=140737488355328)(hu:UOK w)(hu1:rb≠2)(hu2:rb≠3):
  Calls prog 269 #[ag rb] w (oU w rb s deep (qU s a) Value.string):=by
 obtain⟨r,HR⟩:∃r,Hid (qU s a=r):=⟨_,rfl⟩;rw[HR.out];go_in
 go_wp2_with fail;refine(nQ w rb s a deep h hs).mono ?_
 cases hv:eP s a with
 |error x=>
  rintro e w2 ⟨hk,he⟩;obtain rfl:e=dL x.1 x.2:=he;obtain rfl:r= .error x:=by rw[<-HR.out,qU,hv]
  unfold dL;go_wp2;exact⟨rfl,hk,rfl⟩
 |ok x=>
  obtain⟨z,en⟩:=x;have⟨v1,v2,v3⟩:=iU hv;rintro e w2 ⟨hk,nb,rfl,UB,UC,Uq,Uv⟩;have Uq:dW w2 nb (s.extract 0 en) z deep:=Uq;have hsz:(s.extract 0 en).size=en:=by rw[aU];omega
  have Uw:UOK w2:=hu.keep (hk.block _ hu.lt1 (by simp;exact λe=>hu1 e.symm)) (hk.block _ hu.lt2 (by simp;exact λe=>hu2 e.symm))
  have HL:Hid (∀w3:an,dW w3 nb (s.extract 0 en) z deep->Ua 272 #[ag nb] w3 λe w'=>e= .returned (ae (s.extract z en))/\∃q,w'=w3.drewN q):=λw3 h3=>by
   have:=Ew w3 nb (s.extract 0 en) z deep h3 Ue;rw[FX]at this;exact this
  have Ux:(s.extract z en).size<=140737488355328:=by rw[aU];omega
  have HV:Hid (∀w3:an,UOK w3->Ua 325 #[ae (s.extract z en)] w3 λe w'=>e= .returned (.bool (Lib.validD (s.extract z en).data.toList))/\aj w3 w'):=λw3 h3=>AU w3 _ Ux h3
  have HC:Hid (∀w3:an,Ua 108 #[ae (s.extract z en)] w3 λe w'=>e= .returned (ae (s.extract z en))/\aj w3 w'):=λw3=>FV _ w3 Ux
  have HE:Hid (r=if Lib.validD (s.extract z en).data.toList then .ok (s.extract z en,en)else .error (10,(z:Int))):=by
   show r=_;rw[<-HR.out,qU,hv]
  clear HR hsz Ux;generalize s.extract z en=X at*;generalize Lib.validD X.data.toList=vd at*;go_wp2_with fail;refine(HL.out w2 Uq).mono ?_;rintro e w3 ⟨rfl,q,rfl⟩;have Ur:=Uq.drewN q;have Us:dW (w2.drewN q) rb s en deep:=Uv.drewN q;have Uz:=hk.drewN q;have UA:UOK (w2.drewN q):=Uw.keep rfl rfl;generalize w2.drewN q=w3 at*;go_wp2_with fail;refine(HV.out w3 UA).mono ?_;rintro e w4 ⟨rfl,b4⟩;have Ut:dW w4 nb (s.extract 0 en) z deep:=dM.below Ur b4 (dM.lt Ur);have Uu:dW w4 rb s en deep:=dM.below Us b4 (dM.lt Us);have Uy:=Uz.trans (dX.of_below b4)
  cases vd
  ·obtain rfl:r= .error (10,(z:Int)):=HE.out;have⟨k1,k2⟩:=dM.rules Ut;go_wp2_with fail;refine(IH _ _ _).mono ?_;rintro e w5 ⟨rfl,rfl⟩;go_wp2;exact⟨rfl,Uy,rfl⟩
  ·obtain rfl:r= .ok (X,en):=HE.out;go_wp2_with fail;refine(HL.out w4 Ut).mono ?_;rintro e w5 ⟨rfl,q5,rfl⟩;go_wp2_with fail;refine(HC.out _).mono ?_;rintro e w6 ⟨rfl,b6⟩;go_wp2;go_ret;exact⟨(Uy.drewN q5).trans (dX.of_below b6),rfl,dM.below (Uu.drewN q5) b6 (dM.lt Uu)⟩
def lq (s:am)(a:Nat)(kind:Int):Fx (Unit×Nat):=
 if kind=0 then(match g9 s a s.size with| .error x=> .error x| .ok x=> .ok ((),x.2))
 else if kind=1 then(match iT s a 8 with| .error x=> .error x| .ok x=> .ok ((),x.2))
 else if kind=5 then(match iT s a 4 with| .error x=> .error x| .ok x=> .ok ((),x.2))
 else(match eP s a with| .error x=> .error x| .ok x=> .ok ((),x.2))
def Jj (w:an)(rb:Nat)(s:am)(deep:Int)(r:Fx (Unit×Nat))(e:Ending)(w':an):Prop:=
 dX [rb] w w'/\(match r with
 | .error x=>e=dL x.1 x.2
 | .ok x=>e= .returned (.tuple #[])/\dW w' rb s x.2 deep)
def uE (s:am)(a k:Nat):(match oN s a k with| .error x=>Except.error x| .ok x=> .ok ((),x.2):Fx (Unit×Nat))=(match iT s a k with| .error x=> .error x| .ok x=> .ok ((),x.2)):=by
 rw[tF,iT]
 by_cases h:a+k<=s.size
 ·rw[dE h,dE h]
 ·rw[dD h,dD h]
def AV (w:an)(rb:Nat)(s:am)(a:Nat)(deep kind:Int)(h:dW w rb s a deep)(ha:a<=s.size)(hs:s.size<=140737488355328)(hk:kind=0\/kind=1\/kind=2\/kind=5):
  Calls prog 134 #[ag rb,aa kind] w (Jj w rb s deep (lq s a kind)):=by
 have h8:=wT w rb s a deep 8 h ha hs Uh Uh;have h4:=wT w rb s a deep 4 h ha hs Uh Uh
 rcases hk with rfl|rfl|rfl|rfl
 ·have e0:lq s a 0=(match g9 s a s.size with| .error x=> .error x| .ok x=> .ok ((),x.2)):=rfl;rw[e0];obtain⟨r,HR⟩:∃r,Hid ((match g9 s a s.size with| .error x=> .error x| .ok x=> .ok ((),x.2):Fx (Unit×Nat))=r):=⟨_,rfl⟩;rw[HR.out];go_in
  go_wp2_with fail;refine(mt w rb s a deep h hs).mono ?_
  cases hv:g9 s a s.size with
  |error x=>
   rintro e w2 ⟨hk,he⟩;obtain rfl:e=dL x.1 x.2:=he;obtain rfl:r= .error x:=by rw[<-HR.out,hv]
   unfold dL;go_wp2;exact⟨rfl,hk,rfl⟩
  |ok x=>
   rintro e w2 ⟨hk,rfl,hr⟩;obtain rfl:r= .ok ((),x.2):=by rw[<-HR.out,hv]
   go_wp2;go_end0;exact⟨hk,rfl,hr⟩
 ·have e0:lq s a 1=(match oN s a 8 with| .error x=> .error x| .ok x=> .ok ((),x.2)):=(uE s a 8).symm;rw[e0];obtain⟨r,HR⟩:∃r,Hid ((match oN s a 8 with| .error x=> .error x| .ok x=> .ok ((),x.2):Fx (Unit×Nat))=r):=⟨_,rfl⟩;rw[HR.out];go_in
  go_wp2_with fail;refine h8.mono ?_
  cases hv:oN s a 8 with
  |error x=>
   rintro e w2 ⟨hk,he⟩;obtain rfl:e=dL x.1 x.2:=he;obtain rfl:r= .error x:=by rw[<-HR.out,hv]
   unfold dL;go_wp2;exact⟨rfl,hk,rfl⟩
  |ok x=>
   rintro e w2 ⟨hk,rfl,hr⟩;obtain rfl:r= .ok ((),x.2):=by rw[<-HR.out,hv]
   go_wp2;go_end0;exact⟨hk,rfl,hr⟩
 ·have e0:lq s a 2=(match eP s a with| .error x=> .error x| .ok x=> .ok ((),x.2)):=rfl;rw[e0];obtain⟨r,HR⟩:∃r,Hid ((match eP s a with| .error x=> .error x| .ok x=> .ok ((),x.2):Fx (Unit×Nat))=r):=⟨_,rfl⟩;rw[HR.out];go_in
  go_wp2_with fail;refine(nQ w rb s a deep h hs).mono ?_
  cases hv:eP s a with
  |error x=>
   rintro e w2 ⟨hk,he⟩;obtain rfl:e=dL x.1 x.2:=he;obtain rfl:r= .error x:=by rw[<-HR.out,hv]
   unfold dL;go_wp2;exact⟨rfl,hk,rfl⟩
  |ok x=>
   rintro e w2 ⟨hk,nb,rfl,_,_,_,hr⟩;obtain rfl:r= .ok ((),x.2):=by rw[<-HR.out,hv]
   go_wp2;go_end0;exact⟨hk,rfl,hr⟩
 ·have e0:lq s a 5=(match oN s a 4 with| .error x=> .error x| .ok x=> .ok ((),x.2)):=(uE s a 4).symm;rw[e0];obtain⟨r,HR⟩:∃r,Hid ((match oN s a 4 with| .error x=> .error x| .ok x=> .ok ((),x.2):Fx (Unit×Nat))=r):=⟨_,rfl⟩;rw[HR.out];go_in
  go_wp2_with fail;refine h4.mono ?_
  cases hv:oN s a 4 with
  |error x=>
   rintro e w2 ⟨hk,he⟩;obtain rfl:e=dL x.1 x.2:=he;obtain rfl:r= .error x:=by rw[<-HR.out,hv]
   unfold dL;go_wp2;exact⟨rfl,hk,rfl⟩
  |ok x=>
   rintro e w2 ⟨hk,rfl,hr⟩;obtain rfl:r= .ok ((),x.2):=by rw[<-HR.out,hv]
   go_wp2;go_end0;exact⟨hk,rfl,hr⟩
end
section
variable {b:am} {e a:Nat}
theorem gp (h:e<=b.size):(b.extract 0 e).size=e:=by(simp;omega)
theorem FZ {k:Nat}(h:e<=b.size)(hk:k<e):fL (b.extract 0 e) k=fL b k:=by
 unfold fL;rw[dif_pos (by(simp;omega)),dif_pos Ue]
 congr 2;rw[ByteArray.getElem_extract];simp
theorem F0 (h:e<=b.size):∀f i n,lL (b.extract 0 e) a e f i n=lL b a e f i n
 |0,i,n=>rfl
 |f+1,i,n=>by
  unfold lL
  by_cases hl:a+i<e
  ·rw[dE hl,dE hl,FZ h hl,F0 h f]
  grind
theorem vK (h:e<=b.size):g9 (b.extract 0 e) a (b.extract 0 e).size=g9 b a e:=by
 rw[gp h];exact F0 h 10 0 0
theorem jR {z k:Nat}(h:e<=b.size)(hk:k<=e):(b.extract 0 e).extract z k=b.extract z k:=by
 apply cM;simp only[cI];apply Array.ext
 ·simp;omega
 ·intro i h1 h2;simp
theorem si {k:Nat}(h:e<=b.size):iT (b.extract 0 e) a k=if a+k<=e then .ok (wJ (b.extract a (a+k)),a+k)else .error (6,(a:Int)):=by
 unfold iT;rw[gp h]
 by_cases hl:a+k<=e
 ·rw[dE hl,dE hl,jR h hl]
 grind
theorem CR (h:e<=b.size):eP (b.extract 0 e) a=(match g9 b a e with| .error x=> .error x| .ok x=>if(x.2:Int)+x.1<=e then .ok (x.2,x.2+x.1.toNat)else .error (6,x.2)):=by
 unfold eP;rw[vK h,gp h]
 try rfl
theorem Jk (h:e<=b.size):ju (b.extract 0 e) a=(match g9 b a e with
  | .error x=> .error x
  | .ok x=>if x.1/8<1\/536870911<x.1/8 then .error (8,a)else if x.1%8=0\/x.1%8=1\/x.1%8=2\/x.1%8=5 then .ok ((x.1/8,x.1%8),x.2)else .error (9,a)):=by
 unfold ju;rw[vK h]
 try rfl
def M8 (s:am)(a:Nat):Fx oj:=
 match ju s a with
 | .error x=> .error x
 | .ok x=>
  if x.1.2=0 then(match g9 s x.2 s.size with| .error y=> .error y| .ok y=> .ok ⟨x.1.1,0,a,x.2,y.2,y.1⟩)
  else if x.1.2=1 then(match iT s x.2 8 with| .error y=> .error y| .ok y=> .ok ⟨x.1.1,1,a,x.2,y.2,y.1⟩)
  else if x.1.2=5 then(match iT s x.2 4 with| .error y=> .error y| .ok y=> .ok ⟨x.1.1,5,a,x.2,y.2,y.1⟩)
  else(match eP s x.2 with| .error y=> .error y| .ok y=> .ok ⟨x.1.1,2,a,y.1,y.2,0⟩)
theorem vL (h:e<=b.size):M8 (b.extract 0 e) a=fD b a e:=by
 unfold M8 fD;rw[Jk h]
 cases hv:g9 b a e with
 |error x=>rfl
 |ok x=>
  obtain⟨t,fr⟩:=x;simp only
  by_cases h1:t/8<1\/536870911<t/8
  ·rw[dE h1,dE h1]
  ·rw[dD h1,dD h1]
   by_cases k0:t%8=0
   ·rw[dE (.inl k0),dE k0];simp only;rw[dE k0,vK h]
    cases g9 b fr e<;>rfl
   ·by_cases k1:t%8=1
    ·rw[dE (.inr (.inl k1)),dD k0,dE k1];simp only;rw[dD k0,dE k1,si h]
     grind
    ·by_cases k5:t%8=5
     ·rw[dE (.inr (.inr (.inr k5))),dD k0,dD k1,dE k5];simp only;rw[dD k0,dD k1,dE k5,si h]
      grind
     ·by_cases k2:t%8=2
      ·rw[dE (.inr (.inr (.inl k2))),dD k0,dD k1,dD k5,dE k2];simp only;rw[dD k0,dD k1,dD k5,CR h]
       grind
      simp_all
end
section
open Uq
def eO (k:Nat):Bool:=decide (k<=12)||decide (k=15)
def jI (k:Nat):Bool:=decide (k=0)||decide (k=1)||decide (k=4)||decide (k=5)||decide (k=9)||decide (k=10)||decide (k=15)
def Ey (w:an)(k:Nat)(pv:Value)(hk:k<=16):Calls prog 283 #[.agg #[aa k,pv]] w λe w'=>e= .returned (Value.bool (eO k))/\aj w w':=by
 have B0:∀o,aj w (w.alloc o):=λo=>(Uc w).alloc (ay _) o
 rcases(show k=0\/k=1\/k=2\/k=3\/k=4\/k=5\/k=6\/k=7\/k=8\/k=9\/k=10\/k=11\/k=12\/k=13\/k=14\/k=15\/k=16 from by omega)with rfl|rfl|rfl|rfl|rfl|rfl|rfl|rfl|rfl|rfl|rfl|rfl|rfl|rfl|rfl|rfl|rfl
 all_goals
  go_in
  go_wp2;go_ret;exact⟨rfl,B0 _⟩
def oB (w:an)(k:Nat)(pv:Value)(hk:k<=16):Calls prog 189 #[.agg #[aa k,pv]] w λe w'=>e= .returned (Value.bool (jI k))/\aj w w':=by
 have B0:∀o,aj w (w.alloc o):=λo=>(Uc w).alloc (ay _) o
 rcases(show k=0\/k=1\/k=2\/k=3\/k=4\/k=5\/k=6\/k=7\/k=8\/k=9\/k=10\/k=11\/k=12\/k=13\/k=14\/k=15\/k=16 from by omega)with rfl|rfl|rfl|rfl|rfl|rfl|rfl|rfl|rfl|rfl|rfl|rfl|rfl|rfl|rfl|rfl|rfl
 all_goals
  go_in
  go_wp2;go_ret;exact⟨rfl,B0 _⟩
def py (w:an)(k:Nat)(pv:Value)(hk:k<=16):Calls prog 208 #[.agg #[aa k,pv]] w λe w'=>e= .returned (Value.int .i64 (ee k))/\aj w w':=by
 have B0:∀o,aj w (w.alloc o):=λo=>(Uc w).alloc (ay _) o
 rcases(show k=0\/k=1\/k=2\/k=3\/k=4\/k=5\/k=6\/k=7\/k=8\/k=9\/k=10\/k=11\/k=12\/k=13\/k=14\/k=15\/k=16 from by omega)with rfl|rfl|rfl|rfl|rfl|rfl|rfl|rfl|rfl|rfl|rfl|rfl|rfl|rfl|rfl|rfl|rfl
 all_goals
  go_in
  go_wp2;go_ret;exact⟨rfl,B0 _⟩
end
end Go.Proofs.YtfebdimolnobaaaGreatDoor
