import Derived.Test.YtfebdimolnobaaaGreatDoorTreeOK
import Derived.Test.YtfebdimolnobaaaGreatDoorWkA
import Derived.Lib.ValidLaws
set_option maxRecDepth 100000
set_option maxHeartbeats 8000000
set_option linter.all false
namespace Go.Proofs.YtfebdimolnobaaaGreatDoor
open Go.RowKit Go.Proofs.Tryz
section
open Go.Maps
open Vo
section
variable {f:eU} {p:fI} {w' w:aw} {P:ax} {mp:an} {tb:Int} {tv:Value}
def RS (f:eU)(p:fI)(fa:aC)(fc c9 pb:Nat)(w':aw):Prop:=w'.cell? (aj c9 0)=some (aa f.form)/\w'.cell? (aj c9 1)=some (aa (mU f.key))/\w'.cell? (aj c9 2)=some (ag (jK f.key))/\w'.cell? (aj c9 3)=some (aa (nS f.key))/\w'.cell? (aj c9 4)=some (aa (dV f.type.1))/\w'.cell? (aj c9 5)=some (ag f.type.1)/\w'.cell? (aj c9 6)=some (aa f.type.2)/\w'.cell? (aj c9 7)=some (aa (dV f.name.1))/\w'.cell? (aj c9 8)=some (ag f.name.1)/\w'.cell? (aj c9 9)=some (aa f.name.2)/\w'.cell? (aj c9 10)=some (aa (dV f.num.1))/\w'.cell? (aj c9 11)=some (ag f.num.1)/\w'.cell? (aj c9 12)=some (aa f.num.2)/\w'.cell? (aj pb 0)=some (aa (mU p.oneof))/\w'.cell? (aj pb 1)=some (ag (jK p.oneof))/\w'.cell? (aj pb 2)=some (aa (nS p.oneof))/\w'.cell? (aj pb 3)=some (.slice fa p.fields.length fc)
theorem RS.of {fa:aC}{fc c9 pb:Nat}(h:dX w' c9 (FC f) 211)(k:dX w' pb #[aa (mU p.oneof),ag (jK p.oneof),aa (nS p.oneof),.slice fa p.fields.length fc] 208):RS f p fa fc c9 pb w':=
 ⟨h.cell 0,h.cell 1,h.cell 2,h.cell 3,h.cell 4,h.cell 5,h.cell 6,h.cell 7,h.cell 8,h.cell 9,h.cell 10,h.cell 11,h.cell 12,k.cell 0,k.cell 1,k.cell 2,k.cell 3⟩
def rI (w':aw)(P:ax)(mp:an)(f:eU)(tb:Int)(tv:Value):Prop:=
 if f.form=4 then tb=16/\∃eb,tv=gZ (some eb)/\mJ w' P mp (jK f.key) f.type.1 eb else tb=jB mp f.type.1/\tv=gZ (zH mp f.type.1)
theorem rI.O (hk:∀b,P b->b<w.heap.size->w'.heap[b]?=w.heap[b]?)(h:rI w P mp f tb tv):rI w' P mp f tb tv:=by
 unfold rI at h⊢;split at h;.rename_i h0;rw[dP h0];obtain⟨h1,eb,h2,h3⟩:=h;exact⟨h1,eb,h2,h3.O hk⟩
 .rename_i h0;rw[dO h0];exact h
theorem rI.V {Q:ax}(hs:∀b,P b->b<w.heap.size->Q b)(h:rI w P mp f tb tv):rI w Q mp f tb tv:=by
 unfold rI at h⊢;split at h;.rename_i h0;rw[dP h0];obtain⟨h1,eb,h2,h3⟩:=h;exact⟨h1,eb,h2,h3.V hs⟩
 .rename_i h0;rw[dO h0];exact h
theorem BE (w:aw)(b n:Nat)(mp:an)(f:eU)(hg:Fk f)(H:gq w b n mp)(hb:BOK w):
  U8 110 #[.map (some b),.agg (FC f)] w λe w'=>∃tb tv,e= .returned (.agg #[aa tb,tv])/\rI w' (λb=>w.heap.size<=b) mp f tb tv/\ak w w':=by
 refine(Dy w b n mp f hg H hb).V ?_;rintro e w' ⟨h1,h2⟩;unfold Kf at h1;by_cases h0:f.form=4;.rw[dP h0]at h1;obtain⟨eb,rfl,h3⟩:=h1;exact⟨16,_,rfl,by unfold rI;rw[dP h0];exact⟨rfl,eb,rfl,h3⟩,h2⟩
 .rw[dO h0]at h1;exact⟨_,_,h1,by unfold rI;rw[dO h0];exact⟨rfl,rfl⟩,h2⟩
theorem Kh {fb:Nat}{rv:Value}(hb:dX w fb #[aa (jC f),aa f.form,aa tb,tv,rv] 220)(hp:P fb)
  (hr:eO w P 3 1 rv (qb p f).length (gB (qb p f))) (ht:rI w P mp f tb tv):eZ w P mp (sM p f) fb:=by
 unfold rI at ht;unfold eZ;show if f.form=4 then _ else _;split at ht;.rename_i h0;rw[dP h0];obtain⟨rfl,eb,rfl,h3⟩:=ht;rw[h0]at hb;exact⟨rv,eb,hb,hp,hr,h3⟩
 .rename_i h0;rw[dO h0];obtain⟨rfl,rfl⟩:=ht;exact⟨rv,hb,hp,hr⟩
end
end
section
def _root_.List.Perm.J:=@List.Perm.trans
open Go.Maps
open Vo
def Tryz.info212:(prog.info? 212).map (λi=>(i.zero,i.size,i.bytes))=some (some (.pointer none),1,8):=Vh
structure PT (f:eU):Prop where
 num:BC f
 ty:Fk f
def xE (w wr:aw)(mp:an)(v:Value)(gs:List GF):Prop:=
 ∃Vq:aB,wr.ownsRow w.heap.size 212 1 v gs.length (fx Vq)/\gp wr (λb=>w.heap.size<=b/\v.ownBlock≠some b) mp gs Vq/\ak w wr
def xE.on {w wr w2:aw}{mp:an}{v:Value}{gs:List GF}(h:xE w wr mp v gs)(hb:ak wr w2):xE w w2 mp v gs:=by
 obtain⟨Vq,h1,h2,h3⟩:=h;exact⟨Vq,eX hb h1,h2.O (λb _ hl=>hb.block b hl),eQ h3 hb⟩
def xE.start (w wr:aw)(mp:an)(h:ak w wr):xE w wr mp (ai) []:=⟨[],br _ _ _ _,rfl,h⟩
def rL (l:aB)(b:Nat):fx (l++ [b])=fx l++ [gZ (some b)]:=by simp[fx]
def xE.snoc {w W w5:aw}{mp:an}{v v':Value}{gs:List GF}{g:GF}{Vq:aB}{fb:Nat}(h2:gp W (λb=>w.heap.size<=b/\v.ownBlock≠some b) mp gs Vq)(h3:ak w W)(hbase:∀k,v.ownBlock=some k->w.heap.size<=k)
  (hf:eZ W (λb=>w.heap.size<=b/\v.ownBlock≠some b) mp g fb) (Vv:w5.ownsRow w.heap.size 212 1 v' (gs.length+1) (fx Vq++ [gZ (some fb)])) (Vp:W.grownBy w5 v.ownBlock) (hloc:v.ownBlock=v'.ownBlock\/v'.ownBlock=some W.heap.size):xE w w5 mp v' (gs++ [g]):=by
 have h4:=h2.snoc hf;have hq:∀b,(w.heap.size<=b/\v.ownBlock≠some b)->b<W.heap.size->(w.heap.size<=b/\v.ownBlock≠some b)/\v'.ownBlock≠some b:=(by grind);have h5:=(h4.V hq).O (w':=w5) (λb hb hl=>Vp.block b hl (λe=>hb.1.2 e.sy));refine⟨Vq++ [fb],?_,h5.V (λb hb _=>⟨hb.1.1,hb.2⟩),h3.grown Vp h3.size hbase⟩;rw[rL,aN];omega
def zI (ps:List fI):List GF:=ps.flatMap λp=>p.fields.map (sM p)
def sP:∀ps:List fI,(zI ps).length<=mK ps
 | []=>aE _
 |p::ps=>by
  have:=sP ps;unfold zI at this⊢;rw[bt,aN,bN,mK];omega
def Aj:∀(ps:List fI) (k:Nat),mK (ps.take k)<=mK ps
 | [],k=>by grind
 |p::ps,0=>by simp[mK]
 |p::ps,k+1=>by have:=Aj ps k;rw[cX,mK,mK];omega
def IT {α β:Type}{h:α->β}{l' l:List β}(p:l'.Perm l):∀z:List α,z.map h=l->∃z':List α,z'.Perm z/\z'.map h=l':=by
 induction p with
 |nil=>intro z hz;exact⟨z,List.Perm.refl _,hz⟩
 |cons x _ ih=>
  intro z hz
  cases z with
  |nil=>grind
  |cons a z=>
   simp at hz;have⟨z',h1,h2⟩:=ih z hz.2
   exact⟨a::z',h1.cons a,by grind⟩
 |swap x y l=>
  intro z hz
  match z,hz with
  | [],hz=>grind
  | [_],hz=>grind
  |a::c::z,hz=>
   simp at hz
   exact⟨c::a::z,List.Perm.swap _ _ _,by grind⟩
 |trans _ _ ih1 ih2=>
  intro z hz;have⟨z1,h1,h2⟩:=ih2 z hz;have⟨z2,h3,h4⟩:=ih1 z1 h2;exact⟨z2,h3.J h1,h4⟩
def Ak (w:aw)(mp:an)(b:d7)(e:Ending)(w':aw):Prop:=
 ∃(v:Value) (gs:List GF) (Vq:aB),e= .returned v/\gs.Perm (vm b)/\gs.Pairwise (λx y=>x.f.num<=y.f.num)/\
  eO w' (λx=>w.heap.size<=x) 212 1 v Vq.length (fx Vq)/\gp w' (λx=>w.heap.size<=x) mp gs Vq/\ak w w'
def Ki (w:aw)(mb n:Nat)(mp:an)(b:d7)(pa va:aC)(pc vn vc:Nat)(pcs:ay)(S:ax)(hrow:eO w S 208 4 (.slice pa b.parts.length pc) b.parts.length pcs)(hps:fL w S pcs b.parts)
  (H:gq w mb n mp) (hlen:mK b.parts<=2001) (hgood:∀p∈b.parts,∀f∈p.fields,PT f) (hg:GOK w) (hb:BOK w):
  Calls prog 67 #[.map (some mb),.agg #[.bool b.enum,aa (dV b.name.1),ag b.name.1,aa b.name.2,.slice pa b.parts.length pc,.slice va vn vc]] w (Ak w mp b):=by
 have⟨i0,WJ,WK,WL,V9⟩:=info_parts Tryz.info212;have hpl:b.parts.length<=2001:=aM (xw b.parts) hlen;have C0:=(Va w).alloc (aE _) (am #[.bool b.enum,aa (dV b.name.1),ag b.name.1,aa b.name.2,.slice pa b.parts.length pc,.slice va vn vc] 152);go_in
 go_wp2;go_loopw [5,13] (λv i wr=>∃(k:Nat),k<=b.parts.length/\i=aa k/\xE w wr mp v (zI (b.parts.take k))) (λ_ i _=>b.parts.length-(intOf i).toNat)
 case atStart=>exact⟨0,aP _,rfl,xE.start _ _ _ C0⟩
 case round=>
  clear C0;obtain⟨k,hk,rfl,HI⟩:=hrel;by_cases hlt:k<b.parts.length
  .have⟨p,hp⟩:=gx hlt;have Wh:p∈b.parts:=aL hp;have Vr:b.parts.take (k+1)=b.parts.take k++ [p]:=by rw[bT,hp];rfl
   have Wk:zI (b.parts.take (k+1))=zI (b.parts.take k)++p.fields.map (sM p):=by rw[Vr];simp[zI]
   have VQ:(zI (b.parts.take k)).length+p.fields.length<=2001:=(by have h1:=sP (b.parts.take (k+1));have h2:=Aj b.parts (k+1);grind);have CW:ak w wr:=by obtain⟨_,_,_,h⟩:=HI;exact h
   have Ww:∀j,u5.ownBlock=some j->w.heap.size<=j/\j<wr.heap.size:=by obtain⟨_,h,_,_⟩:=HI;exact h.lt
   obtain⟨g,rfl,_,V0,Vz⟩:=eH hrow.1 Vc;have⟨fa,fn,fc,p0,p1,p2,p3,Wb⟩:=hps.get hp;have Wx:=fh Wb.1;subst Wx;have VE:=Vz wr (CW.block g V0);have q0:=VE _ _ p0;have q1:=VE _ _ p1;have q2:=VE _ _ p2;have q3:=VE _ _ p3;have KP:=dX.new wr #[aa (mU p.oneof),ag (jK p.oneof),aa (nS p.oneof),.slice fa p.fields.length fc] 208;have Wl:=HI.on ((Va wr).alloc (aE _) (am #[aa (mU p.oneof),ag (jK p.oneof),aa (nS p.oneof),.slice fa p.fields.length fc] 208));have VF:u5.ownBlock≠some wr.heap.size:=λe=>by grind
   have Vt:=hgood p Wh;have hpb:w.heap.size<=wr.heap.size:=CW.size;generalize zI (b.parts.take k)=G at Wl Wk VQ;clear Vz VE p0 p1 p2 p3 hp Wh Vr HI Ww hgood;go_wp2_with fail;generalize wr.alloc (am #[aa (mU p.oneof),ag (jK p.oneof),aa (nS p.oneof),.slice fa p.fields.length fc] 208)=w1 at*;generalize wr.heap.size=pb at*;clear q0 q1 q2 q3;go_loopw [5,20] (λv i wr=>∃(j:Nat),j<=p.fields.length/\i=aa j/\xE w wr mp v (G++(p.fields.take j).map (sM p))/\dX wr pb #[aa (mU p.oneof),ag (jK p.oneof),aa (nS p.oneof),.slice fa p.fields.length fc] 208/\v.ownBlock≠some pb) (λ_ i _=>p.fields.length-(intOf i).toNat)
   case atStart=>exact⟨0,aP _,rfl,by grind,KP,VF⟩
   case round=>
    clear Wl KP VF CW;obtain⟨j,hj,rfl,HJ,KP,VF⟩:=hrel;by_cases hlt2:j<p.fields.length
    .have⟨f,hf⟩:=gx hlt2;have Wm:f∈p.fields:=aL hf;have Vr:G++(p.fields.take (j+1)).map (sM p)=(G++(p.fields.take j).map (sM p))++ [sM p f]:=by rw[bT,hf];simp
     obtain⟨gf,rfl,_,Wd,Vu⟩:=eH Wb.1 Vc;have Wy:ak w wr:=by obtain⟨_,_,_,h⟩:=HJ;exact h
     have VB:∀x,u5.ownBlock=some x->w.heap.size<=x/\x<wr.heap.size:=by obtain⟨_,h,_,_⟩:=HJ;exact h.lt
     have Wn:=Vu wr (Wy.block gf Wd);have⟨t0,t1,t2,t3,t4,t5,t6,t7,t8,t9,WN,WO,WP⟩:=xu hf Wn;have VN:=Vt f Wm;have KF:=dX.new wr (FC f) 211;have Wo:=KP.alloc (FO f);have Wp:=HJ.on ((Va wr).alloc (aE _) (FO f));have VR:u5.ownBlock≠some wr.heap.size:=λe=>by have:=(VB _ e).2;omega
     have VS:Hid (∀x,u5.ownBlock=some x->x<wr.heap.size):=λx hx=>(VB x hx).2
     have Wz:(G++(p.fields.take j).map (sM p)).length<=2001:=by rw[aN,bN,bM];omega
     generalize(G++(p.fields.take j).map (sM p))=G2 at Wp Vr Wz;have hzz:pb<wr.heap.size:=KP.lt;clear Vu Wn hf Wm HJ KP VB;go_upto_region 8 with fail
     clear t0 t1 t2 t3 t4 t5 t6 t7 t8 t9 WN WO WP;generalize hw1:wr.alloc (FO f)=W1 at*;have zc:wr.heap.size<W1.heap.size:=KF.lt;clear hw1;generalize wr.heap.size=c9 at*;obtain⟨Vq,Vv,Vs,CA⟩:=Wp;have VD:ak w W1.drew:=CA.drew;have VT:=KF.drew;have VU:=Wo.drew;have Vx:W1.drew.ownsRow w.heap.size 212 1 u5 G2.length (fx Vq):=Vv;have VC:gp W1.drew (λb=>w.heap.size<=b/\u5.ownBlock≠some b) mp G2 Vq:=gp.O (w:=W1) (w':=W1.drew) (λ_ _ _=>rfl) Vs;have a0:=RS.of VT VU;have WA:Hid (U8 109 #[.agg (FC f)] W1.drew (λe w'=>e= .returned (aa (jC f))/\Below W1.drew.heap.size W1.drew w')):=sN _ f VN.num.1 VN.num.2 (hg.O (VD.block _ hg.lt))
     have WB:Hid (∀w2:aw,Below W1.drew.heap.size W1.drew w2->U8 110 #[.map (some mb),.agg (FC f)] w2 (λe w'=>∃tb tv,e= .returned (.agg #[aa tb,tv])/\rI w' (λb=>w2.heap.size<=b) mp f tb tv/\ak w2 w')):=
      λw2 h2=>BE w2 mb n mp f VN.ty (H.O ((eQ VD h2).block _ H.lt)) (hb.O ((eQ VD h2).block _ hb.lt))
     have WC:Hid (∀w3:aw,Below W1.drew.heap.size W1.drew w3->U8 111 #[.agg #[aa (mU p.oneof),ag (jK p.oneof),aa (nS p.oneof),U9 gf p.fields.length fc],.agg (FC f)] w3 (λe w'=>∃v,e= .returned v/\w'.ownsRow w3.heap.size 3 1 v (qb p f).length (gB (qb p f))/\ak w3 w')):=
      λw3 h3=>Kg w3 p f _ fc S (Wb.O (λx _ hl=>(eQ VD h3).block x hl)) Vc VN.num (λo ho=>(Vt o ho).num) (hg.O ((eQ VD h3).block _ hg.lt))
     have WD:Hid (∀(W:aw) (fb:Nat) (tb:Int) (tv rv:Value),dX W fb #[aa (jC f),aa f.form,aa tb,tv,rv] 220->(w.heap.size<=fb/\u5.ownBlock≠some fb)->eO W (λb=>w.heap.size<=b/\u5.ownBlock≠some b) 3 1 rv (qb p f).length (gB (qb p f))->rI W (λb=>w.heap.size<=b/\u5.ownBlock≠some b) mp f tb tv->eZ W (λb=>w.heap.size<=b/\u5.ownBlock≠some b) mp (sM p f) fb):=λW fb tb tv rv h1 h2 h3 h4=>Kh h1 h2 h3 h4
     have WE:Hid (some c9≠u5.ownBlock):=λe=>VR e.sy
     have WF:Hid (some pb≠u5.ownBlock):=λe=>VF e.sy
     clear Vv Vs CA KF Wo
     go_region_held3 (λw'=>w'.cell? (aj c9 0)=some (aa f.form)/\w'.cell? (aj c9 1)=some (aa (mU f.key))/\w'.cell? (aj c9 2)=some (ag (jK f.key))/\w'.cell? (aj c9 3)=some (aa (nS f.key))/\w'.cell? (aj c9 4)=some (aa (dV f.type.1))/\w'.cell? (aj c9 5)=some (ag f.type.1)/\w'.cell? (aj c9 6)=some (aa f.type.2)/\w'.cell? (aj c9 7)=some (aa (dV f.name.1))/\w'.cell? (aj c9 8)=some (ag f.name.1)/\w'.cell? (aj c9 9)=some (aa f.name.2)/\w'.cell? (aj c9 10)=some (aa (dV f.num.1))/\w'.cell? (aj c9 11)=some (ag f.num.1)/\w'.cell? (aj c9 12)=some (aa f.num.2)/\w'.cell? (aj pb 0)=some (aa (mU p.oneof))/\w'.cell? (aj pb 1)=some (ag (jK p.oneof))/\w'.cell? (aj pb 2)=some (aa (nS p.oneof))/\w'.cell? (aj pb 3)=some (U9 gf p.fields.length fc))
      (first|exact a5|exact RS.of ((VO.alloc _).alloc _) ((VP.alloc _).alloc _)|exact RS.of (VO.alloc _) (VP.alloc _)|exact RS.of VO VP|exact RS.of VX VY|exact RS.of VV VW|exact a0)
      (first|(refine step_append_lies _ Vi _ _ _ Vi w.heap.size 212 i0 _ 1 8 underlying106 WJ WK WL V9 rfl Vc u5 G2.length (fx Vq) Vi ((VG.alloc _).alloc _) (aj (w4.heap.size+1) 0) 1 1 [_] Vi Vi (bz (dX.newAt Vd _ _)) Vk Vc Vj Vc (by have:=C4.size;simp;omega) (w4.heap.size+1+1) Vd ?_;intro gg cap w5 VA Vp Wu hlt5;have WG:=((VO.alloc _).alloc _).grown Vp WE.o;have Wq:=((VP.alloc _).alloc _).grown Vp WF.o;have a5:=RS.of WG Wq)|(go_at_call 109;refine WA.o.V ?_;rintro e w2 ⟨rfl,b2⟩;have VV:=VT.G b2 VT.lt;have VW:=VU.G b2 VU.lt)|(go_at_call 110;refine(WB.o w2 b2).V ?_;rintro e w3 ⟨tb,tv,rfl,WQ,b3⟩;have VX:=VV.G b3 VV.lt;have VY:=VW.G b3 VW.lt)|(go_at_call 111;refine(WC.o w3 (eQ b2 b3)).V ?_;rintro e w4 ⟨rv,rfl,Wv,b4⟩;obtain⟨ra,rn,rc,rfl⟩:=d5 Wv;have VO:=VX.G b4 VX.lt;have VP:=VY.G b4 VY.lt;have C4:=eQ (eQ (eQ VD b2) b3) b4;have VG:=eX (eQ (eQ b2 b3) b4) Vx))
     have Z2:=b2.size;have Z3:=b3.size;have Z4:=b4.size;have zc2:c9<W1.drew.heap.size:=zc;have Vw:∀x,W1.drew.heap.size<=x->u5.ownBlock≠some x:=λx hx e=>by have:=VS.o x e;omega
     have Ws:∀x,w3.heap.size<=x->w.heap.size<=x/\u5.ownBlock≠some x:=λx hx=>⟨Vc,Vw x Vc⟩
     have BW:ak w4 ((w4.alloc (am #[aa (jC f),aa f.form,aa tb,tv,.slice ra rn rc] 220)).alloc (am #[ah w4.heap.size] 212)):=(Vb w4 _).alloc Vd _;have Wt:=gp.O (w:=W1.drew) (w':=((w4.U5 #[aa (jC f),aa f.form,aa tb,tv,.slice ra rn rc] 220).U5 #[ah w4.heap.size] 212)) (λx _ hl=>(eQ (eQ (eQ b2 b3) b4) BW).block x hl) VC;have Vy:=((eO.of Wv).V (S':=λb=>w.heap.size<=b/\u5.ownBlock≠some b) (λx hx _=>Ws x hx)).O (w':=((w4.U5 #[aa (jC f),aa f.form,aa tb,tv,.slice ra rn rc] 220).U5 #[ah w4.heap.size] 212)) (λx _ hl=>BW.block x hl);have VH:=(rI.V (Q:=λb=>w.heap.size<=b/\u5.ownBlock≠some b) (λx hx _=>⟨Vc,Vw x Vc⟩) WQ).O (w':=((w4.U5 #[aa (jC f),aa f.form,aa tb,tv,.slice ra rn rc] 220).U5 #[ah w4.heap.size] 212)) (λx _ hl=>(eQ b4 BW).block x hl);have VI:=WD.o _ w4.heap.size tb tv (.slice ra rn rc) ((dX.new w4 _ _).alloc _) ⟨C4.size,Vw _ Vc⟩ Vy VH;have HI6:=xE.snoc (v':= U9 gg (G2.length+1) cap) Wt (eQ C4 BW) (λx hx=>(Vx.lt x hx).1) VI VA Vp (Wu.imp (λh=>h) (λh=>by rw[h];simp[Value.ownBlock]))
     have VZ:(Value.slice (some (aj gg 0)) (G2.length+1) cap).ownBlock≠some pb:=λe=>by
      rcases Wu with h|h;.exact VF (h.J e)
      .have e2:=Option.some.inj e;simp only at e2;omega
     clear a5 Wt Vy VH VI VA Vp BW Vw Ws;go_wp2;go_roundw
     case rel=>exact⟨j+1,Vc,rfl,by grind,Wq,VZ⟩
     case measure=>simp[intOf];omega
    .have hli2:decide ((j:Int)<(p.fields.length:Int))=false:=by grind
     obtain rfl:j=p.fields.length:=Vc;rw[bB]at HJ;go_wp2;go_roundw
     case rel=>exact⟨k+1,Vc,rfl,by rw[Wk];exact HJ⟩
     case measure=>simp[intOf];omega
  .have hli:decide ((k:Int)<(b.parts.length:Int))=false:=by grind
   obtain rfl:k=b.parts.length:=Vc;rw[bB]at HI;go_wp2_with fail;obtain⟨Vq,Vv,Vs,CW⟩:=HI;have⟨z,VJ,V9,We⟩:=Vs.zip;have V0:z.length=(zI b.parts).length:=by rw[<-VJ];simp
   have V7:z.length<=2001:=by have:=sP b.parts;omega
   have V8:=Qx wr w.heap.size u5 (z.map λx=>(x.1.f.num,x.2)) (by rw[bN,V0,bJ,show((λx:Int×Nat=>x.2)∘λx:GF×Nat=>(x.1.f.num,x.2))=(λx=>x.2)from rfl,V9];omega)
    (λx hx=>by obtain⟨y,hy,rfl⟩:=aR.1 hx;exact(We y hy).cell0.1) (λx hx=>by obtain⟨y,hy,rfl⟩:=aR.1 hx;exact(We y hy).cell0.2.2) (by simpa using V7)
   refine V8.V ?_;rintro e w' ⟨rfl,l',VK,VL,VM,Vp⟩;obtain⟨z',Wf,rfl⟩:=IT VK z rfl;go_wp2;go_ret;refine⟨u5,z'.map (·.1),z'.map (·.2),rfl,?_,?_,?_,?_,?_⟩;.rw[show vm b=zI b.parts from rfl,<-VJ];exact Wf.map _
   .rw[cw]at VL⊢;omega
   .have WH:(z'.map (·.2)).length=(z.map λx:GF×Nat=>(x.1.f.num,x.2)).length:=by simp[Wf.length_eq]
    rw[WH];have:=eO.of VM;rw[bJ]at this;exact this
   .have h5:∀x∈z',eZ w' (λx=>w.heap.size<=x) mp x.1 x.2:=λx hx=>by
     have h6:=We x (Wf.mem_iff.1 hx);exact(h6.O (w':=w') (λc hc hl=>Vp.block c hl (λe=>hc.2 e.sy))).V (λc hc _=>hc.1)
    exact gp.of_zip h5
   .exact CW.grown Vp CW.size (λx hx=>(Vv.lt x hx).1)
end
section
open Vo
def zJ (s:au)(j:Nat):Int:=IR s (s.size-j) j
def DF (s:au):zJ s s.size=0:=by unfold zJ;rw[Nat.sub_self];rfl
def As {s:au}{i:Nat}(h:i<s.size):zJ s i=256*zJ s (i+1)+fZ s i:=by
 unfold zJ;rw[show s.size-i=(s.size-(i+1))+1 from by omega,IR,dP h]
def BG:∀(k:Nat) (s:au) (j:Nat),s.size=j+k->0<=zJ s j/\zJ s j<256^k
 |0,s,j,h=>by
  rw[show j=s.size from by omega,DF]
  decide
 |k+1,s,j,h=>by
  have ih:=BG k s (j+1) Vc;have hr:=kO s j;rw[As Vc,Int.pow_succ];omega
def Oj {x n:Int}(hx:0<=x)(h0:0<=n)(h1:n<256)(h2:x*256+n<2^64):bits .or .u64 (x*256) n=x*256+n:=by
 obtain⟨a,rfl⟩:=bF hx;obtain⟨b,rfl⟩:=bF h0;have e:((a:Int)*256)=((a*256:Nat):Int):=Vc;rw[e]at h2⊢;have hb:b<2^8:=show b<256 by omega
 have e2:a*256=a<<<8:=by rw[dv]
 rw[bits_or_u64_nat (a*256) b Vc Vc,e2,<-dg hb];omega
def DG (w:aw)(s:au)(hs:s.size<=8):Calls prog 406 #[ag s] w λe w'=>e= .returned (.int .u64 (xB s))/\w'=w:=by
 have e0:xB s=zJ s 0:=rfl;rw[e0];go_in
 go_wp2;go_loopw [3,4] (λv i wr=>∃(k:Nat),k<=s.size/\i=aa ((k:Int)-1)/\v= .int .u64 (zJ s k)/\w=wr) (λ_ i _=>((intOf i)+1).toNat)
 case atStart=>exact⟨s.size,aE _,rfl,by rw[DF],rfl⟩
 case round=>
  obtain⟨k,hk,rfl,rfl,rfl⟩:=hrel
  cases k with
  |zero=>
   go_wp2;go_ret
   exact⟨rfl,rfl⟩
  |succ i=>
   have Vu:i<s.size:=Vc;have Vw:=jJ (t:=s) (k:=i) Vu;have Vs:=kO s i;have Vr:=As Vu;have Vp:=BG (s.size-(i+1)) s (i+1) Vc;have Vq:=BG (s.size-i) s i Vc
   have hp:(256:Int)^(s.size-i)<=256^8:=by
    have:=du (n:=256) Vf (show s.size-i<=8 by omega)
    exact_mod_cast this
   obtain⟨c,hc⟩:=Y9 (fZ s i);rw[hc]at Vw Vs Vr;obtain⟨x,hx⟩:=Y9 (zJ s (i+1));rw[hx]at Vr Vp⊢;have Vt:x*256+c<2^64:=(by rw[Vr]at Vq;have h3:(256:Int)^8=2^64:=Vf;omega);have hw1:IntKind.u64.wrap (x*256)=x*256:=gD Vc Vc;have hw2:IntKind.u64.wrap c=c:=gD Vc Vc;have hb:=Oj Vp.1 Vs.1 Vs.2 Vt;have hgi:(0:Int)<=(i:Int):=Vc;have Vx:(i:Int)+1-1=(i:Int):=Vc;have Vv:((i+1:Nat):Int)-1=(i:Int):=Vc;rw[Vv];clear Vv Vx Vp Vq hp e0;go_wp2;go_roundw
   case rel=>exact⟨i,Vc,rfl,by rw[Vr];congr 1;omega,trivial⟩
   case measure=>simp[intOf]
def jt (s:au)(a:Nat)(k:Nat):Fx (Int×Nat):=if a+k<=s.size then .ok (xB (s.extract a (a+k)),a+k)else .error (6,a)
def um (s:au)(a k:Nat):pL s a k=if a+k<=s.size then .ok (s.extract a (a+k),a+k)else .error (6,(a:Int)):=by
 unfold pL;by_cases h:a+k<=s.size;.rw[dP h,dP Vc];simp
 .rw[dO h,dO Vc]
def BH (w:aw)(rb:Nat)(s:au)(a:Nat)(deep:Int)(h:ee w rb s a deep)(ha:a<=s.size)(hs:s.size<=2^47):
  Calls prog 352 #[ah rb] w (pS w rb s deep (jt s a 4) (Value.int .u64)):=by
 have HT:=xH w rb s a deep 4 h ha hs Vf Vf;rw[show(4:Int)=((4:Nat):Int)from rfl,um]at HT;unfold jt;by_cases Vp:a+4<=s.size
 .rw[dP Vp]at HT⊢;go_in
  go_wp2_with fail;refine HT.V ?_;rintro e w2 ⟨hk,he,hr⟩;obtain rfl:e= .returned (ag (s.extract a (a+4))):=he;go_wp2_with fail;refine(DG w2 (s.extract a (a+4)) (by rw[bg];omega)).V ?_;rintro e w3 ⟨rfl,rfl⟩;go_wp2;go_ret;exact⟨hk,rfl,hr⟩
 .rw[dO Vp]at HT⊢;go_in
  go_wp2_with fail;refine HT.V ?_;rintro e w2 ⟨hk,he⟩;obtain rfl:e=dY 6 a:=he;unfold dY;go_wp2;exact⟨rfl,hk,rfl⟩
def wC (w:aw)(rb:Nat)(s:au)(a:Nat)(deep:Int)(h:ee w rb s a deep)(ha:a<=s.size)(hs:s.size<=2^47):
  Calls prog 353 #[ah rb] w (pS w rb s deep (jt s a 8) (Value.int .u64)):=by
 have HT:=xH w rb s a deep 8 h ha hs Vf Vf;rw[show(8:Int)=((8:Nat):Int)from rfl,um]at HT;unfold jt;by_cases Vp:a+8<=s.size
 .rw[dP Vp]at HT⊢;go_in
  go_wp2_with fail;refine HT.V ?_;rintro e w2 ⟨hk,he,hr⟩;obtain rfl:e= .returned (ag (s.extract a (a+8))):=he;go_wp2_with fail;refine(DG w2 (s.extract a (a+8)) (by rw[bg];omega)).V ?_;rintro e w3 ⟨rfl,rfl⟩;go_wp2;go_ret;exact⟨hk,rfl,hr⟩
 .rw[dO Vp]at HT⊢;go_in
  go_wp2_with fail;refine HT.V ?_;rintro e w2 ⟨hk,he⟩;obtain rfl:e=dY 6 a:=he;unfold dY;go_wp2;exact⟨rfl,hk,rfl⟩
def sV (w:aw)(n:Int):Calls prog 348 #[.int .u64 n] w λe w'=>e= .returned (.int .u64 (n%4294967296))/\w'=w:=by
 have e1:IntKind.u64.wrap (IntKind.u32.wrap n)=n%4294967296:=(by rw[IntKind.wrap_u32];exact gD Vc Vc);go_in
 go_wp2;go_ret;exact⟨rfl,rfl⟩
def pp (w:aw)(n:Int):Calls prog 347 #[.int .u64 n] w λe w'=>e= .returned (.int .u64 (mN n))/\w'=w:=by
 have e1:IntKind.u64.wrap (IntKind.i32.wrap n)=mN n:=by
  rw[IntKind.wrap_i32];unfold mN;split;.rw[show(n+2147483648)%4294967296-2147483648=n%4294967296 from by omega];exact gD Vc Vc
  .simp[IntKind.wrap,IntKind.bits,IntKind.signed];omega
 have e2:IntKind.u64.wrap (wrap32 n)=mN n:=(by rw[<-e1];congr 1;rw[IntKind.wrap_i32];unfold wrap32;rfl);go_in
 go_wp2;go_ret;exact⟨rfl,rfl⟩
def wD (w:aw)(n:Int)(h0:0<=n):Calls prog 351 #[.int .u64 n] w λe w'=>e= .returned (.int .u64 (if 0<n then 1 else 0))/\w'=w:=by
 by_cases h:0<n
 .have hd:(n==0)=false:=Ve;rw[dP h];go_in
  go_wp2;go_ret;exact⟨rfl,rfl⟩
 .obtain rfl:n=0:=Vc;rw[dO h];go_in
  go_wp2;go_ret;exact⟨rfl,rfl⟩
def rN {n:Int}(h0:0<=n)(h1:n<2^64):bits .xor .u64 n 18446744073709551615=18446744073709551615-n:=by
 obtain⟨a,rfl⟩:=bF h0;have hx:(BitVec.ofInt 64 (a:Int)).toNat=a:=(by rw[BitVec.ofInt_natCast,BitVec.toNat_ofNat];exact Nat.mod_eq_of_lt Vc);show IntKind.u64.wrap (((BitVec.ofInt 64 (a:Int))^^^(BitVec.ofInt 64 18446744073709551615)).toNat:Int)=_;have e1:BitVec.ofInt 64 18446744073709551615=BitVec.allOnes 64:=Vf;rw[e1,BitVec.xor_allOnes,BitVec.toNat_not,hx];rw[gD Vc Vc];omega
def rO {n:Int}(h0:0<=n)(h1:n<2^64):bits .xor .u64 n 0=n:=by
 obtain⟨a,rfl⟩:=bF h0;have hx:(BitVec.ofInt 64 (a:Int)).toNat=a:=(by rw[BitVec.ofInt_natCast,BitVec.toNat_ofNat];exact Nat.mod_eq_of_lt Vc);show IntKind.u64.wrap (((BitVec.ofInt 64 (a:Int))^^^(BitVec.ofInt 64 0)).toNat:Int)=_;have e1:BitVec.ofInt 64 0=0#64:=Vf;rw[e1,BitVec.xor_zero,hx];exact gD Vc Vc
def BI {n:Int}(h0:0<=n)(h1:n<2^64):bits .and .u64 n 1=n%2:=by
 obtain⟨a,rfl⟩:=bF h0;rw[show(1:Int)=((1:Nat):Int)from rfl,bits_and_u64_nat a 1 Vc Vc,Nat.and_one_is_mod];omega
def Fp (w:aw)(n:Int)(h0:0<=n)(h1:n<2^64):Calls prog 350 #[.int .u64 n] w λe w'=>e= .returned (.int .u64 (Dg n))/\w'=w:=by
 have hb:=BI h0 h1;unfold Dg;by_cases h:n%2=1
 .rw[dP h];rw[h]at hb;have hw:IntKind.u64.wrap (-1)=18446744073709551615:=Vf;have hx:=rN (n:=n/2) Vc Vc;go_in
  go_wp2;go_ret;exact⟨rfl,rfl⟩
 .rw[dO h];have h2:n%2=0:=Vc;rw[h2]at hb;have hw:IntKind.u64.wrap 0=0:=Vf;have hx:=rO (n:=n/2) Vc Vc;go_in
  go_wp2;go_ret;exact⟨rfl,rfl⟩
def Ks (w:aw)(n:Int):Calls prog 349 #[.int .u64 n] w λe w'=>e= .returned (.int .u64 (Dg (n%4294967296)))/\w'=w:=by
 go_in
 go_wp2_with fail;refine(sV w n).V ?_;rintro e w2 ⟨rfl,rfl⟩;go_wp2_with fail;refine(Fp _ (n%4294967296) Vc Vc).V ?_;rintro e w2 ⟨rfl,rfl⟩;go_wp2;go_ret;exact⟨rfl,rfl⟩
def UOK (w:aw):Prop:=Lib.Utf8Tabs 2 3 w
def UOK.lt1 {w:aw}(h:UOK w):2<w.heap.size:=aV _ _ (h.1 0 Vf)
def UOK.lt2 {w:aw}(h:UOK w):3<w.heap.size:=aV _ _ (h.2 0 Vf).1
def UOK.O {w w':aw}(h:UOK w)(hb:w'.heap[2]?=w.heap[2]?)(hb2:w'.heap[3]?=w.heap[3]?):UOK w':=
 ⟨λc hc=>(bC (a:=(aj 2 c)) hb).J (h.1 c hc), λi hi=>⟨(bC (a:=(aj 3 (2*i))) hb2).J (h.2 i hi).1,(bC (a:=(aj 3 (2*i+1))) hb2).J (h.2 i hi).2⟩⟩
def BJ (w:aw)(s:au)(hs:s.size<=2^47)(hu:UOK w):U8 325 #[ag s] w λe w'=>e= .returned (.bool (Lib.validD s.data.toList))/\ak w w':=
 Any.utf8_ValidString Tryz.laysVs s w Vc hu
def GX (s:au)(w:aw)(h:s.size<=2^47):
  Calls prog 108 #[ag s] w λe w'=>e= .returned (ag s)/\ak w w':=by
 go_in
 go_wp2_with fail;refine(AnyPu.stringslite_Clone Tryz.laysPu25 s _ Vc).V ?_;rintro e w1 ⟨rfl,hb⟩;go_wp2;go_ret;exact⟨rfl,hb⟩
def ju {s:au}{a z e:Nat}(h:fk s a= .ok (z,e)):a<z/\z<=e/\e<=s.size:=by
 unfold fk at h;split at h;.cases h
 .rename_i x hv;have⟨v0,v1,v2,v3⟩:=jj (m:=x.1) (z:=x.2) hv;split at h;.simp at h;obtain⟨rfl,rfl⟩:=h;omega
  .cases h
def GY (s:au)(z e:Nat):(s.extract 0 e).extract z (s.extract 0 e).size=s.extract z e:=by
 apply cN;simp only[cJ];apply Array.ext;.simp
 .intro i h1 h2;simp
def om (s:au)(a:Nat):Fx (au×Nat):=
 match fk s a with
 | .error x=> .error x
 | .ok x=> .ok (s.extract x.1 x.2,x.2)
def rP (s:au)(a:Nat):Fx (au×Nat):=
 match fk s a with
 | .error x=> .error x
 | .ok x=>if Lib.validD (s.extract x.1 x.2).data.toList then .ok (s.extract x.1 x.2,x.2)else .error (10,x.1)
def GZ (w:aw)(rb:Nat)(s:au)(a:Nat)(deep:Int)(h:ee w rb s a deep)(hs:s.size<=2^47):
  Calls prog 270 #[ah rb] w (pS w rb s deep (om s a) Value.string):=by
 obtain⟨r,HR⟩:∃r,Hid (om s a=r):=⟨_,rfl⟩;rw[HR.o];go_in
 go_wp2_with fail;refine(oI w rb s a deep h hs).V ?_
 cases hv:fk s a with
 |error x=>
  rintro e w2 ⟨hk,he⟩;obtain rfl:e=dY x.1 x.2:=he;obtain rfl:r= .error x:=by rw[<-HR.o,om,hv]
  unfold dY;go_wp2
  exact⟨rfl,hk,rfl⟩
 |ok x=>
  obtain⟨z,en⟩:=x;have⟨v1,v2,v3⟩:=ju hv;obtain rfl:r= .ok (s.extract z en,en):=by rw[<-HR.o,om,hv]
  rintro e w2 ⟨hk,nb,rfl,VA,VB,Vp,Vu⟩;have Vp:ee w2 nb (s.extract 0 en) z deep:=Vp;have hsz:(s.extract 0 en).size=en:=by rw[bg];omega
  go_wp2_with fail;have HL:=Fo w2 nb (s.extract 0 en) z deep Vp Vc;rw[GY]at HL;refine HL.V ?_;rintro e w3 ⟨rfl,q,rfl⟩;go_wp2_with fail;refine(GX (s.extract z en) _ (by rw[bg];omega)).V ?_;rintro e w4 ⟨rfl,b4⟩;go_wp2;go_ret;exact⟨(hk.drewN q).J (ec.oB b4),rfl,dX.G (Vu.drewN q) b4 (dX.lt Vu)⟩
def Kt (w:aw)(rb:Nat)(s:au)(a:Nat)(deep:Int)(h:ee w rb s a deep)(hs:s.size<=2^47)(hu:UOK w)(hu1:rb≠2)(hu2:rb≠3):
  Calls prog 269 #[ah rb] w (pS w rb s deep (rP s a) Value.string):=by
 obtain⟨r,HR⟩:∃r,Hid (rP s a=r):=⟨_,rfl⟩;rw[HR.o];go_in
 go_wp2_with fail;refine(oI w rb s a deep h hs).V ?_
 cases hv:fk s a with
 |error x=>
  rintro e w2 ⟨hk,he⟩;obtain rfl:e=dY x.1 x.2:=he;obtain rfl:r= .error x:=by rw[<-HR.o,rP,hv]
  unfold dY;go_wp2
  exact⟨rfl,hk,rfl⟩
 |ok x=>
  obtain⟨z,en⟩:=x;have⟨v1,v2,v3⟩:=ju hv;rintro e w2 ⟨hk,nb,rfl,VA,VB,Vp,Vu⟩;have Vp:ee w2 nb (s.extract 0 en) z deep:=Vp;have hsz:(s.extract 0 en).size=en:=by rw[bg];omega
  have Vv:UOK w2:=hu.O (hk.block _ hu.lt1 (by simp;exact λe=>hu1 e.sy)) (hk.block _ hu.lt2 (by simp;exact λe=>hu2 e.sy))
  have HL:Hid (∀w3:aw,ee w3 nb (s.extract 0 en) z deep->U8 272 #[ah nb] w3 λe w'=>e= .returned (ag (s.extract z en))/\∃q,w'=w3.drewN q):=λw3 h3=>by
   have:=Fo w3 nb (s.extract 0 en) z deep h3 Vc;rw[GY]at this;exact this
  have Vw:(s.extract z en).size<=2^47:=by rw[bg];omega
  have HV:Hid (∀w3:aw,UOK w3->U8 325 #[ag (s.extract z en)] w3 λe w'=>e= .returned (.bool (Lib.validD (s.extract z en).data.toList))/\ak w3 w'):=λw3 h3=>BJ w3 _ Vw h3
  have HC:Hid (∀w3:aw,U8 108 #[ag (s.extract z en)] w3 λe w'=>e= .returned (ag (s.extract z en))/\ak w3 w'):=λw3=>GX _ w3 Vw
  have HE:Hid (r=if Lib.validD (s.extract z en).data.toList then .ok (s.extract z en,en)else .error (10,(z:Int))):=(by show r=_;rw[<-HR.o,rP,hv]);clear HR hsz Vw;generalize s.extract z en=X at*;generalize Lib.validD X.data.toList=vd at*;go_wp2_with fail;refine(HL.o w2 Vp).V ?_;rintro e w3 ⟨rfl,q,rfl⟩;have Vq:=Vp.drewN q;have Vr:ee (w2.drewN q) rb s en deep:=Vu.drewN q;have Vy:=hk.drewN q;have Vz:UOK (w2.drewN q):=Vv.O rfl rfl;generalize w2.drewN q=w3 at*;go_wp2_with fail;refine(HV.o w3 Vz).V ?_;rintro e w4 ⟨rfl,b4⟩;have Vs:ee w4 nb (s.extract 0 en) z deep:=dX.G Vq b4 (dX.lt Vq);have Vt:ee w4 rb s en deep:=dX.G Vr b4 (dX.lt Vr);have Vx:=Vy.J (ec.oB b4);cases vd;.obtain rfl:r= .error (10,(z:Int)):=HE.o;have⟨k1,k2⟩:=dX.I Vs;go_wp2_with fail;refine(JM _ _ _).V ?_;rintro e w5 ⟨rfl,rfl⟩;go_wp2;exact⟨rfl,Vx,rfl⟩
  .obtain rfl:r= .ok (X,en):=HE.o;go_wp2_with fail;refine(HL.o w4 Vs).V ?_;rintro e w5 ⟨rfl,q5,rfl⟩;go_wp2_with fail;refine(HC.o _).V ?_;rintro e w6 ⟨rfl,b6⟩;go_wp2;go_ret;exact⟨(Vx.drewN q5).J (ec.oB b6),rfl,dX.G (Vt.drewN q5) b6 (dX.lt Vt)⟩
def lZ (s:au)(a:Nat)(kind:Int):Fx (Unit×Nat):=
 if kind=0 then(match iT s a s.size with| .error x=> .error x| .ok x=> .ok ((),x.2))
 else if kind=1 then(match jt s a 8 with| .error x=> .error x| .ok x=> .ok ((),x.2))
 else if kind=5 then(match jt s a 4 with| .error x=> .error x| .ok x=> .ok ((),x.2))
 else(match fk s a with| .error x=> .error x| .ok x=> .ok ((),x.2))
def Ku (w:aw)(rb:Nat)(s:au)(deep:Int)(r:Fx (Unit×Nat))(e:Ending)(w':aw):Prop:=
 ec [rb] w w'/\(match r with
 | .error x=>e=dY x.1 x.2
 | .ok x=>e= .returned (.tuple #[])/\ee w' rb s x.2 deep)
def vq (s:au)(a k:Nat):(match pL s a k with| .error x=>Except.error x| .ok x=> .ok ((),x.2):Fx (Unit×Nat))=(match jt s a k with| .error x=> .error x| .ok x=> .ok ((),x.2)):=by
 rw[um,jt];by_cases h:a+k<=s.size;.rw[dP h,dP h]
 .rw[dO h,dO h]
def BK (w:aw)(rb:Nat)(s:au)(a:Nat)(deep kind:Int)(h:ee w rb s a deep)(ha:a<=s.size)(hs:s.size<=2^47)(hk:kind=0\/kind=1\/kind=2\/kind=5):
  Calls prog 134 #[ah rb,aa kind] w (Ku w rb s deep (lZ s a kind)):=by
 have h8:=xH w rb s a deep 8 h ha hs Vf Vf;have h4:=xH w rb s a deep 4 h ha hs Vf Vf;rcases hk with rfl|rfl|rfl|rfl
 .have e0:lZ s a 0=(match iT s a s.size with| .error x=> .error x| .ok x=> .ok ((),x.2)):=rfl;rw[e0];obtain⟨r,HR⟩:∃r,Hid ((match iT s a s.size with| .error x=> .error x| .ok x=> .ok ((),x.2):Fx (Unit×Nat))=r):=⟨_,rfl⟩;rw[HR.o];go_in
  go_wp2_with fail;refine(nr w rb s a deep h hs).V ?_
  cases hv:iT s a s.size with
  |error x=>
   rintro e w2 ⟨hk,he⟩;obtain rfl:e=dY x.1 x.2:=he;obtain rfl:r= .error x:=by rw[<-HR.o,hv]
   unfold dY;go_wp2
   exact⟨rfl,hk,rfl⟩
  |ok x=>
   rintro e w2 ⟨hk,rfl,hr⟩;obtain rfl:r= .ok ((),x.2):=by rw[<-HR.o,hv]
   go_wp2;go_end0;exact⟨hk,rfl,hr⟩
 .have e0:lZ s a 1=(match pL s a 8 with| .error x=> .error x| .ok x=> .ok ((),x.2)):=(vq s a 8).sy;rw[e0];obtain⟨r,HR⟩:∃r,Hid ((match pL s a 8 with| .error x=> .error x| .ok x=> .ok ((),x.2):Fx (Unit×Nat))=r):=⟨_,rfl⟩;rw[HR.o];go_in
  go_wp2_with fail;refine h8.V ?_
  cases hv:pL s a 8 with
  |error x=>
   rintro e w2 ⟨hk,he⟩;obtain rfl:e=dY x.1 x.2:=he;obtain rfl:r= .error x:=by rw[<-HR.o,hv]
   unfold dY;go_wp2
   exact⟨rfl,hk,rfl⟩
  |ok x=>
   rintro e w2 ⟨hk,rfl,hr⟩;obtain rfl:r= .ok ((),x.2):=by rw[<-HR.o,hv]
   go_wp2;go_end0;exact⟨hk,rfl,hr⟩
 .have e0:lZ s a 2=(match fk s a with| .error x=> .error x| .ok x=> .ok ((),x.2)):=rfl;rw[e0];obtain⟨r,HR⟩:∃r,Hid ((match fk s a with| .error x=> .error x| .ok x=> .ok ((),x.2):Fx (Unit×Nat))=r):=⟨_,rfl⟩;rw[HR.o];go_in
  go_wp2_with fail;refine(oI w rb s a deep h hs).V ?_
  cases hv:fk s a with
  |error x=>
   rintro e w2 ⟨hk,he⟩;obtain rfl:e=dY x.1 x.2:=he;obtain rfl:r= .error x:=by rw[<-HR.o,hv]
   unfold dY;go_wp2
   exact⟨rfl,hk,rfl⟩
  |ok x=>
   rintro e w2 ⟨hk,nb,rfl,_,_,_,hr⟩;obtain rfl:r= .ok ((),x.2):=by rw[<-HR.o,hv]
   go_wp2;go_end0;exact⟨hk,rfl,hr⟩
 .have e0:lZ s a 5=(match pL s a 4 with| .error x=> .error x| .ok x=> .ok ((),x.2)):=(vq s a 4).sy;rw[e0];obtain⟨r,HR⟩:∃r,Hid ((match pL s a 4 with| .error x=> .error x| .ok x=> .ok ((),x.2):Fx (Unit×Nat))=r):=⟨_,rfl⟩;rw[HR.o];go_in
  go_wp2_with fail;refine h4.V ?_
  cases hv:pL s a 4 with
  |error x=>
   rintro e w2 ⟨hk,he⟩;obtain rfl:e=dY x.1 x.2:=he;obtain rfl:r= .error x:=by rw[<-HR.o,hv]
   unfold dY;go_wp2
   exact⟨rfl,hk,rfl⟩
  |ok x=>
   rintro e w2 ⟨hk,rfl,hr⟩;obtain rfl:r= .ok ((),x.2):=by rw[<-HR.o,hv]
   go_wp2;go_end0;exact⟨hk,rfl,hr⟩
end
section
open Go.Lib
def sZ (s:au)(k:Nat):fZ s k=((s.data.toList.getD k 0).toNat:Int):=by
 have hz:s.data.size=s.size:=rfl;unfold fZ;by_cases h:k<s.size;.rw[dif_pos h,cr,bO,bU (show k<s.data.size from h)];rfl
 .rw[dif_neg h,cr,bO,cI Vc];rfl
def si (n:Nat)(b0 b1 b2 b3:Int):Option Nat:=
 if 240<=b0 then
  (if n<4 then none else if b1<128\/191<b1 then none else if b2<128\/191<b2 then none else if b3<128\/191<b3 then none else
   if 64*(64*(64*(b0-240)+b1-128)+b2-128)+b3-128<65536\/1114111<64*(64*(64*(b0-240)+b1-128)+b2-128)+b3-128\/(55296<=64*(64*(64*(b0-240)+b1-128)+b2-128)+b3-128/\64*(64*(64*(b0-240)+b1-128)+b2-128)+b3-128<=57343)then none else some 4)
 else if 224<=b0 then
  (if n<3 then none else if b1<128\/191<b1 then none else if b2<128\/191<b2 then none else
   if 64*(64*(b0-224)+b1-128)+b2-128<2048\/1114111<64*(64*(b0-224)+b1-128)+b2-128\/(55296<=64*(64*(b0-224)+b1-128)+b2-128/\64*(64*(b0-224)+b1-128)+b2-128<=57343)then none else some 3)
 else if 192<=b0 then
  (if n<2 then none else if b1<128\/191<b1 then none else
   if 64*(b0-192)+b1-128<128\/1114111<64*(b0-192)+b1-128\/(55296<=64*(b0-192)+b1-128/\64*(b0-192)+b1-128<=57343)then none else some 2)
 else if 128<=b0 then none
 else(if n<1 then none else if b0<0\/1114111<b0\/(55296<=b0/\b0<=57343)then none else some 1)
def Ss (s:au):Tu s=si s.size (fZ s 0) (fZ s 1) (fZ s 2) (fZ s 3):=by
 unfold Tu si Sp;by_cases h1:240<=fZ s 0
 .rw[dP h1,dP h1];by_cases h2:s.size<4;.rw[dP h2,dP h2]
  .rw[dO h2,dO h2];show(match JX s 3 1 (fZ s 0-240)with|none=>none|some c=>_)=_;unfold JX;by_cases g1:fZ s 1<128\/191<fZ s 1;.rw[dP g1,dP g1]
   .rw[dO g1,dO g1];unfold JX;by_cases g2:fZ s 2<128\/191<fZ s 2;.rw[dP g2,dP g2]
    .rw[dO g2,dO g2];unfold JX;by_cases g3:fZ s 3<128\/191<fZ s 3;.rw[dP g3,dP g3]
     .rw[dO g3,dO g3];rfl
 .rw[dO h1,dO h1];by_cases h3:224<=fZ s 0
  .rw[dP h3,dP h3];by_cases h2:s.size<3;.rw[dP h2,dP h2]
   .rw[dO h2,dO h2];show(match JX s 2 1 (fZ s 0-224)with|none=>none|some c=>_)=_;unfold JX;by_cases g1:fZ s 1<128\/191<fZ s 1;.rw[dP g1,dP g1]
    .rw[dO g1,dO g1];unfold JX;by_cases g2:fZ s 2<128\/191<fZ s 2;.rw[dP g2,dP g2]
     .rw[dO g2,dO g2];rfl
  .rw[dO h3,dO h3];by_cases h4:192<=fZ s 0
   .rw[dP h4,dP h4];by_cases h2:s.size<2;.rw[dP h2,dP h2]
    .rw[dO h2,dO h2];show(match JX s 1 1 (fZ s 0-192)with|none=>none|some c=>_)=_;unfold JX;by_cases g1:fZ s 1<128\/191<fZ s 1;.rw[dP g1,dP g1]
     .rw[dO g1,dO g1];rfl
   .rw[dO h4,dO h4];rfl
def xJ {n b0 b1 b2 b3:Nat}(hd:decodeN n b0 b1 b2 b3=(65533,1))(hu:si n b0 b1 b2 b3=none):
  si n b0 b1 b2 b3=if(decodeN n b0 b1 b2 b3).1=65533/\(decodeN n b0 b1 b2 b3).2=1 then none else some (decodeN n b0 b1 b2 b3).2:=by grind
def Hc {n b0 b1 b2 b3 c k:Nat}(hd:decodeN n b0 b1 b2 b3=(c,k))(hu:si n b0 b1 b2 b3=some k)(Vp:¬(c=65533/\k=1)):
  si n b0 b1 b2 b3=if(decodeN n b0 b1 b2 b3).1=65533/\(decodeN n b0 b1 b2 b3).2=1 then none else some (decodeN n b0 b1 b2 b3).2:=by
 rw[hu,hd,dO Vp]
def Ky (n b0 b1 b2 b3:Nat)(hn:0<n)(h0:b0<256)(h1:b1<256)(h2:b2<256)(h3:b3<256):
  si n b0 b1 b2 b3=if(decodeN n b0 b1 b2 b3).1=65533/\(decodeN n b0 b1 b2 b3).2=1 then none else some (decodeN n b0 b1 b2 b3).2:=by
 by_cases c0:b0<128
 .refine Hc (c:=b0) (k:=1) ?_ ?_ Vc;.unfold decodeN;rw[dP c0]
  .unfold si;rw[dO Vc,dO Vc,dO Vc,dO Vc,dO Vc,dO Vc]
 .by_cases c1:b0<192
  .refine xJ ?_ ?_;.unfold decodeN;rw[dO c0,dO (λq=>Vc),dO (λq=>Vc),dO (λq=>Vc)]
   .unfold si;rw[dO Vc,dO Vc,dO Vc,dP Vc]
  .by_cases c2:b0<224
   .have e0:b0/32=6:=Vc
    have hu:si n b0 b1 b2 b3=if n<2 then none else if(b1:Int)<128\/191<(b1:Int)then none else
      if 64*((b0:Int)-192)+b1-128<128\/1114111<64*((b0:Int)-192)+b1-128\/(55296<=64*((b0:Int)-192)+b1-128/\64*((b0:Int)-192)+b1-128<=57343)then none else some 2:=by
     unfold si;rw[dO Vc,dO Vc,dP Vc]
    by_cases g:1<n/\b1/64=2
    .by_cases q:b0%32*64+b1%64>=128
     .refine Hc (c:=b0%32*64+b1%64) (k:=2) ?_ ?_ Vc;.unfold decodeN;rw[dO c0,dP ⟨e0,g⟩,dP q]
      grind
     .refine xJ ?_ ?_;.unfold decodeN;rw[dO c0,dP ⟨e0,g⟩,dO q]
      grind
    .refine xJ ?_ ?_;.unfold decodeN;rw[dO c0,dO (λq=>g q.2),dO (λq=>Vc),dO (λq=>Vc)]
     grind
   .by_cases c3:b0<240
    .have e0:b0/16=14:=Vc
     have hu:si n b0 b1 b2 b3=if n<3 then none else if(b1:Int)<128\/191<(b1:Int)then none else if(b2:Int)<128\/191<(b2:Int)then none else
       if 64*(64*((b0:Int)-224)+b1-128)+b2-128<2048\/1114111<64*(64*((b0:Int)-224)+b1-128)+b2-128\/(55296<=64*(64*((b0:Int)-224)+b1-128)+b2-128/\64*(64*((b0:Int)-224)+b1-128)+b2-128<=57343)then none else some 3:=by
      unfold si;rw[dO Vc,dP Vc]
     by_cases g:(1<n/\b1/64=2)/\(2<n/\b2/64=2);.obtain⟨⟨g1,g2⟩,g3,g4⟩:=g;have hd:decodeN n b0 b1 b2 b3=if b0%16*4096+b1%64*64+b2%64>=2048/\(b0%16*4096+b1%64*64+b2%64<55296\/(57344<=b0%16*4096+b1%64*64+b2%64/\b0%16*4096+b1%64*64+b2%64<=1114111))then(b0%16*4096+b1%64*64+b2%64,3)else(65533,1):=(by unfold decodeN;rw[dO c0,dO (λq=>Vc),dP ⟨e0,⟨g1,g2⟩,g3,g4⟩]);grind
     .refine xJ ?_ ?_;.unfold decodeN;rw[dO c0,dO (λq=>Vc),dO (λq=>g q.2),dO (λq=>Vc)]
      grind
    .have hu:si n b0 b1 b2 b3=if n<4 then none else if(b1:Int)<128\/191<(b1:Int)then none else if(b2:Int)<128\/191<(b2:Int)then none else if(b3:Int)<128\/191<(b3:Int)then none else
       if 64*(64*(64*((b0:Int)-240)+b1-128)+b2-128)+b3-128<65536\/1114111<64*(64*(64*((b0:Int)-240)+b1-128)+b2-128)+b3-128\/(55296<=64*(64*(64*((b0:Int)-240)+b1-128)+b2-128)+b3-128/\64*(64*(64*((b0:Int)-240)+b1-128)+b2-128)+b3-128<=57343)then none else some 4:=by
      unfold si;rw[dP Vc]
     by_cases g:b0/8=30/\(1<n/\b1/64=2)/\(2<n/\b2/64=2)/\(3<n/\b3/64=2);.have hd:decodeN n b0 b1 b2 b3=if b0%8*262144+b1%64*4096+b2%64*64+b3%64>=65536/\(b0%8*262144+b1%64*4096+b2%64*64+b3%64<55296\/(57344<=b0%8*262144+b1%64*4096+b2%64*64+b3%64/\b0%8*262144+b1%64*4096+b2%64*64+b3%64<=1114111))then(b0%8*262144+b1%64*4096+b2%64*64+b3%64,4)else(65533,1):=(by unfold decodeN;rw[dO c0,dO (λq=>Vc),dO (λq=>Vc),dP g]);grind
     .refine xJ ?_ ?_;.unfold decodeN;rw[dO c0,dO (λq=>Vc),dO (λq=>Vc),dO g]
      .rw[hu];by_cases q:n<4;.rw[dP q]
       .rw[dO q];by_cases q1:(b1:Int)<128\/191<(b1:Int);.rw[dP q1]
        .rw[dO q1];by_cases q2:(b2:Int)<128\/191<(b2:Int);.rw[dP q2]
         .rw[dO q2];by_cases q3:(b3:Int)<128\/191<(b3:Int);.rw[dP q3]
          .rw[dO q3,dP Vc]
def Au:∀(f:Nat) (s:au),s.size<=f->Sq f s=validD s.data.toList
 |0,s,h=>by
  have e:s.data.toList= []:=bE (by rw[Array.length_toList];exact Nat.le_zero.1 h);rw[e]
  rfl
 |f+1,s,h=>by
  unfold Sq;by_cases h0:s.size=0;.rw[dP h0];have e:s.data.toList= []:=bE (by rw[Array.length_toList];exact h0);rw[e];rfl
  .rw[dO h0];have hl:s.data.toList.length=s.size:=Vi;have Vp:s.data.toList≠ []:=λe=>by grind
   rw[validD_step _ Vp,Ss,sZ,sZ,sZ,sZ,decodeL_N,hl];rw[Ky s.size _ _ _ _ Vc (UInt8.toNat_lt _) (UInt8.toNat_lt _) (UInt8.toNat_lt _) (UInt8.toNat_lt _)];have hw:=decodeL_width s.data.toList;rw[decodeL_N,hl]at hw;generalize decodeN s.size (s.data.toList.getD 0 0).toNat (s.data.toList.getD 1 0).toNat (s.data.toList.getD 2 0).toNat (s.data.toList.getD 3 0).toNat=D at*;by_cases hD:D.1=65533/\D.2=1;.rw[dP hD,dP hD]
   .rw[dO hD,dO hD];show Sq f (s.extract D.2 s.size)=_;rw[Au f _ (by rw[bg];omega)];congr 1;rw[cJ,Array.toList_extract];simp[List.extract];rw[ch (by grind)]
def ur (s:au):Te s=validD s.data.toList:=Au s.size s (aE _)
end
section
open Vo
def Ot (w:aw)(v:Value)(ns:ar)(t:Int)(hrow:w.ownsRow 0 3 1 v ns.length (gB ns))(hl:ns.length<=1073741824):
  Calls prog 322 #[v,aa t] w λe w'=>(∃r:Int,e= .returned (aa r)/\decide (0<=r)=decide (t∈ns))/\w'=w:=by
 obtain⟨a,c,rfl⟩:=iz hrow
 have HG:Hid (∀(i:Nat) (x:Int),ns[i]?=some x->∃g,a=some (aj g 0)/\w.cell? (aj g i)=some (aa x)):=λi x hx=>by
  have hi:=gl hx;obtain⟨g,rfl,_,hgl,Vq⟩:=eH hrow Vc;exact⟨g,rfl,Vq w rfl i _ (by unfold gB;rw[aT,hx];rfl)⟩
 clear hrow;go_in
 go_wp2;go_loopw [8] (λiv wr=>∃(i:Nat),i<=ns.length/\iv=aa i/\Hid (∀(k:Nat) (x:Int),ns[k]?=some x->k<i->x≠t)/\wr=w) (λiv _=>((ns.length:Int)-(intOf iv)).toNat)
 case atStart=>exact⟨0,aP _,rfl,(λk x _ h=>Vc),rfl⟩
 case round=>
  obtain⟨i,hil,rfl,H1,rfl⟩:=hrel;by_cases hlt:i<ns.length
  .have⟨x,hx⟩:=gx hlt;obtain⟨g,rfl,hgc⟩:=HG.o i x hx;have HX:Hid (ns[i]?=some x):=hx;have hw1:IntKind.i64.wrap ((i:Int)+1)=(i:Int)+1:=by rw[IntKind.wrap_i64];omega
   by_cases hxt:t=x;.subst hxt;clear hx HG;go_wp2;go_ret;refine⟨⟨i,rfl,?_⟩,rfl⟩;have:t∈ns:=aL HX.o;simp[this]
   .have hd:(t==x)=false:=by simpa using hxt
    have Vr:Hid (t≠x):=hxt;clear hx HG hxt;go_wp2;go_roundw
    case rel=>exact⟨i+1,Vc,rfl,(λk y hy hk=>by
     by_cases e:k=i;.subst e;rw[HX.o]at hy;obtain rfl:=Option.some.inj hy;exact λe=>Vr.o e.sy
     .exact H1.o k y hy Vc),trivial⟩
    case measure=>simp[intOf];omega
  .obtain rfl:i=ns.length:=Vc;clear HG;go_wp2;go_ret;refine⟨⟨-1,rfl,?_⟩,rfl⟩
   have:t∉ns:=λh=>by
    have⟨k,hk⟩:=bY.1 h;have Vs:=gl hk;exact H1.o k t hk Vs rfl
   simp[this]
def xX (w:aw)(v:Value)(ns:ar)(t:Int)(hrow:w.ownsRow 0 3 1 v ns.length (gB ns))(hl:ns.length<=1073741824):
  Calls prog 238 #[v,aa t] w λe w'=>e= .returned (.bool (decide (t∈ns)))/\w'=w:=by
 have hI:=Ot w v ns t hrow hl;generalize decide (t∈ns)=q at hI⊢;go_in
 go_wp2_with fail;refine hI.V ?_;rintro e w' ⟨⟨r,rfl,rfl⟩,rfl⟩;go_wp2;go_ret;exact⟨rfl,rfl⟩
def xY (nb:Nat):Value:= .func (.func 264) #[] #[ah nb]
def Lb (w:aw)(nb:Nat)(nv:Value)(ns:ar)(x:gF)(hb:dX w nb #[nv] 35)(hrow:w.ownsRow 0 3 1 nv ns.length (gB ns))(hl:ns.length<=1073741824):
  Calls prog 264 #[.agg #[aa x.1,x.2.1,x.2.2.1,x.2.2.2],ah nb] w λe w'=>e= .returned (.bool (decide (x.1∈ns)))/\ak w w':=by
 have Vt:=hb.alloc (am #[aa x.1,x.2.1,x.2.2.1,x.2.2.2] 249);have Vp:=hrow.alloc (am #[aa x.1,x.2.1,x.2.2.1,x.2.2.2] 249);have hC:=xX _ nv ns x.1 Vp hl;have⟨k1,k2⟩:=Vt.I;obtain⟨a,n,c,rfl⟩:=d5 hrow;have B0:ak w (w.U5 #[aa x.1,x.2.1,x.2.2.1,x.2.2.2] 249):=(Va w).alloc (aE _) _;generalize decide (x.1∈ns)=q at hC⊢;go_in
 go_wp2_with fail;refine hC.V ?_;rintro e w' ⟨rfl,rfl⟩;go_wp2;go_ret;exact⟨rfl,B0⟩
end
end Go.Proofs.YtfebdimolnobaaaGreatDoor
