import Derived.Test.YtfebdimolnobaaaGreatDoorTreeOK
import Derived.Test.YtfebdimolnobaaaGreatDoorWkB
set_option maxRecDepth 100000
set_option maxHeartbeats 8000000
set_option linter.all false
namespace Go.Proofs.YtfebdimolnobaaaGreatDoor
open Go.RowKit Go.Proofs.Tryz
section
open Go.Maps
open Vo
section
variable {f:eU} {p:fI} {w' w:aw} {P:ax} {mp:an} {tb:Int} {tv:Value}
def RS (f:eU)(p:fI)(fa:aC)(fc c9 pb:Nat)(w':aw):Prop:=w'.cell? (aj c9 0)=some (aa f.form)/\w'.cell? (aj c9 1)=some (aa (mU f.key))/\w'.cell? (aj c9 2)=some (ag (jK f.key))/\w'.cell? (aj c9 3)=some (aa (nS f.key))/\w'.cell? (aj c9 4)=some (aa (dV f.type.1))/\w'.cell? (aj c9 5)=some (ag f.type.1)/\w'.cell? (aj c9 6)=some (aa f.type.2)/\w'.cell? (aj c9 7)=some (aa (dV f.name.1))/\w'.cell? (aj c9 8)=some (ag f.name.1)/\w'.cell? (aj c9 9)=some (aa f.name.2)/\w'.cell? (aj c9 10)=some (aa (dV f.num.1))/\w'.cell? (aj c9 11)=some (ag f.num.1)/\w'.cell? (aj c9 12)=some (aa f.num.2)/\w'.cell? (aj pb 0)=some (aa (mU p.oneof))/\w'.cell? (aj pb 1)=some (ag (jK p.oneof))/\w'.cell? (aj pb 2)=some (aa (nS p.oneof))/\w'.cell? (aj pb 3)=some (.slice fa p.fields.length fc)
theorem RS.of {fa:aC}{fc c9 pb:Nat}(h:dX w' c9 (FC f) 211)(k:dX w' pb #[aa (mU p.oneof),ag (jK p.oneof),aa (nS p.oneof),.slice fa p.fields.length fc] 208):RS f p fa fc c9 pb w':=
 ⟨h.cell 0,h.cell 1,h.cell 2,h.cell 3,h.cell 4,h.cell 5,h.cell 6,h.cell 7,h.cell 8,h.cell 9,h.cell 10,h.cell 11,h.cell 12,k.cell 0,k.cell 1,k.cell 2,k.cell 3⟩
def rI (w':aw)(P:ax)(mp:an)(f:eU)(tb:Int)(tv:Value):Prop:=
 if f.form=4 then tb=16/\∃eb,tv=gZ (some eb)/\mJ w' P mp (jK f.key) f.type.1 eb else tb=jB mp f.type.1/\tv=gZ (zH mp f.type.1)
theorem rI.O (hk:∀b,P b->b<w.heap.size->w'.heap[b]?=w.heap[b]?)(h:rI w P mp f tb tv):rI w' P mp f tb tv:=by
 unfold rI at h⊢;split at h;.rename_i h0;rw[dP h0];obtain⟨h1,eb,h2,h3⟩:=h;exact⟨h1,eb,h2,h3.O hk⟩
 .rename_i h0;rw[dO h0];exact h
theorem rI.V {Q:ax}(hs:∀b,P b->b<w.heap.size->Q b)(h:rI w P mp f tb tv):rI w Q mp f tb tv:=by
 unfold rI at h⊢;split at h;.rename_i h0;rw[dP h0];obtain⟨h1,eb,h2,h3⟩:=h;exact⟨h1,eb,h2,h3.V hs⟩
 .rename_i h0;rw[dO h0];exact h
theorem BE (w:aw)(b n:Nat)(mp:an)(f:eU)(hg:Fk f)(H:gq w b n mp)(hb:BOK w):
  U8 110 #[.map (some b),.agg (FC f)] w λe w'=>∃tb tv,e= .returned (.agg #[aa tb,tv])/\rI w' (λb=>w.heap.size<=b) mp f tb tv/\ak w w':=by
 refine(Dy w b n mp f hg H hb).V ?_;rintro e w' ⟨h1,h2⟩;unfold Kf at h1;by_cases h0:f.form=4;.rw[dP h0]at h1;obtain⟨eb,rfl,h3⟩:=h1;exact⟨16,_,rfl,by unfold rI;rw[dP h0];exact⟨rfl,eb,rfl,h3⟩,h2⟩
 .rw[dO h0]at h1;exact⟨_,_,h1,by unfold rI;rw[dO h0];exact⟨rfl,rfl⟩,h2⟩
theorem Kh {fb:Nat}{rv:Value}(hb:dX w fb #[aa (jC f),aa f.form,aa tb,tv,rv] 220)(hp:P fb)
  (hr:eO w P 3 1 rv (qb p f).length (gB (qb p f))) (ht:rI w P mp f tb tv):eZ w P mp (sM p f) fb:=by
 unfold rI at ht;unfold eZ;show if f.form=4 then _ else _;split at ht;.rename_i h0;rw[dP h0];obtain⟨rfl,eb,rfl,h3⟩:=ht;rw[h0]at hb;exact⟨rv,eb,hb,hp,hr,h3⟩
 .rename_i h0;rw[dO h0];obtain⟨rfl,rfl⟩:=ht;exact⟨rv,hb,hp,hr⟩
end
end
section
def _root_.List.Perm.J:=@List.Perm.trans
open Go.Maps
open Vo
def Tryz.info212:(prog.info? 212).map (λi=>(i.zero,i.size,i.bytes))=some (some (.pointer none),1,8):=Vh
structure PT (f:eU):Prop where
 num:BC f
 ty:Fk f
def xE (w wr:aw)(mp:an)(v:Value)(gs:List GF):Prop:=
 ∃Vq:aB,wr.ownsRow w.heap.size 212 1 v gs.length (fx Vq)/\gp wr (λb=>w.heap.size<=b/\v.ownBlock≠some b) mp gs Vq/\ak w wr
def xE.on {w wr w2:aw}{mp:an}{v:Value}{gs:List GF}(h:xE w wr mp v gs)(hb:ak wr w2):xE w w2 mp v gs:=by
 obtain⟨Vq,h1,h2,h3⟩:=h;exact⟨Vq,eX hb h1,h2.O (λb _ hl=>hb.block b hl),eQ h3 hb⟩
def xE.start (w wr:aw)(mp:an)(h:ak w wr):xE w wr mp (ai) []:=⟨[],br _ _ _ _,rfl,h⟩
def rL (l:aB)(b:Nat):fx (l++ [b])=fx l++ [gZ (some b)]:=by simp[fx]
def xE.snoc {w W w5:aw}{mp:an}{v v':Value}{gs:List GF}{g:GF}{Vq:aB}{fb:Nat}(h2:gp W (λb=>w.heap.size<=b/\v.ownBlock≠some b) mp gs Vq)(h3:ak w W)(hbase:∀k,v.ownBlock=some k->w.heap.size<=k)
  (hf:eZ W (λb=>w.heap.size<=b/\v.ownBlock≠some b) mp g fb) (Vv:w5.ownsRow w.heap.size 212 1 v' (gs.length+1) (fx Vq++ [gZ (some fb)])) (Vp:W.grownBy w5 v.ownBlock) (hloc:v.ownBlock=v'.ownBlock\/v'.ownBlock=some W.heap.size):xE w w5 mp v' (gs++ [g]):=by
 have h4:=h2.snoc hf;have hq:∀b,(w.heap.size<=b/\v.ownBlock≠some b)->b<W.heap.size->(w.heap.size<=b/\v.ownBlock≠some b)/\v'.ownBlock≠some b:=(by grind);have h5:=(h4.V hq).O (w':=w5) (λb hb hl=>Vp.block b hl (λe=>hb.1.2 e.sy));refine⟨Vq++ [fb],?_,h5.V (λb hb _=>⟨hb.1.1,hb.2⟩),h3.grown Vp h3.size hbase⟩;rw[rL,aN];omega
def zI (ps:List fI):List GF:=ps.flatMap λp=>p.fields.map (sM p)
def sP:∀ps:List fI,(zI ps).length<=mK ps
 | []=>aE _
 |p::ps=>by
  have:=sP ps;unfold zI at this⊢;rw[bt,aN,bN,mK];omega
def Aj:∀(ps:List fI) (k:Nat),mK (ps.take k)<=mK ps
 | [],k=>by grind
 |p::ps,0=>by simp[mK]
 |p::ps,k+1=>by have:=Aj ps k;rw[cX,mK,mK];omega
def IT {α β:Type}{h:α->β}{l' l:List β}(p:l'.Perm l):∀z:List α,z.map h=l->∃z':List α,z'.Perm z/\z'.map h=l':=by
 induction p with
 |nil=>intro z hz;exact⟨z,List.Perm.refl _,hz⟩
 |cons x _ ih=>
  intro z hz
  cases z with
  |nil=>grind
  |cons a z=>
   simp at hz;have⟨z',h1,h2⟩:=ih z hz.2
   exact⟨a::z',h1.cons a,by grind⟩
 |swap x y l=>
  intro z hz
  match z,hz with
  | [],hz=>grind
  | [_],hz=>grind
  |a::c::z,hz=>
   simp at hz
   exact⟨c::a::z,List.Perm.swap _ _ _,by grind⟩
 |trans _ _ ih1 ih2=>
  intro z hz;have⟨z1,h1,h2⟩:=ih2 z hz;have⟨z2,h3,h4⟩:=ih1 z1 h2;exact⟨z2,h3.J h1,h4⟩
def Ak (w:aw)(mp:an)(b:d7)(e:Ending)(w':aw):Prop:=
 ∃(v:Value) (gs:List GF) (Vq:aB),e= .returned v/\gs.Perm (vm b)/\gs.Pairwise (λx y=>x.f.num<=y.f.num)/\
  eO w' (λx=>w.heap.size<=x) 212 1 v Vq.length (fx Vq)/\gp w' (λx=>w.heap.size<=x) mp gs Vq/\ak w w'
def Ki (w:aw)(mb n:Nat)(mp:an)(b:d7)(pa va:aC)(pc vn vc:Nat)(pcs:ay)(S:ax)(hrow:eO w S 208 4 (.slice pa b.parts.length pc) b.parts.length pcs)(hps:fL w S pcs b.parts)
  (H:gq w mb n mp) (hlen:mK b.parts<=2001) (hgood:∀p∈b.parts,∀f∈p.fields,PT f) (hg:GOK w) (hb:BOK w):
  Calls prog 67 #[.map (some mb),.agg #[.bool b.enum,aa (dV b.name.1),ag b.name.1,aa b.name.2,.slice pa b.parts.length pc,.slice va vn vc]] w (Ak w mp b):=by
 have⟨i0,WJ,WK,WL,V9⟩:=info_parts Tryz.info212;have hpl:b.parts.length<=2001:=aM (xw b.parts) hlen;have C0:=(Va w).alloc (aE _) (am #[.bool b.enum,aa (dV b.name.1),ag b.name.1,aa b.name.2,.slice pa b.parts.length pc,.slice va vn vc] 152);go_in
 go_wp2;go_loopw [5,13] (λv i wr=>∃(k:Nat),k<=b.parts.length/\i=aa k/\xE w wr mp v (zI (b.parts.take k))) (λ_ i _=>b.parts.length-(intOf i).toNat)
 case atStart=>exact⟨0,aP _,rfl,xE.start _ _ _ C0⟩
 case round=>
  clear C0;obtain⟨k,hk,rfl,HI⟩:=hrel;by_cases hlt:k<b.parts.length
  .have⟨p,hp⟩:=gx hlt;have Wh:p∈b.parts:=aL hp;have Vr:b.parts.take (k+1)=b.parts.take k++ [p]:=by rw[bT,hp];rfl
   have Wk:zI (b.parts.take (k+1))=zI (b.parts.take k)++p.fields.map (sM p):=by rw[Vr];simp[zI]
   have VQ:(zI (b.parts.take k)).length+p.fields.length<=2001:=(by have h1:=sP (b.parts.take (k+1));have h2:=Aj b.parts (k+1);grind);have CW:ak w wr:=by obtain⟨_,_,_,h⟩:=HI;exact h
   have Ww:∀j,u5.ownBlock=some j->w.heap.size<=j/\j<wr.heap.size:=by obtain⟨_,h,_,_⟩:=HI;exact h.lt
   obtain⟨g,rfl,_,V0,Vz⟩:=eH hrow.1 Vc;have⟨fa,fn,fc,p0,p1,p2,p3,Wb⟩:=hps.get hp;have Wx:=fh Wb.1;subst Wx;have VE:=Vz wr (CW.block g V0);have q0:=VE _ _ p0;have q1:=VE _ _ p1;have q2:=VE _ _ p2;have q3:=VE _ _ p3;have KP:=dX.new wr #[aa (mU p.oneof),ag (jK p.oneof),aa (nS p.oneof),.slice fa p.fields.length fc] 208;have Wl:=HI.on ((Va wr).alloc (aE _) (am #[aa (mU p.oneof),ag (jK p.oneof),aa (nS p.oneof),.slice fa p.fields.length fc] 208));have VF:u5.ownBlock≠some wr.heap.size:=λe=>by grind
   have Vt:=hgood p Wh;have hpb:w.heap.size<=wr.heap.size:=CW.size;generalize zI (b.parts.take k)=G at Wl Wk VQ;clear Vz VE p0 p1 p2 p3 hp Wh Vr HI Ww hgood;go_wp2_with fail;generalize wr.alloc (am #[aa (mU p.oneof),ag (jK p.oneof),aa (nS p.oneof),.slice fa p.fields.length fc] 208)=w1 at*;generalize wr.heap.size=pb at*;clear q0 q1 q2 q3;go_loopw [5,20] (λv i wr=>∃(j:Nat),j<=p.fields.length/\i=aa j/\xE w wr mp v (G++(p.fields.take j).map (sM p))/\dX wr pb #[aa (mU p.oneof),ag (jK p.oneof),aa (nS p.oneof),.slice fa p.fields.length fc] 208/\v.ownBlock≠some pb) (λ_ i _=>p.fields.length-(intOf i).toNat)
   case atStart=>exact⟨0,aP _,rfl,by grind,KP,VF⟩
   case round=>
    clear Wl KP VF CW;obtain⟨j,hj,rfl,HJ,KP,VF⟩:=hrel;by_cases hlt2:j<p.fields.length
    .have⟨f,hf⟩:=gx hlt2;have Wm:f∈p.fields:=aL hf;have Vr:G++(p.fields.take (j+1)).map (sM p)=(G++(p.fields.take j).map (sM p))++ [sM p f]:=by rw[bT,hf];simp
     obtain⟨gf,rfl,_,Wd,Vu⟩:=eH Wb.1 Vc;have Wy:ak w wr:=by obtain⟨_,_,_,h⟩:=HJ;exact h
     have VB:∀x,u5.ownBlock=some x->w.heap.size<=x/\x<wr.heap.size:=by obtain⟨_,h,_,_⟩:=HJ;exact h.lt
     have Wn:=Vu wr (Wy.block gf Wd);have⟨t0,t1,t2,t3,t4,t5,t6,t7,t8,t9,WN,WO,WP⟩:=xu hf Wn;have VN:=Vt f Wm;have KF:=dX.new wr (FC f) 211;have Wo:=KP.alloc (FO f);have Wp:=HJ.on ((Va wr).alloc (aE _) (FO f));have VR:u5.ownBlock≠some wr.heap.size:=λe=>by have:=(VB _ e).2;omega
     have VS:Hid (∀x,u5.ownBlock=some x->x<wr.heap.size):=λx hx=>(VB x hx).2
     have Wz:(G++(p.fields.take j).map (sM p)).length<=2001:=by rw[aN,bN,bM];omega
     generalize(G++(p.fields.take j).map (sM p))=G2 at Wp Vr Wz;have hzz:pb<wr.heap.size:=KP.lt;clear Vu Wn hf Wm HJ KP VB;go_upto_region 8 with fail
     clear t0 t1 t2 t3 t4 t5 t6 t7 t8 t9 WN WO WP;generalize hw1:wr.alloc (FO f)=W1 at*;have zc:wr.heap.size<W1.heap.size:=KF.lt;clear hw1;generalize wr.heap.size=c9 at*;obtain⟨Vq,Vv,Vs,CA⟩:=Wp;have VD:ak w W1.drew:=CA.drew;have VT:=KF.drew;have VU:=Wo.drew;have Vx:W1.drew.ownsRow w.heap.size 212 1 u5 G2.length (fx Vq):=Vv;have VC:gp W1.drew (λb=>w.heap.size<=b/\u5.ownBlock≠some b) mp G2 Vq:=gp.O (w:=W1) (w':=W1.drew) (λ_ _ _=>rfl) Vs;have a0:=RS.of VT VU;have WA:Hid (U8 109 #[.agg (FC f)] W1.drew (λe w'=>e= .returned (aa (jC f))/\Below W1.drew.heap.size W1.drew w')):=sN _ f VN.num.1 VN.num.2 (hg.O (VD.block _ hg.lt))
     have WB:Hid (∀w2:aw,Below W1.drew.heap.size W1.drew w2->U8 110 #[.map (some mb),.agg (FC f)] w2 (λe w'=>∃tb tv,e= .returned (.agg #[aa tb,tv])/\rI w' (λb=>w2.heap.size<=b) mp f tb tv/\ak w2 w')):=
      λw2 h2=>BE w2 mb n mp f VN.ty (H.O ((eQ VD h2).block _ H.lt)) (hb.O ((eQ VD h2).block _ hb.lt))
     have WC:Hid (∀w3:aw,Below W1.drew.heap.size W1.drew w3->U8 111 #[.agg #[aa (mU p.oneof),ag (jK p.oneof),aa (nS p.oneof),U9 gf p.fields.length fc],.agg (FC f)] w3 (λe w'=>∃v,e= .returned v/\w'.ownsRow w3.heap.size 3 1 v (qb p f).length (gB (qb p f))/\ak w3 w')):=
      λw3 h3=>Kg w3 p f _ fc S (Wb.O (λx _ hl=>(eQ VD h3).block x hl)) Vc VN.num (λo ho=>(Vt o ho).num) (hg.O ((eQ VD h3).block _ hg.lt))
     have WD:Hid (∀(W:aw) (fb:Nat) (tb:Int) (tv rv:Value),dX W fb #[aa (jC f),aa f.form,aa tb,tv,rv] 220->(w.heap.size<=fb/\u5.ownBlock≠some fb)->eO W (λb=>w.heap.size<=b/\u5.ownBlock≠some b) 3 1 rv (qb p f).length (gB (qb p f))->rI W (λb=>w.heap.size<=b/\u5.ownBlock≠some b) mp f tb tv->eZ W (λb=>w.heap.size<=b/\u5.ownBlock≠some b) mp (sM p f) fb):=λW fb tb tv rv h1 h2 h3 h4=>Kh h1 h2 h3 h4
     have WE:Hid (some c9≠u5.ownBlock):=λe=>VR e.sy
     have WF:Hid (some pb≠u5.ownBlock):=λe=>VF e.sy
     clear Vv Vs CA KF Wo
     go_region_held3 (λw'=>w'.cell? (aj c9 0)=some (aa f.form)/\w'.cell? (aj c9 1)=some (aa (mU f.key))/\w'.cell? (aj c9 2)=some (ag (jK f.key))/\w'.cell? (aj c9 3)=some (aa (nS f.key))/\w'.cell? (aj c9 4)=some (aa (dV f.type.1))/\w'.cell? (aj c9 5)=some (ag f.type.1)/\w'.cell? (aj c9 6)=some (aa f.type.2)/\w'.cell? (aj c9 7)=some (aa (dV f.name.1))/\w'.cell? (aj c9 8)=some (ag f.name.1)/\w'.cell? (aj c9 9)=some (aa f.name.2)/\w'.cell? (aj c9 10)=some (aa (dV f.num.1))/\w'.cell? (aj c9 11)=some (ag f.num.1)/\w'.cell? (aj c9 12)=some (aa f.num.2)/\w'.cell? (aj pb 0)=some (aa (mU p.oneof))/\w'.cell? (aj pb 1)=some (ag (jK p.oneof))/\w'.cell? (aj pb 2)=some (aa (nS p.oneof))/\w'.cell? (aj pb 3)=some (U9 gf p.fields.length fc))
      (first|exact a5|exact RS.of ((VO.alloc _).alloc _) ((VP.alloc _).alloc _)|exact RS.of (VO.alloc _) (VP.alloc _)|exact RS.of VO VP|exact RS.of VX VY|exact RS.of VV VW|exact a0)
      (first|(refine step_append_lies _ Vi _ _ _ Vi w.heap.size 212 i0 _ 1 8 underlying106 WJ WK WL V9 rfl Vc u5 G2.length (fx Vq) Vi ((VG.alloc _).alloc _) (aj (w4.heap.size+1) 0) 1 1 [_] Vi Vi (bz (dX.newAt Vd _ _)) Vk Vc Vj Vc (by have:=C4.size;simp;omega) (w4.heap.size+1+1) Vd ?_;intro gg cap w5 VA Vp Wu hlt5;have WG:=((VO.alloc _).alloc _).grown Vp WE.o;have Wq:=((VP.alloc _).alloc _).grown Vp WF.o;have a5:=RS.of WG Wq)|(go_at_call 109;refine WA.o.V ?_;rintro e w2 ⟨rfl,b2⟩;have VV:=VT.G b2 VT.lt;have VW:=VU.G b2 VU.lt)|(go_at_call 110;refine(WB.o w2 b2).V ?_;rintro e w3 ⟨tb,tv,rfl,WQ,b3⟩;have VX:=VV.G b3 VV.lt;have VY:=VW.G b3 VW.lt)|(go_at_call 111;refine(WC.o w3 (eQ b2 b3)).V ?_;rintro e w4 ⟨rv,rfl,Wv,b4⟩;obtain⟨ra,rn,rc,rfl⟩:=d5 Wv;have VO:=VX.G b4 VX.lt;have VP:=VY.G b4 VY.lt;have C4:=eQ (eQ (eQ VD b2) b3) b4;have VG:=eX (eQ (eQ b2 b3) b4) Vx))
     have Z2:=b2.size;have Z3:=b3.size;have Z4:=b4.size;have zc2:c9<W1.drew.heap.size:=zc;have Vw:∀x,W1.drew.heap.size<=x->u5.ownBlock≠some x:=λx hx e=>by have:=VS.o x e;omega
     have Ws:∀x,w3.heap.size<=x->w.heap.size<=x/\u5.ownBlock≠some x:=λx hx=>⟨Vc,Vw x Vc⟩
     have BW:ak w4 ((w4.alloc (am #[aa (jC f),aa f.form,aa tb,tv,.slice ra rn rc] 220)).alloc (am #[ah w4.heap.size] 212)):=(Vb w4 _).alloc Vd _;have Wt:=gp.O (w:=W1.drew) (w':=((w4.U5 #[aa (jC f),aa f.form,aa tb,tv,.slice ra rn rc] 220).U5 #[ah w4.heap.size] 212)) (λx _ hl=>(eQ (eQ (eQ b2 b3) b4) BW).block x hl) VC;have Vy:=((eO.of Wv).V (S':=λb=>w.heap.size<=b/\u5.ownBlock≠some b) (λx hx _=>Ws x hx)).O (w':=((w4.U5 #[aa (jC f),aa f.form,aa tb,tv,.slice ra rn rc] 220).U5 #[ah w4.heap.size] 212)) (λx _ hl=>BW.block x hl);have VH:=(rI.V (Q:=λb=>w.heap.size<=b/\u5.ownBlock≠some b) (λx hx _=>⟨Vc,Vw x Vc⟩) WQ).O (w':=((w4.U5 #[aa (jC f),aa f.form,aa tb,tv,.slice ra rn rc] 220).U5 #[ah w4.heap.size] 212)) (λx _ hl=>(eQ b4 BW).block x hl);have VI:=WD.o _ w4.heap.size tb tv (.slice ra rn rc) ((dX.new w4 _ _).alloc _) ⟨C4.size,Vw _ Vc⟩ Vy VH;have HI6:=xE.snoc (v':= U9 gg (G2.length+1) cap) Wt (eQ C4 BW) (λx hx=>(Vx.lt x hx).1) VI VA Vp (Wu.imp (λh=>h) (λh=>by rw[h];simp[Value.ownBlock]))
     have VZ:(Value.slice (some (aj gg 0)) (G2.length+1) cap).ownBlock≠some pb:=λe=>by
      rcases Wu with h|h;.exact VF (h.J e)
      .have e2:=Option.some.inj e;simp only at e2;omega
     clear a5 Wt Vy VH VI VA Vp BW Vw Ws;go_wp2;go_roundw
     case rel=>exact⟨j+1,Vc,rfl,by grind,Wq,VZ⟩
     case measure=>simp[intOf];omega
    .have hli2:decide ((j:Int)<(p.fields.length:Int))=false:=by grind
     obtain rfl:j=p.fields.length:=Vc;rw[bB]at HJ;go_wp2;go_roundw
     case rel=>exact⟨k+1,Vc,rfl,by rw[Wk];exact HJ⟩
     case measure=>simp[intOf];omega
  .have hli:decide ((k:Int)<(b.parts.length:Int))=false:=by grind
   obtain rfl:k=b.parts.length:=Vc;rw[bB]at HI;go_wp2_with fail;obtain⟨Vq,Vv,Vs,CW⟩:=HI;have⟨z,VJ,V9,We⟩:=Vs.zip;have V0:z.length=(zI b.parts).length:=by rw[<-VJ];simp
   have V7:z.length<=2001:=by have:=sP b.parts;omega
   have V8:=Qx wr w.heap.size u5 (z.map λx=>(x.1.f.num,x.2)) (by rw[bN,V0,bJ,show((λx:Int×Nat=>x.2)∘λx:GF×Nat=>(x.1.f.num,x.2))=(λx=>x.2)from rfl,V9];omega)
    (λx hx=>by obtain⟨y,hy,rfl⟩:=aR.1 hx;exact(We y hy).cell0.1) (λx hx=>by obtain⟨y,hy,rfl⟩:=aR.1 hx;exact(We y hy).cell0.2.2) (by simpa using V7)
   refine V8.V ?_;rintro e w' ⟨rfl,l',VK,VL,VM,Vp⟩;obtain⟨z',Wf,rfl⟩:=IT VK z rfl;go_wp2;go_ret;refine⟨u5,z'.map (·.1),z'.map (·.2),rfl,?_,?_,?_,?_,?_⟩;.rw[show vm b=zI b.parts from rfl,<-VJ];exact Wf.map _
   .rw[cw]at VL⊢;omega
   .have WH:(z'.map (·.2)).length=(z.map λx:GF×Nat=>(x.1.f.num,x.2)).length:=by simp[Wf.length_eq]
    rw[WH];have:=eO.of VM;rw[bJ]at this;exact this
   .have h5:∀x∈z',eZ w' (λx=>w.heap.size<=x) mp x.1 x.2:=λx hx=>by
     have h6:=We x (Wf.mem_iff.1 hx);exact(h6.O (w':=w') (λc hc hl=>Vp.block c hl (λe=>hc.2 e.sy))).V (λc hc _=>hc.1)
    exact gp.of_zip h5
   .exact CW.grown Vp CW.size (λx hx=>(Vv.lt x hx).1)
end
section
open Vo
def Ot (w:aw)(v:Value)(ns:ar)(t:Int)(hrow:w.ownsRow 0 3 1 v ns.length (gB ns))(hl:ns.length<=1073741824):
  Calls prog 322 #[v,aa t] w λe w'=>(∃r:Int,e= .returned (aa r)/\decide (0<=r)=decide (t∈ns))/\w'=w:=by
 obtain⟨a,c,rfl⟩:=iz hrow
 have HG:Hid (∀(i:Nat) (x:Int),ns[i]?=some x->∃g,a=some (aj g 0)/\w.cell? (aj g i)=some (aa x)):=λi x hx=>by
  have hi:=gl hx;obtain⟨g,rfl,_,hgl,Vq⟩:=eH hrow Vc;exact⟨g,rfl,Vq w rfl i _ (by unfold gB;rw[aT,hx];rfl)⟩
 clear hrow;go_in
 go_wp2;go_loopw [8] (λiv wr=>∃(i:Nat),i<=ns.length/\iv=aa i/\Hid (∀(k:Nat) (x:Int),ns[k]?=some x->k<i->x≠t)/\wr=w) (λiv _=>((ns.length:Int)-(intOf iv)).toNat)
 case atStart=>exact⟨0,aP _,rfl,(λk x _ h=>Vc),rfl⟩
 case round=>
  obtain⟨i,hil,rfl,H1,rfl⟩:=hrel;by_cases hlt:i<ns.length
  .have⟨x,hx⟩:=gx hlt;obtain⟨g,rfl,hgc⟩:=HG.o i x hx;have HX:Hid (ns[i]?=some x):=hx;have hw1:IntKind.i64.wrap ((i:Int)+1)=(i:Int)+1:=by rw[IntKind.wrap_i64];omega
   by_cases hxt:t=x;.subst hxt;clear hx HG;go_wp2;go_ret;refine⟨⟨i,rfl,?_⟩,rfl⟩;have:t∈ns:=aL HX.o;simp[this]
   .have hd:(t==x)=false:=by simpa using hxt
    have Vr:Hid (t≠x):=hxt;clear hx HG hxt;go_wp2;go_roundw
    case rel=>exact⟨i+1,Vc,rfl,(λk y hy hk=>by
     by_cases e:k=i;.subst e;rw[HX.o]at hy;obtain rfl:=Option.some.inj hy;exact λe=>Vr.o e.sy
     .exact H1.o k y hy Vc),trivial⟩
    case measure=>simp[intOf];omega
  .obtain rfl:i=ns.length:=Vc;clear HG;go_wp2;go_ret;refine⟨⟨-1,rfl,?_⟩,rfl⟩
   have:t∉ns:=λh=>by
    have⟨k,hk⟩:=bY.1 h;have Vs:=gl hk;exact H1.o k t hk Vs rfl
   simp[this]
def xX (w:aw)(v:Value)(ns:ar)(t:Int)(hrow:w.ownsRow 0 3 1 v ns.length (gB ns))(hl:ns.length<=1073741824):
  Calls prog 238 #[v,aa t] w λe w'=>e= .returned (.bool (decide (t∈ns)))/\w'=w:=by
 have hI:=Ot w v ns t hrow hl;generalize decide (t∈ns)=q at hI⊢;go_in
 go_wp2_with fail;refine hI.V ?_;rintro e w' ⟨⟨r,rfl,rfl⟩,rfl⟩;go_wp2;go_ret;exact⟨rfl,rfl⟩
def xY (nb:Nat):Value:= .func (.func 264) #[] #[ah nb]
def Lb (w:aw)(nb:Nat)(nv:Value)(ns:ar)(x:gF)(hb:dX w nb #[nv] 35)(hrow:w.ownsRow 0 3 1 nv ns.length (gB ns))(hl:ns.length<=1073741824):
  Calls prog 264 #[.agg #[aa x.1,x.2.1,x.2.2.1,x.2.2.2],ah nb] w λe w'=>e= .returned (.bool (decide (x.1∈ns)))/\ak w w':=by
 have Vt:=hb.alloc (am #[aa x.1,x.2.1,x.2.2.1,x.2.2.2] 249);have Vp:=hrow.alloc (am #[aa x.1,x.2.1,x.2.2.1,x.2.2.2] 249);have hC:=xX _ nv ns x.1 Vp hl;have⟨k1,k2⟩:=Vt.I;obtain⟨a,n,c,rfl⟩:=d5 hrow;have B0:ak w (w.U5 #[aa x.1,x.2.1,x.2.2.1,x.2.2.2] 249):=(Va w).alloc (aE _) _;generalize decide (x.1∈ns)=q at hC⊢;go_in
 go_wp2_with fail;refine hC.V ?_;rintro e w' ⟨rfl,rfl⟩;go_wp2;go_ret;exact⟨rfl,B0⟩
end
end Go.Proofs.YtfebdimolnobaaaGreatDoor
