import Derived.Test.YtfebdimolnobaaaGreatDoorBuG
set_option maxRecDepth 100000
set_option maxHeartbeats 8000000
set_option linter.all false
namespace Go.Proofs.YtfebdimolnobaaaGreatDoor
open Go.RowKit Go.Proofs.Tryz
section
def _root_.List.Perm.J:=@List.Perm.trans
open Go.Maps
open VH
def Tryz.info212:(prog.info? 212).map (λi=>(i.zero,i.size,i.bytes))=some (some (.pointer none),1,8):=VA
structure P9 (f:eW):Prop where
 num:BG f
 ty:Fo f
def xH (w wr:aw)(mp:an)(v:Value)(gs:List GF):Prop:=
 ∃VJ:aB,wr.ownsRow w.heap.size 212 1 v gs.length (fA VJ)/\gq wr (λb=>w.heap.size<=b/\v.ownBlock≠some b) mp gs VJ/\ak w wr
def xH.on {w wr w2:aw}{mp:an}{v:Value}{gs:List GF}(h:xH w wr mp v gs)(a:ak wr w2):xH w w2 mp v gs:=by
 obtain⟨c,d,e,f⟩:=h;exact⟨c,eZ a d,e.O (λb _ g=>a.block b g),eT f a⟩
def xH.start (w wr:aw)(mp:an)(h:ak w wr):xH w wr mp (ai) []:=⟨[],br _ _ _ _,rfl,h⟩
def rM (l:aB)(b:Nat):fA (l++ [b])=fA l++ [ii (some b)]:=by simp[fA]
def xH.snoc {w W w5:aw}{mp:an}{v v':Value}{gs:List GF}{g:GF}{VJ:aB}{fb:Nat}(i:gq W (λb=>w.heap.size<=b/\v.ownBlock≠some b) mp gs VJ)(f:ak w W)(a:∀k,v.ownBlock=some k->w.heap.size<=k)
  (m:fi W (λb=>w.heap.size<=b/\v.ownBlock≠some b) mp g fb) (p:w5.ownsRow w.heap.size 212 1 v' (gs.length+1) (fA VJ++ [ii (some fb)])) (d:W.grownBy w5 v.ownBlock) (h:v.ownBlock=v'.ownBlock\/v'.ownBlock=some W.heap.size):xH w w5 mp v' (gs++ [g]):=by
 have j:=i.snoc m;have o:∀b,(w.heap.size<=b/\v.ownBlock≠some b)->b<W.heap.size->(w.heap.size<=b/\v.ownBlock≠some b)/\v'.ownBlock≠some b:=(by grind);have l:=(j.V o).O (w':=w5) (λb c n=>d.block b n (λe=>c.1.2 e.sy));refine⟨VJ++ [fb],?_,l.V (λb c _=>⟨c.1.1,c.2⟩),f.grown d f.size a⟩;rw[rM,aN];omega
def zK (ps:List fK):List GF:=ps.flatMap λp=>p.fields.map (sP p)
def sS:∀ps:List fK,(zK ps).length<=mN ps
 | []=>aE _
 |p::ps=>by
  have:=sS ps;unfold zK at this⊢;rw[bt,aN,bO,mN];omega
def Al:∀(ps:List fK) (k:Nat),mN (ps.take k)<=mN ps
 | [],k=>by grind
 |p::ps,0=>by simp[mN]
 |p::ps,k+1=>by have:=Al ps k;rw[cZ,mN,mN];omega
def IY {α β:Type}{h:α->β}{l' l:List β}(p:l'.Perm l):∀z:List α,z.map h=l->∃z':List α,z'.Perm z/\z'.map h=l':=by
 induction p with
 |nil=>intro z b;exact⟨z,List.Perm.refl _,b⟩
 |cons x _ ih=>
  intro z b
  cases z with
  |nil=>grind
  |cons a z=>
   simp at b;have⟨z',d,e⟩:=ih z b.2
   exact⟨a::z',d.cons a,by grind⟩
 |swap x y l=>
  intro z b
  match z,b with
  | [],b=>grind
  | [_],b=>grind
  |a::c::z,b=>
   simp at b
   exact⟨c::a::z,List.Perm.swap _ _ _,by grind⟩
 |trans _ _ ih1 ih2=>
  intro z b;have⟨i,d,e⟩:=ih2 z b;have⟨j,f,g⟩:=ih1 i e;exact⟨j,f.J d,g⟩
def Am (w:aw)(mp:an)(b:d9)(e:Ending)(w':aw):Prop:=
 ∃(v:Value) (gs:List GF) (VJ:aB),e= .returned v/\gs.Perm (vx b)/\gs.Pairwise (λx y=>x.f.num<=y.f.num)/\
  eP w' (λx=>w.heap.size<=x) 212 1 v VJ.length (fA VJ)/\gq w' (λx=>w.heap.size<=x) mp gs VJ/\ak w w'
def Km (w:aw)(mb n:Nat)(mp:an)(b:d9)(pa va:aC)(pc vn vc:Nat)(pcs:ay)(S:ax)(P:eP w S 208 4 (.slice pa b.parts.length pc) b.parts.length pcs)(hps:fM w S pcs b.parts)
  (H:gr w mb n mp) (hlen:mN b.parts<=2001) (q:∀p∈b.parts,∀f∈p.fields,P9 f) (hg:GOK w) (hb:BOK w):
  Calls prog 67 #[.map (some mb),.agg #[.bool b.enum,aa (dX b.name.1),ag b.name.1,aa b.name.2,.slice pa b.parts.length pc,.slice va vn vc]] w (Am w mp b):=by
 have⟨i0,W9,Xa,Xb,Wz⟩:=info_parts Tryz.info212;have hpl:b.parts.length<=2001:=aM (xA b.parts) hlen;have C0:=(Vs w).alloc (aE _) (am #[.bool b.enum,aa (dX b.name.1),ag b.name.1,aa b.name.2,.slice pa b.parts.length pc,.slice va vn vc] 152);go_in
 go_wp2;go_loopw [5,13] (λv i wr=>∃(k:Nat),k<=b.parts.length/\i=aa k/\xH w wr mp v (zK (b.parts.take k))) (λ_ i _=>b.parts.length-(intOf i).toNat)
 case atStart=>exact⟨0,aP _,rfl,xH.start _ _ _ C0⟩
 case round=>
  clear C0;obtain⟨k,hk,rfl,D⟩:=hrel;by_cases hlt:k<b.parts.length
  .have⟨p,hp⟩:=gx hlt;have WE:p∈b.parts:=aL hp;have X:b.parts.take (k+1)=b.parts.take k++ [p]:=by rw[bT,hp];rfl
   have WF:zK (b.parts.take (k+1))=zK (b.parts.take k)++p.fields.map (sP p):=by rw[X];simp[zK]
   have Wk:(zK (b.parts.take k)).length+p.fields.length<=2001:=(by have h1:=sS (b.parts.take (k+1));have O:=Al b.parts (k+1);grind);have C:ak w wr:=by obtain⟨_,_,_,h⟩:=D;exact h
   have WS:∀j,u5.ownBlock=some j->w.heap.size<=j/\j<wr.heap.size:=by obtain⟨_,h,_,_⟩:=D;exact h.lt
   obtain⟨g,rfl,_,Ww,VS⟩:=eJ P.1 Vv;have⟨fa,fn,B,p0,p1,p2,p3,WA⟩:=hps.get hp;have WT:=fj WA.1;subst WT;have K:=VS wr (C.block g Ww);have q0:=K _ _ p0;have q1:=K _ _ p1;have q2:=K _ _ p2;have q3:=K _ _ p3;have F:=dZ.new wr #[aa (mX p.oneof),ag (jM p.oneof),aa (nU p.oneof),.slice fa p.fields.length B] 208;have WG:=D.on ((Vs wr).alloc (aE _) (am #[aa (mX p.oneof),ag (jM p.oneof),aa (nU p.oneof),.slice fa p.fields.length B] 208));have L:u5.ownBlock≠some wr.heap.size:=λe=>by grind
   have VM:=q p WE;have hpb:w.heap.size<=wr.heap.size:=C.size;generalize zK (b.parts.take k)=G at WG WF Wk;clear VS K p0 p1 p2 p3 hp WE X D WS q;go_wp2_with fail;generalize wr.alloc (am #[aa (mX p.oneof),ag (jM p.oneof),aa (nU p.oneof),.slice fa p.fields.length B] 208)=w1 at*;generalize wr.heap.size=pb at*;clear q0 q1 q2 q3;go_loopw [5,20] (λv i wr=>∃(j:Nat),j<=p.fields.length/\i=aa j/\xH w wr mp v (G++(p.fields.take j).map (sP p))/\dZ wr pb #[aa (mX p.oneof),ag (jM p.oneof),aa (nU p.oneof),.slice fa p.fields.length B] 208/\v.ownBlock≠some pb) (λ_ i _=>p.fields.length-(intOf i).toNat)
   case atStart=>exact⟨0,aP _,rfl,by grind,F,L⟩
   case round=>
    clear WG F L C;obtain⟨j,hj,rfl,E,F,L⟩:=hrel;by_cases hlt2:j<p.fields.length
    .have⟨f,hf⟩:=gx hlt2;have WH:f∈p.fields:=aL hf;have X:G++(p.fields.take (j+1)).map (sP p)=(G++(p.fields.take j).map (sP p))++ [sP p f]:=by rw[bT,hf];simp
     obtain⟨gf,rfl,_,WB,VN⟩:=eJ WA.1 Vv;have WU:ak w wr:=by obtain⟨_,_,_,h⟩:=E;exact h
     have VU:∀x,u5.ownBlock=some x->w.heap.size<=x/\x<wr.heap.size:=by obtain⟨_,h,_,_⟩:=E;exact h.lt
     have WJ:=VN wr (WU.block gf WB);have⟨t0,t1,t2,t3,t4,t5,t6,t7,t8,t9,Xc,Xd,Xe⟩:=xz hf WJ;have We:=VM f WH;have KF:=dZ.new wr (FC f) 211;have WK:=F.alloc (FO f);have WL:=E.on ((Vs wr).alloc (aE _) (FO f));have Wl:u5.ownBlock≠some wr.heap.size:=λe=>by have:=(VU _ e).2;omega
     have Wm:Hid (∀x,u5.ownBlock=some x->x<wr.heap.size):=λx a=>(VU x a).2
     have WV:(G++(p.fields.take j).map (sP p)).length<=2001:=by rw[aN,bO,bN];omega
     generalize(G++(p.fields.take j).map (sP p))=G2 at WL X WV;have hzz:pb<wr.heap.size:=F.lt;clear VN WJ hf WH E F VU;go_upto_region 8 with fail
     clear t0 t1 t2 t3 t4 t5 t6 t7 t8 t9 Xc Xd Xe;generalize hw1:wr.alloc (FO f)=W1 at*;have zc:wr.heap.size<W1.heap.size:=KF.lt;clear hw1;generalize wr.heap.size=c9 at*;obtain⟨V,Z,Y,CA⟩:=WL;have I:ak w W1.drew:=CA.drew;have Wn:=KF.drew;have Wo:=WK.drew;have VQ:W1.drew.ownsRow w.heap.size 212 1 u5 G2.length (fA V):=Z;have VV:gq W1.drew (λb=>w.heap.size<=b/\u5.ownBlock≠some b) mp G2 V:=gq.O (w:=W1) (w':=W1.drew) (λ_ _ _=>rfl) Y;have a0:=RS.of Wn Wo;have WW:Hid (Vq 109 #[.agg (FC f)] W1.drew (λe w'=>e= .returned (aa (jE f))/\Below W1.drew.heap.size W1.drew w')):=sQ _ f We.num.1 We.num.2 (hg.O (I.block _ hg.lt))
     have WX:Hid (∀w2:aw,Below W1.drew.heap.size W1.drew w2->Vq 110 #[.map (some mb),.agg (FC f)] w2 (λe w'=>∃l m,e= .returned (.agg #[aa l,m])/\rJ w' (λb=>w2.heap.size<=b) mp f l m/\ak w2 w')):=
      λw2 O=>BI w2 mb n mp f We.ty (H.O ((eT I O).block _ H.lt)) (hb.O ((eT I O).block _ hb.lt))
     have WY:Hid (∀w3:aw,Below W1.drew.heap.size W1.drew w3->Vq 111 #[.agg #[aa (mX p.oneof),ag (jM p.oneof),aa (nU p.oneof),Vr gf p.fields.length B],.agg (FC f)] w3 (λe w'=>∃v,e= .returned v/\w'.ownsRow w3.heap.size 3 1 v (qf p f).length (gE (qf p f))/\ak w3 w')):=
      λw3 h3=>Kk w3 p f _ B S (WA.O (λx _ r=>(eT I h3).block x r)) Vv We.num (λo ho=>(VM o ho).num) (hg.O ((eT I h3).block _ hg.lt))
     have WZ:Hid (∀(W:aw) (N:Nat) (l:Int) (m rv:Value),dZ W N #[aa (jE f),aa f.form,aa l,m,rv] 220->(w.heap.size<=N/\u5.ownBlock≠some N)->eP W (λb=>w.heap.size<=b/\u5.ownBlock≠some b) 3 1 rv (qf p f).length (gE (qf p f))->rJ W (λb=>w.heap.size<=b/\u5.ownBlock≠some b) mp f l m->fi W (λb=>w.heap.size<=b/\u5.ownBlock≠some b) mp (sP p f) N):=λW N l m rv h1 O h3 h4=>Kl h1 O h3 h4
     have W5:Hid (some c9≠u5.ownBlock):=λe=>Wl e.sy
     have W6:Hid (some pb≠u5.ownBlock):=λe=>L e.sy
     clear Z Y CA KF WK
     go_region_held3 (λw'=>w'.cell? (aj c9 0)=some (aa f.form)/\w'.cell? (aj c9 1)=some (aa (mX f.key))/\w'.cell? (aj c9 2)=some (ag (jM f.key))/\w'.cell? (aj c9 3)=some (aa (nU f.key))/\w'.cell? (aj c9 4)=some (aa (dX f.type.1))/\w'.cell? (aj c9 5)=some (ag f.type.1)/\w'.cell? (aj c9 6)=some (aa f.type.2)/\w'.cell? (aj c9 7)=some (aa (dX f.name.1))/\w'.cell? (aj c9 8)=some (ag f.name.1)/\w'.cell? (aj c9 9)=some (aa f.name.2)/\w'.cell? (aj c9 10)=some (aa (dX f.num.1))/\w'.cell? (aj c9 11)=some (ag f.num.1)/\w'.cell? (aj c9 12)=some (aa f.num.2)/\w'.cell? (aj pb 0)=some (aa (mX p.oneof))/\w'.cell? (aj pb 1)=some (ag (jM p.oneof))/\w'.cell? (aj pb 2)=some (aa (nU p.oneof))/\w'.cell? (aj pb 3)=some (Vr gf p.fields.length B))
      (first|exact a5|exact RS.of ((Wf.alloc _).alloc _) ((Wh.alloc _).alloc _)|exact RS.of (Wf.alloc _) (Wh.alloc _)|exact RS.of Wf Wh|exact RS.of Ws Wu|exact RS.of Wp Wq|exact a0)
      (first|(refine step_append_lies _ VB _ _ _ VB w.heap.size 212 i0 _ 1 8 underlying106 W9 Xa Xb Wz rfl Vv u5 G2.length (fA V) VB ((VZ.alloc _).alloc _) (aj (d.heap.size+1) 0) 1 1 [_] VB VB (bz (dZ.newAt Vw _ _)) VD Vv VC Vv (by have:=C4.size;simp;omega) (d.heap.size+1+1) Vw ?_;intro gg M w5 VT t WQ hlt5;have W7:=((Wf.alloc _).alloc _).grown t W5.o;have WN:=((Wh.alloc _).alloc _).grown t W6.o;have a5:=RS.of W7 WN)|(go_at_call 109;refine WW.o.V ?_;rintro e w2 ⟨rfl,s⟩;have Wp:=Wn.G s Wn.lt;have Wq:=Wo.G s Wo.lt)|(go_at_call 110;refine(WX.o w2 s).V ?_;rintro e w3 ⟨l,m,rfl,Xf,u⟩;have Ws:=Wp.G u Wp.lt;have Wu:=Wq.G u Wq.lt)|(go_at_call 111;refine(WY.o w3 (eT s u)).V ?_;rintro e d ⟨rv,rfl,WR,A⟩;obtain⟨R,U,T,rfl⟩:=d7 WR;have Wf:=Ws.G A Ws.lt;have Wh:=Wu.G A Wu.lt;have C4:=eT (eT (eT I s) u) A;have VZ:=eZ (eT (eT s u) A) VQ))
     have Z2:=s.size;have Z3:=u.size;have Z4:=A.size;have zc2:c9<W1.drew.heap.size:=zc;have VP:∀x,W1.drew.heap.size<=x->u5.ownBlock≠some x:=λx a e=>by have:=Wm.o x e;omega
     have WO:∀x,w3.heap.size<=x->w.heap.size<=x/\u5.ownBlock≠some x:=λx a=>⟨Vv,VP x Vv⟩
     have J:ak d ((d.alloc (am #[aa (jE f),aa f.form,aa l,m,.slice R U T] 220)).alloc (am #[ah d.heap.size] 212)):=(Vt d _).alloc Vw _;have WP:=gq.O (w:=W1.drew) (w':=((d.Vn #[aa (jE f),aa f.form,aa l,m,.slice R U T] 220).Vn #[ah d.heap.size] 212)) (λx _ r=>(eT (eT (eT s u) A) J).block x r) VV;have VR:=((eP.of WR).V (S':=λb=>w.heap.size<=b/\u5.ownBlock≠some b) (λx a _=>WO x a)).O (w':=((d.Vn #[aa (jE f),aa f.form,aa l,m,.slice R U T] 220).Vn #[ah d.heap.size] 212)) (λx _ r=>J.block x r);have V0:=(rJ.V (Q:=λb=>w.heap.size<=b/\u5.ownBlock≠some b) (λx a _=>⟨Vv,VP x Vv⟩) Xf).O (w':=((d.Vn #[aa (jE f),aa f.form,aa l,m,.slice R U T] 220).Vn #[ah d.heap.size] 212)) (λx _ r=>(eT A J).block x r);have V7:=WZ.o _ d.heap.size l m (.slice R U T) ((dZ.new d _ _).alloc _) ⟨C4.size,VP _ Vv⟩ VR V0;have HI6:=xH.snoc (v':= Vr gg (G2.length+1) M) WP (eT C4 J) (λx a=>(VQ.lt x a).1) V7 VT t (WQ.imp (λh=>h) (λh=>by rw[h];simp[Value.ownBlock]))
     have Wv:(Value.slice (some (aj gg 0)) (G2.length+1) M).ownBlock≠some pb:=λe=>by
      rcases WQ with h|h;.exact L (h.J e)
      .have e2:=Option.some.inj e;simp only at e2;omega
     clear a5 WP VR V0 V7 VT t J VP WO;go_wp2;go_roundw
     case rel=>exact⟨j+1,Vv,rfl,by grind,WN,Wv⟩
     case measure=>simp[intOf];omega
    .have hli2:decide ((j:Int)<(p.fields.length:Int))=false:=by grind
     obtain rfl:j=p.fields.length:=Vv;rw[bB]at E;go_wp2;go_roundw
     case rel=>exact⟨k+1,Vv,rfl,by rw[WF];exact E⟩
     case measure=>simp[intOf];omega
  .have hli:decide ((k:Int)<(b.parts.length:Int))=false:=by grind
   obtain rfl:k=b.parts.length:=Vv;rw[bB]at D;go_wp2_with fail;obtain⟨V,Z,Y,C⟩:=D;have⟨z,V8,Wz,WC⟩:=Y.zip;have Ww:z.length=(zK b.parts).length:=by rw[<-V8];simp
   have Wx:z.length<=2001:=by have:=sS b.parts;omega
   have Wy:=QO wr w.heap.size u5 (z.map λx=>(x.1.f.num,x.2)) (by rw[bO,Ww,bM,show((λx:Int×Nat=>x.2)∘λx:GF×Nat=>(x.1.f.num,x.2))=(λx=>x.2)from rfl,Wz];omega)
    (λx a=>by obtain⟨y,hy,rfl⟩:=aS.1 a;exact(WC y hy).cell0.1) (λx a=>by obtain⟨y,hy,rfl⟩:=aS.1 a;exact(WC y hy).cell0.2.2) (by simpa using Wx)
   refine Wy.V ?_;rintro e w' ⟨rfl,l',V9,Wb,Wd,t⟩;obtain⟨z',WD,rfl⟩:=IY V9 z rfl;go_wp2;go_ret;refine⟨u5,z'.map (·.1),z'.map (·.2),rfl,?_,?_,?_,?_,?_⟩;.rw[show vx b=zK b.parts from rfl,<-V8];exact WD.map _
   .rw[cw]at Wb⊢;omega
   .have W8:(z'.map (·.2)).length=(z.map λx:GF×Nat=>(x.1.f.num,x.2)).length:=by simp[WD.length_eq]
    rw[W8];have:=eP.of Wd;rw[bM]at this;exact this
   .have h5:∀x∈z',fi w' (λx=>w.heap.size<=x) mp x.1 x.2:=λx a=>by
     have h6:=WC x (WD.mem_iff.1 a);exact(h6.O (w':=w') (λc hc r=>t.block c r (λe=>hc.2 e.sy))).V (λc hc _=>hc.1)
    exact gq.of_zip h5
   .exact C.grown t C.size (λx a=>(Z.lt x a).1)
end
section
variable {types:aA} {nums:aB} {f:eW} {bs:List d9}
structure Kn (types:aA)(f:eW):Prop where
 key:f.form=4->mX f.key=3
 lo:1<=jd f.num.1
 hi:jd f.num.1<=536870911
 ty:dX f.type.1=1->fk types f.type.1=true
 kg:f.form=4->im (mX f.key) (jM f.key)=true
theorem sU {names:aA}{n:aA}{m:aB}(h:nV types names nums f= .ok (n,m)):Kn types f/\Bu nums (jd f.num.1)=false/\m=nums++ [jd f.num.1]/\n=names++ [f.name.1]/\fk names f.name.1=false:=by
 unfold nV vw kJ at h;split at h;.grind
 .rename_i b;split at h;.grind
  .rename_i d;split at h;.grind
   .rename_i c;split at h;.grind
    .split at h;.grind
     .rename_i a;simp at h;unfold pu at a;unfold pt at d;unfold iT at c;simp at a d b c;refine⟨⟨λe=> ?_,Vv,Vv,λg=> ?_,b⟩,a.2.2,h.2.sy,h.1.sy,c.2⟩;.have:=b e;unfold im at this;simp_all
      simp_all
theorem om:∀(fs:List eW) (names:aA) (nums:aB) (n:aA) (m:aB),gB types names nums fs= .ok (n,m)->nums.Nodup->
  (∀f∈fs,Kn types f)/\m=nums++fs.map (λf=>jd f.num.1)/\m.Nodup
 | [],names,nums,n,m,h,hd=>by
  simp[gB]at h
  simp_all
 |f::fs,names,nums,n,m,h,hd=>by
  unfold gB at h;split at h;.cases h
  .rename_i d c a;have e:=sU a;have b:=xB a hd;have g:=om fs d c n m h b.2.2;grind
theorem sV:∀(ps:List fK) (names:aA) (nums:aB) (n:aA) (m:aB),gS types names nums ps= .ok (n,m)->nums.Nodup->
  (∀p∈ps,∀f∈p.fields,Kn types f)/\m=nums++ps.flatMap (λp=>p.fields.map (λf=>jd f.num.1))/\m.Nodup
 | [],names,nums,n,m,h,hd=>by
  simp[gS]at h
  simp_all
 |p::ps,names,nums,n,m,h,hd=>by
  unfold gS at h;split at h;.cases h
  .rename_i d b a
   have c:(∀f∈p.fields,Kn types f)/\b=nums++p.fields.map (λf=>jd f.num.1)/\b.Nodup:=by
    unfold nh at a;split at a
    .split at a;.cases a
     .exact om _ _ _ _ _ a hd
    .exact om _ _ _ _ _ a hd
   have e:=sV ps d b n m h c.2.2;grind
structure Oq (types:aA)(b:d9):Prop where
 flds:∀p∈b.parts,∀f∈p.fields,Kn types f
 nums:(b.parts.flatMap (λp=>p.fields.map (λf=>jd f.num.1))).Nodup
theorem lZ (l r:aA)(s:au):fk (l++r) s=(fk l s||fk r s):=by simp[fk]
theorem rN:∀(bs:List d9) (names:aA) (m:Nat),fR types names m bs= .ok ()->
  (∀b∈bs,b.enum=false->Oq types b)/\(fL bs).Pairwise (λx y=>x.toList≠y.toList)/\(∀b∈bs,fk names b.name.1=false)
 | [],names,m,_=>⟨Vw,List.Pairwise.nil,Vw⟩
 |b::bs,names,m,h=>by
  have key:∀f,fR types (names++ [b.name.1]) f bs= .ok ()->iT names b.name.1=false->(b.enum=false->Oq types b)->
    (∀x∈b::bs,x.enum=false->Oq types x)/\(fL (b::bs)).Pairwise (λx y=>x.toList≠y.toList)/\(∀x∈b::bs,fk names x.name.1=false):=by
   intro f i d o;have g:=rN bs _ f i;refine⟨?_,?_,?_⟩;.simp_all
   .refine List.Pairwise.cons ?_ g.2.1;intro y l;obtain⟨c,k,rfl⟩:=aS.1 l;have:=g.2.2 c k;rw[lZ]at this;simp[fk]at this;simp_all
   .intro x e;rcases aR.1 e with rfl|e;.unfold iT at d;simp_all
    .have:=g.2.2 x e;rw[lZ]at this;simp_all
  unfold fR at h;split at h;.cases h
  .rename_i d;simp only[Bool.not_eq_true]at d;split at h;.grind
   .split at h;.cases h
    .split at h;.cases h
     .rename_i n j;obtain⟨a,c⟩:=n;have g:=sV b.parts [] [] a c j List.nodup_nil;exact key (m+1) h d (λ_=>⟨g.1,by grind⟩)
structure DH (bs:List d9):Prop where
 ok:∀b∈bs,pw b
 few:bs.length<=2001
 shape:∀b∈bs,BE b
 chk:∀b∈bs,b.enum=false->Oq (fL bs) b
 names:(fL bs).Pairwise (λx y=>x.toList≠y.toList)
theorem r9 {t:au}(h:iU t= .ok bs):DH bs:=by
 unfold iU at h;split at h;.cases h
 .split at h;.cases h
  .rename_i a;split at h;.cases h
   .rename_i c;cases h;have b:=qd t Vv;have g:=rN _ _ _ c;exact⟨(xC b a).1,(xC b a).2,Dv b a,g.1,g.2.1⟩
theorem DH.field (h:DH bs){b:d9}(a:b∈bs)(j:b.enum=false){p:fK}(e:p∈b.parts)(d:f∈p.fields):P9 f:=by
 have c:=(h.chk b a j).flds p e f d;have s:=(h.shape b a p e).1 f d;refine⟨⟨(h.ok b a).fnum p e f d,c.hi⟩,⟨λg=> ?_,s.size⟩⟩;have i:=c.key g;have⟨x,o⟩:=co.1 (s.key.1 g);rw[o]at i⊢;have k:dX x.1=3:=i;refine⟨rfl,?_⟩;show x.1.size<=2000;have n:x.1.toList∈m9:=by have:=nj k;simpa [jK]using this
 have m:∀l∈m9,l.length<=2000:=Vy;have:=m _ n;rw[ByteArray.toList_eq]at this;simp_all
end
section
open Go.Maps Go.ChangeMaps Go.WideMaps Go.WideElems
open VH
def Tryz.info105:(prog.info? 105).map (λi=>(i.zero,i.size,i.bytes))=some (some (.pointer none),1,8):=VA
def mR (z:List (au×Nat)):an:=z.foldl (λmp x=>jF mp x.1 x.2) (λ_=>none)
def Ko (z:List (au×Nat))(s:au)(b:Nat):mR (z++ [(s,b)])=jF (mR z) s b:=by simp[mR]
structure IZ (w0 wr:aw)(kb:Nat)(v:Value)(z:List (au×Nat)):Prop where
 row:wr.ownsRow w0.heap.size 105 1 v z.length (fA (z.map (·.2)))
 map:gr wr kb z.length (mR z)
 msg:∀x∈z,dZ wr x.2 #[ag x.1,ai] 108/\w0.heap.size<=x.2/\v.ownBlock≠some x.2
 nd:(z.map (·.2)).Nodup
 kept:ee [kb] w0 wr
def gr.put {w w':aw}{kb n:Nat}{mp:an}{s:au}{b:Nat}{D:DataW Unit}(h1:w.ownsMap prog 9 gO kb n D)(a:∀s:au,D.atKey (rG s) (oM none)=oM (mp s))
  (h:w'.ownsMap prog 9 gO kb (n+1) (D.put (rG s) (oM (some b)))):gr w' kb (n+1) (jF mp s b):=⟨_,h,Ol (World.ownsMap.isMap h1) a s b⟩
def IZ.snoc {w0 wr w2 w5:aw}{kb:Nat}{v v':Value}{z:List (au×Nat)}{s:au}(h:IZ w0 wr kb v z)(E:kb<w0.heap.size)
  (f:(wr.alloc (.cells #[ag s,ai] 108)).grownBy w2 (some kb)) (hm:gr w2 kb (z.length+1) (jF (mR z) s wr.heap.size)) {o:Obj}
  (d:(w2.alloc o).grownBy w5 v.ownBlock) (n:w5.ownsRow w0.heap.size 105 1 v' (z.length+1) (fA (z.map (·.2))++ [ii (some wr.heap.size)])) (m:v'.ownBlock=v.ownBlock\/v'.ownBlock=some (w2.alloc o).heap.size):
  IZ w0 w5 kb v' (z++ [(s,wr.heap.size)]):=by
 have p:=h.row.lt;have q:=h.kept.size;have F:wr.heap.size+1<=w2.heap.size:=by have:=f.size;simpa using this
 have y:some kb≠v.ownBlock:=λe=>by have:=(p _ e.sy).1;omega
 have t:∀{b:Nat} {cs:aq} {T:TypeId},dZ (wr.alloc (.cells #[ag s,ai] 108)) b cs T->b≠kb->v.ownBlock≠some b->dZ w5 b cs T:=λB j i=>
  ((B.grown f (λe=>j (Option.some.inj e))).alloc o).grown d (λe=>i e.sy)
 have r:∀x,x<w2.heap.size+1->v.ownBlock≠some x->v'.ownBlock≠some x:=λx g j e=>by
  rcases m with i|i;.exact j (i▸e)
  .rw[i]at e;have:=Option.some.inj e;simp at this;omega
 refine⟨?_,?_,?_,?_,?_⟩;.rw[bI,aN];simp only[bC,cF,bw,dh,rM];exact n
 .rw[Ko,aN];exact hm.O ((d.block kb (by have:=hm.lt;simp;omega) y).J (Below.l _ _ _ hm.lt))
 .intro x g;rcases aW.1 g with g|g;.have⟨w,G,l⟩:=h.msg x g;have:=w.lt;exact⟨t (w.alloc _) Vv l,G,r _ Vv l⟩
  .simp at g;subst g;have l:v.ownBlock≠some wr.heap.size:=λe=>by have:=(p _ e).2;omega
   exact⟨t (dZ.new _ _ _) (by show wr.heap.size≠kb;omega) l,q,r _ (by show wr.heap.size<w2.heap.size+1;omega) l⟩
 .rw[bI,dM];refine⟨h.nd,Vw,?_⟩;intro a A c C;obtain⟨x,g,rfl⟩:=aS.1 A;simp at C;have:=(h.msg x g).1.lt;omega
 .refine⟨?_,?_,?_,?_,?_⟩;.rw[d.os];exact f.os.J h.kept.os
  .rw[d.tape];exact f.tape.J h.kept.tape
  .rw[d.output];exact f.output.J h.kept.output
  .have:=d.size;simp at this;omega
  .intro k D u;have j:(w2.alloc o).heap[k]?=w2.heap[k]?:=Below.l _ _ _ Vv;have i:(wr.alloc (.cells #[ag s,ai] 108)).heap[k]?=wr.heap[k]?:=Below.l _ _ _ Vv;rw[d.block k Vx (λe=>by have:=(p _ e.sy).1;omega),j,f.block k Vx (λe=>u (by simp at e;simp[e])),i];exact h.kept.block k D u
end
section
open VH
def jG (s:au)(a k:Nat):Fx (Int×Nat):=
 match(if eM k=0 then iV s a s.size else if eM k=5 then ju s a 4 else ju s a 8)with
 | .error x=> .error x
 | .ok x=> .ok (lE k x.1,x.2)
def Uz (k:Nat):Fx (Int×Nat)->Fx (Int×Nat)
 | .error x=> .error x
 | .ok x=> .ok (lE k x.1,x.2)
def Fw {w:aw}{rb k:Nat}{s:au}{deep:Int}{X r:Fx (Int×Nat)}{Q:Ending->aw->Prop}(a:Uz k X=r)(h1:∀x w2,ee [rb] w w2->r= .error x->Q (d5 x.1 x.2) w2)(c:∀n z w2,X= .ok (n,z)->r= .ok (lE k n,z)->ee [rb] w w2->ei w2 rb s z deep->Q (.returned (.int .u64 n)) w2):
  ∀e w2,pV w rb s deep X (Value.int .u64) e w2->Q e w2:=by
 intro e w2 ⟨b,h⟩
 cases X with
 |error x=>obtain rfl:e=d5 x.1 x.2:=h;exact h1 x w2 b a.sy
 |ok x=>obtain⟨h,d⟩:=h;obtain rfl:e=_:=h;exact c x.1 x.2 w2 rfl a.sy b d
def BS (w:aw)(rb:Nat)(s:au)(a:Nat)(deep:Int)(k:Nat)(h:ei w rb s a deep)(i:a<=s.size)(f:s.size<=140737488355328)(j:fo k=true):
  Calls prog 271 #[aa k,ah rb] w (pV w rb s deep (jG s a k) (Value.int .u64)):=by
 have c:k=0\/k=1\/k=2\/k=3\/k=4\/k=5\/k=6\/k=7\/k=8\/k=9\/k=10\/k=11\/k=12\/k=15:=(by unfold fo at j;simp at j;omega);have q:=nw w rb s a deep h f;have m:=BL w rb s a deep h i f;have o:=wH w rb s a deep h i f;obtain⟨r,d⟩:∃r,Hid (Uz k (if eM k=0 then iV s a s.size else if eM k=5 then ju s a 4 else ju s a 8)=r):=⟨_,rfl⟩;rw[show jG s a k=r from d.o];clear h;rcases c with rfl|rfl|rfl|rfl|rfl|rfl|rfl|rfl|rfl|rfl|rfl|rfl|rfl|rfl
 all_goals
  go_in
  go_wp2_with fail
  first
  |(go_at_call 182;refine q.V (Fw d.o ?_ ?_))
  |(go_at_call 352;refine m.V (Fw d.o ?_ ?_))
  |refine o.V (Fw d.o ?_ ?_)
  .rintro x w2 c rfl;unfold d5;go_wp2;exact⟨rfl,c,rfl⟩
  .rintro n z w2 g rfl c l;go_wp2_with fail
   first
   |(go_ret;exact⟨c,rfl,l⟩)
   |(
     first |(go_at_call 347;refine(px _ n).V ?_) |(go_at_call 348;refine(sY _ n).V ?_) |(go_at_call 349;refine(Kw _ n).V ?_) |(go_at_call 350;refine(Fs _ n (jm g).1 (jm g).2.1).V ?_) |(have p:Vq 351 #[.int .u64 n] w2 λe w'=>e= .returned (.int .u64 (lE 6 n))/\w'=w2:=wI w2 n (jm g).1;generalize lE 6 n=b at*;refine p.V ?_)
     rintro e w3 ⟨rfl,rfl⟩;go_wp2;go_ret
     exact⟨c,rfl,l⟩)
def tf (mp:an)(gs:List GF)(num kind:Int):Option GF:=
 match iL gs num with
 |none=>none
 |some g=>if mh mp g kind then some g else none
def Av (w:aw)(P:ax)(mp:an)(mb:Nat)(name:au)(gs:List GF)(num kind:Int)(h:jk w P mp mb name gs)(p:gs.Pairwise (λx y=>x.f.num<=y.f.num))(c:gs.length<=2001):
  Calls prog 132 #[ah mb,.agg #[aa num,aa kind]] w λe w'=>KU w' P mp (tf mp gs num kind) e/\ak w w':=by
 have⟨i,m⟩:=ec w #[aa num,aa kind] 237;have n:=h.O (w':=w.alloc (am #[aa num,aa kind] 237)) (λb _ c=>Below.l _ _ _ c);obtain⟨r,d⟩:∃r,Hid (tf mp gs num kind=r):=⟨_,rfl⟩;rw[d.o];go_in
 go_wp2_with fail;generalize w.alloc (am #[aa num,aa kind] 237)=w1 at*;refine(qW w1 P mp mb name gs num n p c).V ?_
 cases hf:iL gs num with
 |none=>
  rintro e w2 ⟨o,rfl⟩;obtain rfl:e= .returned (.pointer none):=o;obtain rfl:r=none:=by rw[<-d.o,tf,hf]
  go_wp2;go_ret
  exact⟨rfl,i⟩
 |some g=>
  rintro e w2 ⟨⟨f,rfl,j⟩,rfl⟩;have⟨q,s⟩:=m.I;have l:Hid (Vq 183 #[ah f,aa kind] w2 λe w'=>e= .returned (.bool (mh mp g kind))/\ak w2 w'):=QT w2 P mp g f kind j;have k:Hid (∀w3:aw,ak w2 w3->fi w3 P mp g f):=λw3 a=>j.O (λb _ c=>a.block b c)
  go_wp2_with fail;refine l.o.V ?_;cases hq:mh mp g kind
  .obtain rfl:r=none:=by rw[<-d.o,tf,hf];simp[hq]
   rintro e w3 ⟨rfl,a⟩;go_wp2;go_ret;exact⟨rfl,eT i a⟩
  .obtain rfl:r=some g:=by rw[<-d.o,tf,hf];simp[hq]
   rintro e w3 ⟨rfl,a⟩;go_wp2;go_ret;exact⟨⟨f,rfl,k.o w3 a⟩,eT i a⟩
end
end Go.Proofs.YtfebdimolnobaaaGreatDoor
