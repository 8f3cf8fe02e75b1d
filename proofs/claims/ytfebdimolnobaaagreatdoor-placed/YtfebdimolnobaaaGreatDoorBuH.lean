import Derived.Test.YtfebdimolnobaaaGreatDoorBuC
set_option maxRecDepth 100000
set_option maxHeartbeats 8000000
set_option linter.all false
namespace Go.Proofs.YtfebdimolnobaaaGreatDoor
open Go.RowKit
section
open Go.Maps
attribute [local go_sem↓] Go.wp_at_zero Go.wp_at_succ
def RS (f:dM)(p:er)(fa:aw)(fc c9 pb:Nat)(w':an):Prop:=w'.cell? (ai c9 0)=some (aa f.form)/\w'.cell? (ai c9 1)=some (aa (kS f.key))/\w'.cell? (ai c9 2)=some (ae (iz f.key))/\w'.cell? (ai c9 3)=some (aa (kM f.key))/\w'.cell? (ai c9 4)=some (aa (cZ f.type.1))/\w'.cell? (ai c9 5)=some (ae f.type.1)/\w'.cell? (ai c9 6)=some (aa f.type.2)/\w'.cell? (ai c9 7)=some (aa (cZ f.name.1))/\w'.cell? (ai c9 8)=some (ae f.name.1)/\w'.cell? (ai c9 9)=some (aa f.name.2)/\w'.cell? (ai c9 10)=some (aa (cZ f.num.1))/\w'.cell? (ai c9 11)=some (ae f.num.1)/\w'.cell? (ai c9 12)=some (aa f.num.2)/\w'.cell? (ai pb 0)=some (aa (kS p.oneof))/\w'.cell? (ai pb 1)=some (ae (iz p.oneof))/\w'.cell? (ai pb 2)=some (aa (kM p.oneof))/\w'.cell? (ai pb 3)=some (.slice fa p.fields.length fc)
theorem RS.of {f:dM}{p:er}{fa:aw}{fc c9 pb:Nat}{w':an}(h:de w' c9 (FC f) 211)(k:de w' pb #[aa (kS p.oneof),ae (iz p.oneof),aa (kM p.oneof),.slice fa p.fields.length fc] 208):RS f p fa fc c9 pb w':=
 ⟨h.cell 0,h.cell 1,h.cell 2,h.cell 3,h.cell 4,h.cell 5,h.cell 6,h.cell 7,h.cell 8,h.cell 9,h.cell 10,h.cell 11,h.cell 12,k.cell 0,k.cell 1,k.cell 2,k.cell 3⟩
def oB (w':an)(P:ap)(mp:am->Option Nat)(f:dM)(tb:Int)(tv:Value):Prop:=
 if f.form=4 then tb=16/\∃eb,tv=ft (some eb)/\jQ w' P mp (iz f.key) f.type.1 eb else tb=gQ mp f.type.1/\tv=ft (uK mp f.type.1)
theorem oB.keep {w w':an}{P:ap}(hk:∀b,P b->b<w.heap.size->w'.heap[b]?=w.heap[b]?){mp:am->Option Nat}{f:dM}{tb:Int}{tv:Value}(h:oB w P mp f tb tv):oB w' P mp f tb tv:=by
 unfold oB at h⊢
 split at h
 ·rename_i h0
  rw[if_pos h0];obtain⟨h1,eb,h2,h3⟩:=h;exact⟨h1,eb,h2,h3.keep hk⟩
 ·rename_i h0
  rw[if_neg h0];exact h
theorem oB.mono {w:an}{P Q:ap}(hs:∀b,P b->b<w.heap.size->Q b){mp:am->Option Nat}{f:dM}{tb:Int}{tv:Value}(h:oB w P mp f tb tv):oB w Q mp f tb tv:=by
 unfold oB at h⊢
 split at h
 ·rename_i h0
  rw[if_pos h0];obtain⟨h1,eb,h2,h3⟩:=h;exact⟨h1,eb,h2,h3.mono hs⟩
 ·rename_i h0
  rw[if_neg h0];exact h
theorem wV (w:an)(b n:Nat)(mp:am->Option Nat)(f:dM)(hg:AB f)(H:eI w b n mp)(hb:BOK w):
  Calls Tryz.prog 110 #[.map (some b),.agg (FC f)] w fun e w'=>∃tb tv,e= .returned (.agg #[aa tb,tv])/\oB w' (fun b=>w.heap.size<=b) mp f tb tv/\aj w w':=by
 refine(yE w b n mp f hg H hb).mono ?_;rintro e w' ⟨h1,h2⟩;unfold Ew at h1
 by_cases h0:f.form=4
 ·rw[if_pos h0]at h1;obtain⟨eb,rfl,h3⟩:=h1;exact⟨16,_,rfl,by unfold oB;rw[if_pos h0];exact⟨rfl,eb,rfl,h3⟩,h2⟩
 ·rw[if_neg h0]at h1;exact⟨_,_,h1,by unfold oB;rw[if_neg h0];exact⟨rfl,rfl⟩,h2⟩
theorem Ey {w:an}{P:ap}{mp:am->Option Nat}{p:er}{f:dM}{fb:Nat}{tb:Int}{tv rv:Value}(hb:de w fb #[aa (gV f),aa f.form,aa tb,tv,rv] 220)(hp:P fb)
  (hr:dJ w P 3 1 rv (mY p f).length (eL (mY p f))) (ht:oB w P mp f tb tv):dP w P mp (pK p f) fb:=by
 unfold oB at ht;unfold dP;show if f.form=4 then _ else _
 split at ht
 ·rename_i h0
  rw[if_pos h0];obtain⟨rfl,eb,rfl,h3⟩:=ht;rw[h0]at hb;exact⟨rv,eb,hb,hp,hr,h3⟩
 ·rename_i h0
  rw[if_neg h0];obtain⟨rfl,rfl⟩:=ht;exact⟨rv,hb,hp,hr⟩
theorem Tryz.info212:(Tryz.prog.info? 212).map (fun i=>(i.zero,i.size,i.bytes))=some (some (.pointer none),1,8):=by kernel_rfl
structure IZ (f:dM):Prop where
 num:wT f
 ty:AB f
def sR (w wr:an)(mp:am->Option Nat)(v:Value)(gs:List GF):Prop:=
 ∃N7:au,wr.ownsRow w.heap.size 212 1 v gs.length (dV N7)/\eH wr (fun b=>w.heap.size<=b/\v.ownBlock≠some b) mp gs N7/\aj w wr
theorem sR.on {w wr w2:an}{mp:am->Option Nat}{v:Value}{gs:List GF}(h:sR w wr mp v gs)(hb:aj wr w2):sR w w2 mp v gs:=by
 obtain⟨N7,h1,h2,h3⟩:=h;exact⟨N7,dO hb h1,h2.keep (fun b _ hl=>hb.block b hl),dH h3 hb⟩
theorem sR.start (w wr:an)(mp:am->Option Nat)(h:aj w wr):sR w wr mp (ah) []:=⟨[],aX _ _ _ _,rfl,h⟩
theorem oJ (l:au)(b:Nat):dV (l++ [b])=dV l++ [ft (some b)]:=by simp[dV]
theorem sR.snoc {w W w5:an}{mp:am->Option Nat}{v v':Value}{gs:List GF}{g:GF}{N7:au}{fb:Nat}(h2:eH W (fun b=>w.heap.size<=b/\v.ownBlock≠some b) mp gs N7)(h3:aj w W)(hbase:∀k,v.ownBlock=some k->w.heap.size<=k)
  (hf:dP W (fun b=>w.heap.size<=b/\v.ownBlock≠some b) mp g fb) (N8:w5.ownsRow w.heap.size 212 1 v' (gs.length+1) (dV N7++ [ft (some fb)])) (N2:W.grownBy w5 v.ownBlock) (hloc:v.ownBlock=v'.ownBlock\/v'.ownBlock=some W.heap.size):sR w w5 mp v' (gs++ [g]):=by
 have h4:=h2.snoc hf
 have hq:∀b,(w.heap.size<=b/\v.ownBlock≠some b)->b<W.heap.size->(w.heap.size<=b/\v.ownBlock≠some b)/\v'.ownBlock≠some b:=by
  rintro b ⟨q1,q2⟩ q3;refine⟨⟨q1,q2⟩,?_⟩
  rcases hloc with e|e
  ·rw[<-e];exact q2
  ·rw[e];intro e2;have:=Option.some.inj e2;omega
 have h5:=(h4.mono hq).keep (w':=w5) (fun b hb hl=>N2.block b hl (fun e=>hb.1.2 e.symm));refine⟨N7++ [fb],?_,h5.mono (fun b hb _=>⟨hb.1.1,hb.2⟩),h3.grown N2 h3.size hbase⟩;rw[oJ,aH];exact N8
def uL (ps:List er):List GF:=ps.flatMap fun p=>p.fields.map (pK p)
theorem pN:∀ps:List er,(uL ps).length<=ji ps
 | []=>ay _
 |p::ps=>by
  have:=pN ps;unfold uL at this⊢;rw[bm,aH,aV,ji];omega
theorem vm:∀(ps:List er) (k:Nat),ji (ps.take k)<=ji ps
 | [],k=>by simp[ji]
 |p::ps,0=>by simp[ji]
 |p::ps,k+1=>by have:=vm ps k;rw[List.take_succ_cons,ji,ji];omega
theorem Db {α β:Type}{h:α->β}{l' l:List β}(p:l'.Perm l):∀z:List α,z.map h=l->∃z':List α,z'.Perm z/\z'.map h=l':=by
 induction p with
 |nil=>intro z hz;exact⟨z,List.Perm.refl _,hz⟩
 |cons x _ ih=>
  intro z hz
  cases z with
  |nil=>simp at hz
  |cons a z=>
   simp at hz;obtain⟨z',h1,h2⟩:=ih z hz.2;exact⟨a::z',h1.cons a,by simp[h2,hz.1]⟩
 |swap x y l=>
  intro z hz
  match z,hz with
  | [],hz=>simp at hz
  | [_],hz=>simp at hz
  |a::c::z,hz=>
   simp at hz;exact⟨c::a::z,List.Perm.swap _ _ _,by simp[hz.1,hz.2.1,hz.2.2]⟩
 |trans _ _ ih1 ih2=>
  intro z hz;obtain⟨z1,h1,h2⟩:=ih2 z hz;obtain⟨z2,h3,h4⟩:=ih1 z1 h2;exact⟨z2,h3.trans h1,h4⟩
def vo (w:an)(mp:am->Option Nat)(b:dh)(e:Ending)(w':an):Prop:=
 ∃(v:Value) (gs:List GF) (N7:au),e= .returned v/\gs.Perm (rj b)/\gs.Pairwise (fun x y=>x.f.num<=y.f.num)/\
  dJ w' (fun x=>w.heap.size<=x) 212 1 v N7.length (dV N7)/\eH w' (fun x=>w.heap.size<=x) mp gs N7/\aj w w'
theorem Ez (w:an)(mb n:Nat)(mp:am->Option Nat)(b:dh)(pa va:aw)(pc vn vc:Nat)(pcs:aq)(S:ap)(hrow:dJ w S 208 4 (.slice pa b.parts.length pc) b.parts.length pcs)(hps:ec w S pcs b.parts)
  (H:eI w mb n mp) (hlen:ji b.parts<=2001) (hgood:∀p∈b.parts,∀f∈p.fields,IZ f) (hg:GOK w) (hb:BOK w):
  Calls Tryz.prog 67 #[.map (some mb),.agg #[.bool b.enum,aa (cZ b.name.1),ae b.name.1,aa b.name.2,.slice pa b.parts.length pc,.slice va vn vc]] w (vo w mp b):=by
 obtain⟨i0,Pm,Pn,Po,OR⟩:=info_parts Tryz.info212;have hpl:b.parts.length<=2001:=aG (sL b.parts) hlen;have C0:=(Below.refl w.heap.size w).alloc (ay _) (ak #[.bool b.enum,aa (cZ b.name.1),ae b.name.1,aa b.name.2,.slice pa b.parts.length pc,.slice va vn vc] 152);go_enter Tryz.func67,Tryz.ntmps67
 go_wp2;go_loopw [5,13] (fun v i wr=>∃(k:Nat),k<=b.parts.length/\i=aa k/\sR w wr mp v (uL (b.parts.take k))) (fun _ i _=>b.parts.length-(intOf i).toNat)
 case atStart=>exact⟨0,aM _,rfl,sR.start _ _ _ C0⟩
 case round=>
  clear C0;obtain⟨k,hk,rfl,HI⟩:=hrel
  by_cases hlt:k<b.parts.length
  ·obtain⟨p,hp⟩:=gx hlt;have OW:p∈b.parts:=aI hp;have N3:b.parts.take (k+1)=b.parts.take k++ [p]:=by rw[bu,hp];rfl
   have OB:uL (b.parts.take (k+1))=uL (b.parts.take k)++p.fields.map (pK p):=by rw[N3];simp[uL]
   have OC:(uL (b.parts.take k)).length+p.fields.length<=2001:=by
    have h1:=pN (b.parts.take (k+1));have h2:=vm b.parts (k+1);rw[OB,aH,aV]at h1;omega
   have CW:aj w wr:=by obtain⟨_,_,_,h⟩:=HI;exact h
   have OX:∀j,u5.ownBlock=some j->w.heap.size<=j/\j<wr.heap.size:=by obtain⟨_,h,_,_⟩:=HI;exact h.lt
   obtain⟨g,rfl,_,OO,Oh⟩:=dE hrow.1 (by omega);obtain⟨fa,fn,fc,p0,p1,p2,p3,OS⟩:=hps.get hp;have O8:=dR OS.1;subst O8;have Om:=Oh wr (CW.block g OO);have q0:=Om _ _ p0;have q1:=Om _ _ p1;have q2:=Om _ _ p2;have q3:=Om _ _ p3;have KP:=de.new wr #[aa (kS p.oneof),ae (iz p.oneof),aa (kM p.oneof),.slice fa p.fields.length fc] 208;have OD:=HI.on ((Below.refl wr.heap.size wr).alloc (ay _) (ak #[aa (kS p.oneof),ae (iz p.oneof),aa (kM p.oneof),.slice fa p.fields.length fc] 208));have Oo:u5.ownBlock≠some wr.heap.size:=fun e=>by have:=(OX _ e).2;omega
   have Ob:=hgood p OW;have hpb:w.heap.size<=wr.heap.size:=CW.size;generalize uL (b.parts.take k)=G at OD OB OC;clear Oh Om p0 p1 p2 p3 hp OW N3 HI OX hgood;go_wp2_with fail
   generalize wr.alloc (ak #[aa (kS p.oneof),ae (iz p.oneof),aa (kM p.oneof),.slice fa p.fields.length fc] 208)=w1 at*;generalize wr.heap.size=pb at*;clear q0 q1 q2 q3;go_loopw [5,20] (fun v i wr=>∃(j:Nat),j<=p.fields.length/\i=aa j/\sR w wr mp v (G++(p.fields.take j).map (pK p))/\de wr pb #[aa (kS p.oneof),ae (iz p.oneof),aa (kM p.oneof),.slice fa p.fields.length fc] 208/\v.ownBlock≠some pb) (fun _ i _=>p.fields.length-(intOf i).toNat)
   case atStart=>exact⟨0,aM _,rfl,by simpa using OD,KP,Oo⟩
   case round=>
    clear OD KP Oo CW;obtain⟨j,hj,rfl,HJ,KP,Oo⟩:=hrel
    by_cases hlt2:j<p.fields.length
    ·obtain⟨f,hf⟩:=gx hlt2;have OY:f∈p.fields:=aI hf;have N3:G++(p.fields.take (j+1)).map (pK p)=(G++(p.fields.take j).map (pK p))++ [pK p f]:=by rw[bu,hf];simp
     obtain⟨gf,rfl,_,OT,Oc⟩:=dE OS.1 (by omega);have Pa:aj w wr:=by obtain⟨_,_,_,h⟩:=HJ;exact h
     have Ok:∀x,u5.ownBlock=some x->w.heap.size<=x/\x<wr.heap.size:=by obtain⟨_,h,_,_⟩:=HJ;exact h.lt
     have OZ:=Oc wr (Pa.block gf OT);obtain⟨t0,t1,t2,t3,t4,t5,t6,t7,t8,t9,Pp,Pq,Pr⟩:=pH hf OZ;have Oy:=Ob f OY;have KF:=de.new wr (FC f) 211;have O1:=KP.alloc (FO f);have O2:=HJ.on ((Below.refl wr.heap.size wr).alloc (ay _) (FO f));have OE:u5.ownBlock≠some wr.heap.size:=fun e=>by have:=(Ok _ e).2;omega
     have OF:Hid (∀x,u5.ownBlock=some x->x<wr.heap.size):=fun x hx=>(Ok x hx).2
     have Pb:(G++(p.fields.take j).map (pK p)).length<=2001:=by rw[aH,aV,be];omega
     generalize(G++(p.fields.take j).map (pK p))=G2 at O2 N3 Pb;have hzz:pb<wr.heap.size:=KP.lt;clear Oc OZ hf OY HJ KP Ok;go_upto_region 8 with fail
     clear t0 t1 t2 t3 t4 t5 t6 t7 t8 t9 Pp Pq Pr;generalize hw1:wr.alloc (FO f)=W1 at*;have zc:wr.heap.size<W1.heap.size:=KF.lt;clear hw1;generalize wr.heap.size=c9 at*;obtain⟨N7,N8,Oa,CA⟩:=O2;have Oe:aj w W1.drew:=CA.drew;have OG:=KF.drew;have OH:=O1.drew;have Of:W1.drew.ownsRow w.heap.size 212 1 u5 G2.length (dV N7):=N8;have Ol:eH W1.drew (fun b=>w.heap.size<=b/\u5.ownBlock≠some b) mp G2 N7:=eH.keep (w:=W1) (w':=W1.drew) (fun _ _ _=>rfl) Oa;have a0:=RS.of OG OH;have Pc:Hid (Calls Tryz.prog 109 #[.agg (FC f)] W1.drew (fun e w'=>e= .returned (aa (gV f))/\Below W1.drew.heap.size W1.drew w')):=pL _ f Oy.num.1 Oy.num.2 (hg.keep (Oe.block _ hg.lt))
     have Pd:Hid (∀w2:an,Below W1.drew.heap.size W1.drew w2->Calls Tryz.prog 110 #[.map (some mb),.agg (FC f)] w2 (fun e w'=>∃tb tv,e= .returned (.agg #[aa tb,tv])/\oB w' (fun b=>w2.heap.size<=b) mp f tb tv/\aj w2 w')):=
      fun w2 h2=>wV w2 mb n mp f Oy.ty (H.keep ((dH Oe h2).block _ H.lt)) (hb.keep ((dH Oe h2).block _ hb.lt))
     have Pe:Hid (∀w3:an,Below W1.drew.heap.size W1.drew w3->Calls Tryz.prog 111 #[.agg #[aa (kS p.oneof),ae (iz p.oneof),aa (kM p.oneof),.slice (some (ai gf 0)) p.fields.length fc],.agg (FC f)] w3 (fun e w'=>∃v,e= .returned v/\w'.ownsRow w3.heap.size 3 1 v (mY p f).length (eL (mY p f))/\aj w3 w')):=
      fun w3 h3=>Ex w3 p f _ fc S (OS.keep (fun x _ hl=>(dH Oe h3).block x hl)) (by omega) Oy.num (fun o ho=>(Ob o ho).num) (hg.keep ((dH Oe h3).block _ hg.lt))
     have Pf:Hid (∀(W:an) (fb:Nat) (tb:Int) (tv rv:Value),de W fb #[aa (gV f),aa f.form,aa tb,tv,rv] 220->(w.heap.size<=fb/\u5.ownBlock≠some fb)->dJ W (fun b=>w.heap.size<=b/\u5.ownBlock≠some b) 3 1 rv (mY p f).length (eL (mY p f))->oB W (fun b=>w.heap.size<=b/\u5.ownBlock≠some b) mp f tb tv->dP W (fun b=>w.heap.size<=b/\u5.ownBlock≠some b) mp (pK p f) fb):=fun W fb tb tv rv h1 h2 h3 h4=>Ey h1 h2 h3 h4
     have Pg:Hid (some c9≠u5.ownBlock):=fun e=>OE e.symm
     have Ph:Hid (some pb≠u5.ownBlock):=fun e=>Oo e.symm
     clear N8 Oa CA KF O1
     go_region_held3 (fun w'=>w'.cell? (ai c9 0)=some (aa f.form)/\w'.cell? (ai c9 1)=some (aa (kS f.key))/\w'.cell? (ai c9 2)=some (ae (iz f.key))/\w'.cell? (ai c9 3)=some (aa (kM f.key))/\w'.cell? (ai c9 4)=some (aa (cZ f.type.1))/\w'.cell? (ai c9 5)=some (ae f.type.1)/\w'.cell? (ai c9 6)=some (aa f.type.2)/\w'.cell? (ai c9 7)=some (aa (cZ f.name.1))/\w'.cell? (ai c9 8)=some (ae f.name.1)/\w'.cell? (ai c9 9)=some (aa f.name.2)/\w'.cell? (ai c9 10)=some (aa (cZ f.num.1))/\w'.cell? (ai c9 11)=some (ae f.num.1)/\w'.cell? (ai c9 12)=some (aa f.num.2)/\w'.cell? (ai pb 0)=some (aa (kS p.oneof))/\w'.cell? (ai pb 1)=some (ae (iz p.oneof))/\w'.cell? (ai pb 2)=some (aa (kM p.oneof))/\w'.cell? (ai pb 3)=some (.slice (some (ai gf 0)) p.fields.length fc))
      (first|exact a5|exact RS.of ((Oz.alloc _).alloc _) ((OA.alloc _).alloc _)|exact RS.of (Oz.alloc _) (OA.alloc _)|exact RS.of Oz OA|exact RS.of OL OM|exact RS.of OI OJ|exact a0)
      (first|(refine step_append_lies _ (by rfl) _ _ _ (by rfl) w.heap.size 212 i0 _ 1 8 Tryz.underlying106 Pm Pn Po OR rfl (by omega) u5 G2.length (dV N7) (by rfl) ((Oq.alloc _).alloc _) (ai (w4.heap.size+1) 0) 1 1 [_] (by rfl) (by rfl) (bl (de.newAt (by simp) _ _)) (by simp[Value.oneCell']) (by omega) (by unfold maxLen;omega) (by omega) (by have:=C4.size;simp;omega) (w4.heap.size+1+1) (by simp) ?_;intro gg cap w5 Oi N2 O6 hlt5;have Pi:=((Oz.alloc _).alloc _).grown N2 Pg.out;have O3:=((OA.alloc _).alloc _).grown N2 Ph.out;have a5:=RS.of Pi O3)|(go_at_call 109;refine Pc.out.mono ?_;rintro e w2 ⟨rfl,b2⟩;have OI:=OG.below b2 OG.lt;have OJ:=OH.below b2 OH.lt)|(go_at_call 110;refine(Pd.out w2 b2).mono ?_;rintro e w3 ⟨tb,tv,rfl,Ps,b3⟩;have OL:=OI.below b3 OI.lt;have OM:=OJ.below b3 OJ.lt)|(go_at_call 111;refine(Pe.out w3 (dH b2 b3)).mono ?_;rintro e w4 ⟨rv,rfl,O7,b4⟩;obtain⟨ra,rn,rc,rfl⟩:=df O7;have Oz:=OL.below b4 OL.lt;have OA:=OM.below b4 OM.lt;have C4:=dH (dH (dH Oe b2) b3) b4;have Oq:=dO (dH (dH b2 b3) b4) Of))
     have Z2:=b2.size;have Z3:=b3.size;have Z4:=b4.size;have zc2:c9<W1.drew.heap.size:=zc;have Od:∀x,W1.drew.heap.size<=x->u5.ownBlock≠some x:=fun x hx e=>by have:=OF.out x e;omega
     have O4:∀x,w3.heap.size<=x->w.heap.size<=x/\u5.ownBlock≠some x:=fun x hx=>⟨by have:=Oe.size;omega,Od x (by omega)⟩
     have BW:aj w4 ((w4.alloc (ak #[aa (gV f),aa f.form,aa tb,tv,.slice ra rn rc] 220)).alloc (ak #[ag w4.heap.size] 212)):=((Below.refl w4.heap.size w4).alloc (ay _) _).alloc (by simp) _;have O5:=eH.keep (w:=W1.drew) (w':=((w4.alloc (ak #[aa (gV f),aa f.form,aa tb,tv,.slice ra rn rc] 220)).alloc (ak #[ag w4.heap.size] 212))) (fun x _ hl=>(dH (dH (dH b2 b3) b4) BW).block x hl) Ol;have Og:=((dJ.of O7).mono (S':=fun b=>w.heap.size<=b/\u5.ownBlock≠some b) (fun x hx _=>O4 x hx)).keep (w':=((w4.alloc (ak #[aa (gV f),aa f.form,aa tb,tv,.slice ra rn rc] 220)).alloc (ak #[ag w4.heap.size] 212))) (fun x _ hl=>BW.block x hl);have Ot:=(oB.mono (Q:=fun b=>w.heap.size<=b/\u5.ownBlock≠some b) (fun x hx _=>⟨by have:=Oe.size;omega,Od x (by omega)⟩) Ps).keep (w':=((w4.alloc (ak #[aa (gV f),aa f.form,aa tb,tv,.slice ra rn rc] 220)).alloc (ak #[ag w4.heap.size] 212))) (fun x _ hl=>(dH b4 BW).block x hl);have Ou:=Pf.out _ w4.heap.size tb tv (.slice ra rn rc) ((de.new w4 _ _).alloc _) ⟨C4.size,Od _ (by omega)⟩ Og Ot;have Pj:=sR.snoc (v':= .slice (some (ai gg 0)) (G2.length+1) cap) O5 (dH C4 BW) (fun x hx=>(Of.lt x hx).1) Ou Oi N2 (O6.imp (fun h=>h) (fun h=>by rw[h];simp[Value.ownBlock]))
     have ON:(Value.slice (some (ai gg 0)) (G2.length+1) cap).ownBlock≠some pb:=fun e=>by
      rcases O6 with h|h
      ·exact Oo (h.trans e)
      ·have e2:=Option.some.inj e;simp only at e2;omega
     clear a5 O5 Og Ot Ou Oi N2 BW Od O4;go_wp2;go_roundw
     case rel=>exact⟨j+1,by omega,rfl,by rw[N3];exact Pj,O3,ON⟩
     case measure=>simp[intOf];omega
    ·have hli2:decide ((j:Int)<(p.fields.length:Int))=false:=by simp;omega
     obtain rfl:j=p.fields.length:=by omega
     rw[aY]at HJ;go_wp2;go_roundw
     case rel=>exact⟨k+1,by omega,rfl,by rw[OB];exact HJ⟩
     case measure=>simp[intOf];omega
  ·have hli:decide ((k:Int)<(b.parts.length:Int))=false:=by simp;omega
   obtain rfl:k=b.parts.length:=by omega
   rw[aY]at HI;go_wp2_with fail
   obtain⟨N7,N8,Oa,CW⟩:=HI;obtain⟨z,Ov,OR,OU⟩:=Oa.zip;have OO:z.length=(uL b.parts).length:=by rw[<-Ov];simp
   have OP:z.length<=2001:=by have:=pN b.parts;omega
   have OQ:=Jv wr w.heap.size u5 (z.map fun x=>(x.1.f.num,x.2)) (by rw[aV,OO,bz,show((fun x:Int×Nat=>x.2)∘fun x:GF×Nat=>(x.1.f.num,x.2))=(fun x=>x.2)from rfl,OR];exact N8)
    (fun x hx=>by obtain⟨y,hy,rfl⟩:=List.mem_map.1 hx;exact(OU y hy).cell0.1) (fun x hx=>by obtain⟨y,hy,rfl⟩:=List.mem_map.1 hx;exact(OU y hy).cell0.2.2) (by simpa using OP)
   refine OQ.mono ?_;rintro e w' ⟨rfl,l',Ow,Oj,Ox,N2⟩;obtain⟨z',OV,rfl⟩:=Db Ow z rfl;go_wp2;go_ret;refine⟨u5,z'.map (·.1),z'.map (·.2),rfl,?_,?_,?_,?_,?_⟩
   ·rw[show rj b=uL b.parts from rfl,<-Ov];exact OV.map _
   ·rw[bJ]at Oj⊢;exact Oj
   ·have Pk:(z'.map (·.2)).length=(z.map fun x:GF×Nat=>(x.1.f.num,x.2)).length:=by simp[OV.length_eq]
    rw[Pk];have:=dJ.of Ox;rw[bz]at this;exact this
   ·have h5:∀x∈z',dP w' (fun x=>w.heap.size<=x) mp x.1 x.2:=fun x hx=>by
     have h6:=OU x (OV.mem_iff.1 hx);exact(h6.keep (w':=w') (fun c hc hl=>N2.block c hl (fun e=>hc.2 e.symm))).mono (fun c hc _=>hc.1)
    exact eH.of_zip h5
   ·exact CW.grown N2 CW.size (fun x hx=>(N8.lt x hx).1)
end
structure EA (types:ar)(f:dM):Prop where
 key:f.form=4->kS f.key=3
 lo:1<=fy f.num.1
 hi:fy f.num.1<=536870911
 ty:cZ f.type.1=1->dX types f.type.1=true
 kg:f.form=4->gL (kS f.key) (iz f.key)=true
theorem pO {types names:ar}{nums:au}{f:dM}{n:ar}{m:au}(h:mt types names nums f= .ok (n,m)):EA types f/\uI nums (fy f.num.1)=false/\m=nums++ [fy f.num.1]/\n=names++ [f.name.1]/\dX names f.name.1=false:=by
 unfold mt pG gh at h
 split at h
 ·simp at h
 ·rename_i hk
  split at h
  ·simp at h
  ·rename_i ht
   split at h
   ·simp at h
   ·rename_i hn
    split at h
    ·simp at h
    ·split at h
     ·simp at h
     ·rename_i hb
      simp at h;unfold oZ at hb;unfold nW at ht;unfold gA at hn;simp at hb ht hk hn;refine⟨⟨fun h4=> ?_,by omega,by omega,fun h1=> ?_,hk⟩,hb.2.2,h.2.symm,h.1.symm,hn.2⟩
      ·have:=hk h4;unfold gL at this;simp at this;exact this.1
      ·exact(ht h1).2
theorem lq {types:ar}:∀(fs:List dM) (names:ar) (nums:au) (n:ar) (m:au),eF types names nums fs= .ok (n,m)->nums.Nodup->
  (∀f∈fs,EA types f)/\m=nums++fs.map (fun f=>fy f.num.1)/\m.Nodup
 | [],names,nums,n,m,h,hd=>by
  simp[eF]at h;obtain⟨rfl,rfl⟩:=h;exact⟨by simp,by simp,hd⟩
 |f::fs,names,nums,n,m,h,hd=>by
  unfold eF at h
  split at h
  ·cases h
  ·rename_i n1 m1 h1
   have g1:=pO h1;have g2:=o0 h1 hd;have g3:=lq fs n1 m1 n m h g2.2.2;refine⟨?_,?_,g3.2.2⟩
   ·intro x hx
    rcases aL.1 hx with rfl|hx
    ·exact g1.1
    ·exact g3.1 x hx
   ·rw[g3.2.1,g1.2.2.1];simp
theorem pP {types:ar}:∀(ps:List er) (names:ar) (nums:au) (n:ar) (m:au),fw types names nums ps= .ok (n,m)->nums.Nodup->
  (∀p∈ps,∀f∈p.fields,EA types f)/\m=nums++ps.flatMap (fun p=>p.fields.map (fun f=>fy f.num.1))/\m.Nodup
 | [],names,nums,n,m,h,hd=>by
  simp[fw]at h;obtain⟨rfl,rfl⟩:=h;exact⟨by simp,by simp,hd⟩
 |p::ps,names,nums,n,m,h,hd=>by
  unfold fw at h
  split at h
  ·cases h
  ·rename_i n1 m1 h1
   have g1:(∀f∈p.fields,EA types f)/\m1=nums++p.fields.map (fun f=>fy f.num.1)/\m1.Nodup:=by
    unfold mT at h1
    split at h1
    ·split at h1
     ·cases h1
     ·exact lq _ _ _ _ _ h1 hd
    ·exact lq _ _ _ _ _ h1 hd
   have g3:=pP ps n1 m1 n m h g1.2.2;refine⟨?_,?_,g3.2.2⟩
   ·intro x hx
    rcases aL.1 hx with rfl|hx
    ·exact g1.1
    ·exact g3.1 x hx
   ·rw[g3.2.1,g1.2.1];simp
structure Ho (types:ar)(b:dh):Prop where
 flds:∀p∈b.parts,∀f∈p.fields,EA types f
 nums:(b.parts.flatMap (fun p=>p.fields.map (fun f=>fy f.num.1))).Nodup
theorem jy (l r:ar)(s:am):dX (l++r) s=(dX l s||dX r s):=by simp[dX]
theorem oL {types:ar}:∀(bs:List dh) (names:ar) (m:Nat),ey types names m bs= .ok ()->
  (∀b∈bs,b.enum=false->Ho types b)/\(ez bs).Pairwise (fun x y=>x.toList≠y.toList)/\(∀b∈bs,dX names b.name.1=false)
 | [],names,m,_=>⟨by simp,List.Pairwise.nil,by simp⟩
 |b::bs,names,m,h=>by
  have key:∀m',ey types (names++ [b.name.1]) m' bs= .ok ()->gA names b.name.1=false->(b.enum=false->Ho types b)->
    (∀x∈b::bs,x.enum=false->Ho types x)/\(ez (b::bs)).Pairwise (fun x y=>x.toList≠y.toList)/\(∀x∈b::bs,dX names x.name.1=false):=by
   intro m' h2 h3 h4;have g:=oL bs _ m' h2;refine⟨?_,?_,?_⟩
   ·intro x hx
    rcases aL.1 hx with rfl|hx
    ·exact h4
    ·exact g.1 x hx
   ·refine List.Pairwise.cons ?_ g.2.1;intro y hy;obtain⟨c,hc,rfl⟩:=List.mem_map.1 hy;have:=g.2.2 c hc;rw[jy]at this;simp[dX]at this;exact this.2
   ·intro x hx
    rcases aL.1 hx with rfl|hx
    ·unfold gA at h3;simp at h3;exact h3.2
    ·have:=g.2.2 x hx;rw[jy]at this;simp at this;exact this.1
  unfold ey at h
  split at h
  ·cases h
  ·rename_i h3
   simp only[Bool.not_eq_true]at h3
   split at h
   ·rename_i he
    split at h
    ·cases h
    ·exact key m h h3 (fun e=>by rw[he]at e;cases e)
   ·split at h
    ·cases h
    ·split at h
     ·cases h
     ·rename_i n1 h5
      obtain⟨a,c⟩:=n1;have g:=pP b.parts [] [] a c h5 List.nodup_nil;exact key (m+1) h h3 (fun _=>⟨g.1,by have:=g.2.2;rw[g.2.1]at this;simpa using this⟩)
structure yI (bs:List dh):Prop where
 ok:∀b∈bs,mw b
 few:bs.length<=2001
 shape:∀b∈bs,wO b
 chk:∀b∈bs,b.enum=false->Ho (ez bs) b
 names:(ez bs).Pairwise (fun x y=>x.toList≠y.toList)
theorem o9 {t:am}{bs:List dh}(h:gi t= .ok bs):yI bs:=by
 unfold gi at h
 split at h
 ·cases h
 ·split at h
  ·cases h
  ·rename_i h3
   split at h
   ·cases h
   ·rename_i h4
    cases h
    have hw:=mW t (by omega);have g:=oL _ _ _ h4;exact⟨(sM hw h3).1,(sM hw h3).2,yw hw h3,g.1,g.2.1⟩
theorem yI.field {bs:List dh}(h:yI bs){b:dh}(hb:b∈bs)(he:b.enum=false){p:er}(hp:p∈b.parts){f:dM}(hf:f∈p.fields):IZ f:=by
 have c:=(h.chk b hb he).flds p hp f hf;have s:=(h.shape b hb p hp).1 f hf;refine⟨⟨(h.ok b hb).fnum p hp f hf,c.hi⟩,⟨fun h4=> ?_,s.size⟩⟩;have k3:=c.key h4;obtain⟨x,hx⟩:=Option.isSome_iff_exists.1 (s.key.1 h4);rw[hx]at k3⊢;have hk:cZ x.1=3:=k3;refine⟨rfl,?_⟩;show x.1.size<=2000;have hm:x.1.toList∈kW:=by have:=lJ hk;simpa [g9]using this
 have hl:∀l∈kW,l.length<=2000:=by decide
 have:=hl _ hm;rw[ByteArray.toList_eq]at this;simpa using this
section
open Go.Maps Go.ChangeMaps Go.WideMaps Go.WideElems
attribute [local go_sem↓] Go.wp_at_zero Go.wp_at_succ
theorem Tryz.info105:(Tryz.prog.info? 105).map (fun i=>(i.zero,i.size,i.bytes))=some (some (.pointer none),1,8):=by kernel_rfl
def jc (z:List (am×Nat)):am->Option Nat:=z.foldl (fun mp x=>gW mp x.1 x.2) (fun _=>none)
theorem EB (z:List (am×Nat))(s:am)(b:Nat):jc (z++ [(s,b)])=gW (jc z) s b:=by simp[jc]
structure Dc (w0 wr:an)(kb:Nat)(v:Value)(z:List (am×Nat)):Prop where
 row:wr.ownsRow w0.heap.size 105 1 v z.length (dV (z.map (·.2)))
 map:eI wr kb z.length (jc z)
 msg:∀x∈z,de wr x.2 #[ae x.1,ah] 108/\w0.heap.size<=x.2/\v.ownBlock≠some x.2
 nd:(z.map (·.2)).Nodup
 kept:dl [kb] w0 wr
theorem eI.put {w w':an}{kb n:Nat}{mp:am->Option Nat}{s:am}{b:Nat}{D:DataW Unit}(h1:w.ownsMap Tryz.prog 9 eU kb n D)(h2:∀s:am,D.atKey (oy s) (lI none)=lI (mp s))
  (h:w'.ownsMap Tryz.prog 9 eU kb (n+1) (D.put (oy s) (lI (some b)))):eI w' kb (n+1) (gW mp s b):=⟨_,h,Hl (World.ownsMap.isMap h1) h2 s b⟩
theorem Dc.snoc {w0 wr w2 w5:an}{kb:Nat}{v v':Value}{z:List (am×Nat)}{s:am}(h:Dc w0 wr kb v z)(hkb:kb<w0.heap.size)
  (hg2:(wr.alloc (.cells #[ae s,ah] 108)).grownBy w2 (some kb)) (hm:eI w2 kb (z.length+1) (gW (jc z) s wr.heap.size)) {o:Obj}
  (hg5:(w2.alloc o).grownBy w5 v.ownBlock) (hown:w5.ownsRow w0.heap.size 105 1 v' (z.length+1) (dV (z.map (·.2))++ [ft (some wr.heap.size)])) (hloc:v'.ownBlock=v.ownBlock\/v'.ownBlock=some (w2.alloc o).heap.size):
  Dc w0 w5 kb v' (z++ [(s,wr.heap.size)]):=by
 have N7:=h.row.lt;have hsz:=h.kept.size;have hs2:wr.heap.size+1<=w2.heap.size:=by have:=hg2.size;simpa using this
 have N8:some kb≠v.ownBlock:=fun e=>by have:=(N7 _ e.symm).1;omega
 have N3:∀{b:Nat} {cs:Array Value} {T:TypeId},de (wr.alloc (.cells #[ae s,ah] 108)) b cs T->b≠kb->v.ownBlock≠some b->de w5 b cs T:=fun hb h1 h2=>
  ((hb.grown hg2 (fun e=>h1 (Option.some.inj e))).alloc o).grown hg5 (fun e=>h2 e.symm)
 have N2:∀x,x<w2.heap.size+1->v.ownBlock≠some x->v'.ownBlock≠some x:=fun x hx h1 e=>by
  rcases hloc with h2|h2
  ·exact h1 (h2▸e)
  ·rw[h2]at e;have:=Option.some.inj e;simp at this;omega
 refine⟨?_,?_,?_,?_,?_⟩
 ·rw[bH,aH];simp only[br,cT,bn,cy,oJ];exact hown
 ·rw[EB,aH];exact hm.keep ((hg5.block kb (by have:=hm.lt;simp;omega) N8).trans (Below.heap_alloc _ _ _ hm.lt))
 ·intro x hx
  rcases ba.1 hx with hx|hx
  ·obtain⟨m1,m2,m3⟩:=h.msg x hx;have:=m1.lt;exact⟨N3 (m1.alloc _) (by omega) m3,m2,N2 _ (by omega) m3⟩
  ·simp at hx;subst hx;have m3:v.ownBlock≠some wr.heap.size:=fun e=>by have:=(N7 _ e).2;omega
   exact⟨N3 (de.new _ _ _) (by show wr.heap.size≠kb;omega) m3,hsz,N2 _ (by show wr.heap.size<w2.heap.size+1;omega) m3⟩
 ·rw[bH,List.nodup_append];refine⟨h.nd,by simp,?_⟩;intro a ha c hc;obtain⟨x,hx,rfl⟩:=List.mem_map.1 ha;simp at hc;have:=(h.msg x hx).1.lt;omega
 ·refine⟨?_,?_,?_,?_,?_⟩
  ·rw[hg5.os];exact hg2.os.trans h.kept.os
  ·rw[hg5.tape];exact hg2.tape.trans h.kept.tape
  ·rw[hg5.output];exact hg2.output.trans h.kept.output
  ·have:=hg5.size;simp at this;omega
  ·intro k hk hn;have h1:(w2.alloc o).heap[k]?=w2.heap[k]?:=Below.heap_alloc _ _ _ (by omega);have h2:(wr.alloc (.cells #[ae s,ah] 108)).heap[k]?=wr.heap[k]?:=Below.heap_alloc _ _ _ (by omega);rw[hg5.block k (by simp;omega) (fun e=>by have:=(N7 _ e.symm).1;omega),h1,hg2.block k (by simp;omega) (fun e=>hn (by simp at e;simp[e])),h2];exact h.kept.block k hk hn
end
section
open Go.Maps
def eM (bs:List dh):List dh:=bs.filter fun b=> !b.enum
theorem gI (bs:List dh):dq bs=(eM bs).map fun b=>b.name.1:=rfl
def Mk (b:dh)(gs:List GF):Prop:=gs.Perm (rj b)/\gs.Pairwise (fun x y=>x.f.num<=y.f.num)
def Qz (w0:an)(z:List (am×Nat))(v:Value):ap:=fun b=>w0.heap.size<=b/\b∉z.map (·.2)/\v.ownBlock≠some b
abbrev YM:=(am×Nat)×List GF
def MI (w0 wr:an)(z:List (am×Nat))(v:Value)(m:YM):Prop:=
 ∃fv N3,de wr m.1.2 #[ae m.1.1,fv] 108/\dJ wr (Qz w0 z v) 212 1 fv N3.length (dV N3)/\eH wr (Qz w0 z v) (jc z) m.2 N3
structure pQ (w0 wr:an)(kb:Nat)(v:Value)(z:List (am×Nat))(done:List dh)(y:List YM):Prop where
 row:wr.ownsRow w0.heap.size 105 1 v z.length (dV (z.map (·.2)))
 map:eI wr kb z.length (jc z)
 zy:y.map (·.1)=z
 mi:∀m∈y,MI w0 wr z v m
 at_:∀x∈z,w0.heap.size<=x.2/\v.ownBlock≠some x.2
 nd:(z.map (·.2)).Nodup
 g:∀(i:Nat) (b:dh),(eM done)[i]?=some b->∃m:YM,y[i]?=some m/\Mk b m.2
 kept:dl [kb] w0 wr
theorem pQ.start {w0 wr:an}{kb:Nat}{v:Value}{z:List (am×Nat)}(h:Dc w0 wr kb v z):pQ w0 wr kb v z [] (z.map fun x=>(x,[]))where
 row:=h.row
 map:=h.map
 zy:=by rw[bz];exact List.map_id z
 mi:=by
  intro m hm;obtain⟨x,hx,rfl⟩:=List.mem_map.1 hm;exact⟨_,[],(h.msg x hx).1,dJ.nil0 _ _ _ _,rfl⟩
 at_:=fun x hx=>⟨(h.msg x hx).2.1,(h.msg x hx).2.2⟩
 nd:=h.nd
 g:=by intro i b hb;simp[eM]at hb
 kept:=h.kept
theorem pQ.on {w0 wr w2:an}{kb:Nat}{v:Value}{z:List (am×Nat)}{done:List dh}{y:List YM}(h:pQ w0 wr kb v z done y)(hb:aj wr w2):pQ w0 w2 kb v z done y where
 row:=dO hb h.row
 map:=h.map.keep (hb.block _ h.map.lt)
 zy:=h.zy
 mi:=fun m hm=>by
  obtain⟨fv,N3,h1,h2,h3⟩:=h.mi m hm;exact⟨fv,N3,h1.below hb h1.lt,h2.keep (fun b _ hl=>hb.block b hl),h3.keep (fun b _ hl=>hb.block b hl)⟩
 at_:=h.at_
 nd:=h.nd
 g:=h.g
 kept:=h.kept.trans (dl.of_below hb)
theorem pQ.enum {w0 wr:an}{kb:Nat}{v:Value}{z:List (am×Nat)}{done:List dh}{y:List YM}{b:dh}(h:pQ w0 wr kb v z done y)(he:b.enum=true):pQ w0 wr kb v z (done++ [b]) y where
 row:=h.row
 map:=h.map
 zy:=h.zy
 mi:=h.mi
 at_:=h.at_
 nd:=h.nd
 g:=by
  have:eM (done++ [b])=eM done:=by simp[eM,he]
  rw[this];exact h.g
 kept:=h.kept
theorem pQ.message {w0 w2:an}{kb:Nat}{v fv2:Value}{z:List (am×Nat)}{done:List dh}{y:List YM}{b:dh}{gs:List GF}{N3:au}{nm:am}{mbi lo:Nat}(h:pQ w0 w2 kb v z done y)(he:b.enum=false)(hkb:kb<w0.heap.size)
  (hz:z[(eM done).length]?=some (nm,mbi)) (hG:Mk b gs) (hlo:∀x,lo<=x->Qz w0 z v x) (hr:dJ w2 (fun x=>lo<=x) 212 1 fv2 N3.length (dV N3)) (hf:eH w2 (fun x=>lo<=x) (jc z) gs N3):
  ∃y',pQ w0 (w2.setCell (ai mbi 1) fv2) kb v z (done++ [b]) y':=by
 have N8:(nm,mbi)∈z:=aI hz;have N7:=h.at_ _ N8;have Ob:∀x,Qz w0 z v x->x≠mbi:=fun x hx e=>hx.2.1 (by rw[e];exact List.mem_map.2 ⟨_,N8,rfl⟩)
 have N2:∀x,x≠mbi->(w2.setCell (ai mbi 1) fv2).heap[x]?=w2.heap[x]?:=fun x hx=>by rw[dd,if_neg (fun e=>hx e.symm)]
 have hlen:y.length=z.length:=by rw[<-h.zy];simp
 have Oc:(eM done).length<y.length:=by
  rw[hlen]
  by_cases hq:(eM done).length<z.length
  ·exact hq
  ·rw[aQ (by omega)]at hz;cases hz
 refine⟨y.set (eM done).length ((nm,mbi),gs),?_⟩;have Oa:eM (done++ [b])=eM done++ [b]:=by simp[eM,he]
 refine⟨?_,?_,?_,?_,h.at_,h.nd,?_,?_⟩
 ·exact dz h.row (fun x hx=>N2 x (fun e=>N7.2 (by rw[hx,e])))
 ·exact h.map.keep (N2 kb (by show kb≠mbi;have:=N7.1;simp only at this;omega))
 ·rw[List.map_set,h.zy];apply List.ext_getElem?;intro j;rw[cV]
  split
  ·rename_i e
   subst e;rw[if_pos (by omega),hz]
  ·rfl
 ·intro m hm;obtain⟨j,hj⟩:=cI hm;rw[cV]at hj
  split at hj
  ·obtain rfl:=Option.some.inj hj;obtain⟨m0,Od⟩:∃m0,y[(eM done).length]?=some m0:=⟨_,aJ Oc⟩;obtain⟨fv,l,h1,_,_⟩:=h.mi m0 (aI Od)
   have e0:m0.1=(nm,mbi):=by
    have:z[(eM done).length]?=some m0.1:=by rw[<-h.zy,aO,Od];rfl
    rw[hz]at this;exact(Option.some.inj this).symm
   rw[e0]at h1;refine⟨fv2,N3,h1.set 1 fv2,?_,?_⟩
   ·exact(hr.mono (S':=Qz w0 z v) (fun x hx _=>hlo x hx)).keep (fun x hx _=>N2 x (Ob x hx))
   ·exact(hf.mono (Q:=Qz w0 z v) (fun x hx _=>hlo x hx)).keep (fun x hx _=>N2 x (Ob x hx))
  ·rename_i Oi
   have Oe:m∈y:=aI hj;have Of:z[j]?=some m.1:=by rw[<-h.zy,aO,hj];rfl
   have Og:m.1.2≠mbi:=by
    intro e;apply Oi;have e1:(z.map (·.2))[(eM done).length]?=some mbi:=by rw[aO,hz];rfl
    have e2:(z.map (·.2))[j]?=some mbi:=by rw[aO,Of,<-e];rfl
    exact(List.getElem?_inj (by rw[aV];omega) h.nd).1 (e1.trans e2.symm)
   obtain⟨fv,l,h1,h2,h3⟩:=h.mi m Oe;exact⟨fv,l,(N2 _ Og).trans h1,h2.keep (fun x hx _=>N2 x (Ob x hx)),h3.keep (fun x hx _=>N2 x (Ob x hx))⟩
 ·intro i c hc;rw[Oa,List.getElem?_append]at hc
  split at hc
  ·rename_i hi
   obtain⟨m,h1,h2⟩:=h.g i c hc;exact⟨m,by rw[cV,if_neg (by omega)];exact h1,h2⟩
  ·rename_i hi
   have Oh:i=(eM done).length:=by
    by_cases hq:i-(eM done).length=0
    ·omega
    ·rw[aQ (by simp;omega)]at hc;cases hc
   subst Oh;simp at hc;subst hc;exact⟨_,by rw[cV,if_pos rfl,if_pos Oc],hG⟩
 ·have hk:=h.kept;refine⟨hk.os,hk.tape,hk.output,by simpa using hk.size,fun k Oj Ok=> ?_⟩;rw[N2 k (by have:=N7.1;simp only at this;omega)];exact hk.block k Oj Ok
theorem vq {z:List (am×Nat)}{s:am}:∀{r:List (am×Nat)} {mp:am->Option Nat},(∀x∈r,x.1.toList≠s.toList)->r.foldl (fun mp x=>gW mp x.1 x.2) mp s=mp s
 | [],_,_=>rfl
 |x::r,mp,h=>by
  rw[List.foldl_cons,vq (z:=z) (fun y hy=>h y (bF _ hy))];unfold gW;rw[if_neg];unfold gy;simp;exact fun e=>h x bg e.symm
theorem BP:∀{r:List (am×Nat)} {mp:am->Option Nat} {s:am} {b:Nat},(r.map (·.1)).Pairwise (fun x y=>x.toList≠y.toList)->(s,b)∈r->r.foldl (fun mp x=>gW mp x.1 x.2) mp s=some b
 | [],_,_,_,_,h=>by simp at h
 |x::r,mp,s,b,hp,h=>by
  rw[List.foldl_cons];rw[br,bB]at hp
  rcases aL.1 h with rfl|h
  ·rw[vq (z:=r) (fun y hy e=>hp.1 y.1 (List.mem_map.2 ⟨y,hy,rfl⟩) e.symm)];unfold gW;rw[if_pos (by unfold gy;simp)]
  ·exact BP hp.2 h
theorem nZ {z:List (am×Nat)}{s:am}{b:Nat}(hp:(z.map (·.1)).Pairwise (fun x y=>x.toList≠y.toList))(h:(s,b)∈z):jc z s=some b:=BP hp h
end
end Go.Proofs.YtfebdimolnobaaaGreatDoor
