import Derived.Test.YtfebdimolnobaaaGreatDoorPmA
import Derived.Test.YtfebdimolnobaaaGreatDoorCkC
set_option maxRecDepth 100000
set_option maxHeartbeats 8000000
set_option linter.all false
namespace Go.Proofs.YtfebdimolnobaaaGreatDoor
open Go.RowKit Go.Proofs.Tryz
section
open Go.Maps
open Vo
section
variable {w:aw} {P:ax} {n eb:Nat}
theorem Fj {g k:Nat}{T:TypeId}{cs:aq}(h:dX w g cs T)(hp:P g)(hs:cs.size=n*k)(hm:n<=maxLen):eO w P T k (U9 g n n) n cs.toList:=by
 refine⟨⟨by simpa using hs,.inr ⟨g,n,cs,rfl,aP _,h,aE _,hm,hs,?_⟩⟩,λb hb=> ?_⟩;.rw[ch];simp[hs]
 .cases hb;exact hp
theorem eQ {a b c:aw}(h:Below a.heap.size a b)(k:Below b.heap.size b c):Below a.heap.size a c:=
 h.J ⟨k.os,k.tape,k.output,k.size,λi hi=>k.block i (aI hi h.size)⟩
theorem eO.nil0 (w:aw)(Z:ax)(T:TypeId)(k:Nat):eO w Z T k (ai) 0 []:=⟨br _ _ _ _,λb hb=>by cases hb⟩
theorem dX.newAt (h:n=w.heap.size)(cs:aq)(T:TypeId):dX (w.alloc (.cells cs T)) n cs T:=h▸dX.new w cs T
def ni (w:aw)(P:ax)(kb vb:Int)(kp vp:Value)(eb:Nat):Prop:=
 ∃fv b1 b2,dX w eb #[ag eS,fv] 108/\P eb/\eO w P 212 1 fv 2 (fx [b1,b2])/\
  (dX w b1 #[aa 1,aa 1,aa kb,kp,ai] 220/\P b1)/\(dX w b2 #[aa 2,aa 1,aa vb,vp,ai] 220/\P b2)
theorem ni.ent {mp:an}{k v:au}(h:ni w P (jB mp k) (jB mp v) (gZ (zH mp k)) (gZ (zH mp v)) eb):mJ w P mp k v eb:=by
 obtain⟨fv,b1,b2,h1,h2,h3,h4,h5⟩:=h;exact⟨fv,b1,b2,h1,h2,h3,⟨_,h4.1,h4.2,eO.nil0 _ _ _ _⟩,⟨_,h5.1,h5.2,eO.nil0 _ _ _ _⟩⟩
theorem ni.O {w':aw}(hk:∀b,P b->b<w.heap.size->w'.heap[b]?=w.heap[b]?){kb vb:Int}{kp vp:Value}(h:ni w P kb vb kp vp eb):ni w' P kb vb kp vp eb:=by
 obtain⟨fv,b1,b2,h1,h2,h3,h4,h5⟩:=h;exact⟨fv,b1,b2,(hk _ h2 h1.lt).J h1,h2,h3.O hk,⟨(hk _ h4.2 h4.1.lt).J h4.1,h4.2⟩,⟨(hk _ h5.2 h5.1.lt).J h5.1,h5.2⟩⟩
theorem ni.V {Q:ax}(hs:∀b,P b->Q b){kb vb:Int}{kp vp:Value}(h:ni w P kb vb kp vp eb):ni w Q kb vb kp vp eb:=by
 obtain⟨fv,b1,b2,h1,h2,h3,h4,h5⟩:=h;exact⟨fv,b1,b2,h1,hs _ h2,h3.V (λb hb _=>hs b hb),⟨h4.1,hs _ h4.2⟩,⟨h5.1,hs _ h5.2⟩⟩
theorem Ke {c o1 o2:Nat}{v1 v2:Value}{b:Nat}(h:c≠b):((w.setCell (aj c o1) v1).setCell (aj c o2) v2).heap[b]?=w.heap[b]?:=by
 rw[dW,dO h,dW,dO h]
theorem Oc (w:aw)(kb vb:Int)(kp vp:Value):
  Calls prog 166 #[.agg #[aa kb,kp],.agg #[aa vb,vp]] w λe w'=>∃eb,e= .returned (ah eb)/\ni w' (λb=>w.heap.size<=b) kb vb kp vp eb/\ak w w':=by
 go_in
 go_wp2;go_ret;have z:∀(u:aw) (o:Obj),(u.alloc o).heap.size=u.heap.size+1:=λu o=>Vd
 refine⟨_,rfl,⟨_,w.heap.size+1+1,w.heap.size+1+1+1,dX.newAt (by simp only[z]) _ _,Vc,Fj ((dX.newAt (by simp only[z]) _ _).alloc _) Vc rfl Vj,
  ⟨(((dX.newAt (by simp only[z]) _ _).alloc _).alloc _).alloc _,Vc⟩,⟨((dX.newAt (by simp only[z]) _ _).alloc _).alloc _,Vc⟩⟩,?_⟩
 exact(((((Vb w _).alloc (by simp only[z];omega) _).alloc (by simp only[z];omega) _).alloc (by simp only[z];omega) _).alloc (by simp only[z];omega) _).alloc (by simp only[z];omega) _
def Kf (w:aw)(mp:an)(f:eU)(e:Ending)(w':aw):Prop:=
 if f.form=4 then∃eb,e= .returned (.agg #[aa 16,ah eb])/\mJ w' (λb=>w.heap.size<=b) mp (jK f.key) f.type.1 eb
 else e= .returned (sO mp f.type.1)
theorem vN (w:aw)(b n:Nat)(mp:an)(f:eU)(hf:f.form=4)(H:gq w b n mp)(hk:mU f.key=dV (jK f.key))(hks:(jK f.key).size<=2000)(hts:f.type.1.size<=2000)(hb:BOK w):
  Calls prog 110 #[.map (some b),.agg (FC f)] w λe w'=>(∃eb,e= .returned (.agg #[aa 16,ah eb])/\mJ w' (λb=>w.heap.size<=b) mp (jK f.key) f.type.1 eb)/\ak w w':=by
 obtain⟨form,key,ty,nm,nu⟩:=f;dsimp only[FC]at hf hk hks hts⊢;subst hf;rw[hk];generalize hks':jK key=ks at*;obtain⟨ts,tp⟩:=ty;have B0:=((Va w).alloc (aE _) (am #[aa 4,aa (dV ks),ag ks,aa (nS key),aa (dV ts),ag ts,aa tp,aa (dV nm.1),ag nm.1,aa nm.2,aa (dV nu.1),ag nu.1,aa nu.2] 211)).alloc Vd (am #[aa 0,.pointer none] 216);have K0:=(dX.new w #[aa 4,aa (dV ks),ag ks,aa (nS key),aa (dV ts),ag ts,aa tp,aa (dV nm.1),ag nm.1,aa nm.2,aa (dV nu.1),ag nu.1,aa nu.2] 211).alloc (am #[aa 0,.pointer none] 216);have K1:dX ((w.alloc (am #[aa 4,aa (dV ks),ag ks,aa (nS key),aa (dV ts),ag ts,aa tp,aa (dV nm.1),ag nm.1,aa nm.2,aa (dV nu.1),ag nu.1,aa nu.2] 211)).alloc (am #[aa 0,.pointer none] 216)) (w.heap.size+1) #[aa 0,.pointer none] 216:=dX.newAt Vd _ _;go_in
 go_wp2_with fail;generalize((w.alloc (am #[aa 4,aa (dV ks),ag ks,aa (nS key),aa (dV ts),ag ts,aa tp,aa (dV nm.1),ag nm.1,aa nm.2,aa (dV nu.1),ag nu.1,aa nu.2] 211)).alloc (am #[aa 0,.pointer none] 216))=w1 at*;have B1:ak w w1.drew:=B0.drew;have KA:=K0.drew;have KB:=K1.drew;have z1:=K1.lt
 have Vp:Hid (U8 167 #[.map (some b),.agg #[aa (dV ks),ag ks,aa (nS key)]] w1.drew (λe w'=>e= .returned (.agg #[aa (jB mp ks),gZ (zH mp ks)])/\Below w1.drew.heap.size w1.drew w')):=
  xC _ b n mp ks (nS key) (H.O (B1.block _ H.lt)) hks (hb.O (B1.block _ hb.lt))
 have Vq:Hid (∀w2:aw,Below w1.drew.heap.size w1.drew w2->U8 167 #[.map (some b),.agg #[aa (dV ts),ag ts,aa tp]] w2 (λe w'=>e= .returned (.agg #[aa (jB mp ts),gZ (zH mp ts)])/\ak w2 w')):=
  λw2 h2=>xC w2 b n mp ts tp (H.O ((eQ B1 h2).block _ H.lt)) hts (hb.O ((eQ B1 h2).block _ hb.lt))
 have HE:Hid (∀(w':aw) (eb:Nat),ni w' (λb=>w.heap.size<=b) (jB mp ks) (jB mp ts) (gZ (zH mp ks)) (gZ (zH mp ts)) eb->mJ w' (λb=>w.heap.size<=b) mp ks ts eb):=λw' eb h=>h.ent
 generalize(jB mp ks:Int)=k1 at Vp Vq HE;generalize(jB mp ts:Int)=k2 at Vp Vq HE;generalize gZ (zH mp ks)=p1 at Vp Vq HE;generalize gZ (zH mp ts)=p2 at Vp Vq HE
 have Vr:Hid (∀w3:aw,U8 166 #[.agg #[aa k1,p1],.agg #[aa k2,p2]] w3 (λe w'=>∃eb,e= .returned (ah eb)/\ni w' (λb=>w3.heap.size<=b) k1 k2 p1 p2 eb/\ak w3 w')):=
  λw3=>Oc w3 k1 k2 p1 p2
 clear H hb hk hks hts B0;generalize(dV ks)=q1 at*;generalize(dV ts)=q2 at*;generalize(nS key:Int)=q3 at*;generalize(tp:Int)=q4 at*;clear hks';have a0:w1.drew.cell? (aj w.heap.size 1)=some (aa q1)/\w1.drew.cell? (aj w.heap.size 2)=some (ag ks)/\w1.drew.cell? (aj w.heap.size 3)=some (aa q3)/\w1.drew.cell? (aj w.heap.size 4)=some (aa q2)/\w1.drew.cell? (aj w.heap.size 5)=some (ag ts)/\w1.drew.cell? (aj w.heap.size 6)=some (aa q4):=⟨KA.cell 1,KA.cell 2,KA.cell 3,KA.cell 4,KA.cell 5,KA.cell 6⟩
 have HS:Hid (∀(u v:aw),Below u.heap.size u v->w.heap.size<u.heap.size->u.cell? (aj w.heap.size 1)=some (aa q1)/\u.cell? (aj w.heap.size 2)=some (ag ks)/\u.cell? (aj w.heap.size 3)=some (aa q3)/\u.cell? (aj w.heap.size 4)=some (aa q2)/\u.cell? (aj w.heap.size 5)=some (ag ts)/\u.cell? (aj w.heap.size 6)=some (aa q4)->
   v.cell? (aj w.heap.size 1)=some (aa q1)/\v.cell? (aj w.heap.size 2)=some (ag ks)/\v.cell? (aj w.heap.size 3)=some (aa q3)/\v.cell? (aj w.heap.size 4)=some (aa q2)/\v.cell? (aj w.heap.size 5)=some (ag ts)/\v.cell? (aj w.heap.size 6)=some (aa q4)):=
  λu v h hl ⟨h1,h2,h3,h4,h5,h6⟩=>⟨(h.cell (p:=(aj w.heap.size 1)) hl).J h1,(h.cell (p:=(aj w.heap.size 2)) hl).J h2,(h.cell (p:=(aj w.heap.size 3)) hl).J h3,(h.cell (p:=(aj w.heap.size 4)) hl).J h4,(h.cell (p:=(aj w.heap.size 5)) hl).J h5,(h.cell (p:=(aj w.heap.size 6)) hl).J h6⟩
 clear KA K0 K1;obtain⟨i1,i2,i3,i4,i5,i6⟩:=a0;have zd:w.heap.size<w1.drew.heap.size:=Nat.lt_of_succ_lt KB.lt;go_region_with (first|(go_at_call 167;refine(Vq.o w2 b2).V ?_;rintro e w3 ⟨rfl,b3⟩;have J3:=J2.G b3 J2.lt)|(go_at_call 167;refine Vp.o.V ?_;rintro e w2 ⟨rfl,b2⟩;have J2:=KB.G b2 KB.lt;have⟨j1,j2,j3,j4,j5,j6⟩:=HS.o _ _ b2 zd ⟨i1,i2,i3,i4,i5,i6⟩)|(go_at_call 166;refine(Vr.o w3).V ?_;rintro e w4 ⟨eb,rfl,hE,b4⟩;have J4:=J3.G b4 J3.lt;have⟨y7,y8⟩:=J4.I))
 all_goals
  go_wp2;refine dR (el results110 _ _ rfl ((J4.set 0 _).set 1 _) underlying216 Vh) rfl ⟨⟨eb,rfl,HE.o _ _ ?_⟩,?_⟩;.exact((hE.O (λb hb _=>Ke (by have:=J3.lt;omega))).V (λb hb=>by have:=J3.lt;omega))
  .exact((eQ (eQ (eQ B1 b2) b3) b4).setCell (p:=(aj (w.heap.size+1) 0)) (bG _) _).setCell (p:=(aj (w.heap.size+1) 1)) (bG _) _
theorem vO (w:aw)(b n:Nat)(mp:an)(f:eU)(hf:¬f.form=4)(H:gq w b n mp)(hts:f.type.1.size<=2000)(hb:BOK w):
  Calls prog 110 #[.map (some b),.agg (FC f)] w λe w'=>e= .returned (sO mp f.type.1)/\ak w w':=by
 have hd:(f.form==4)=false:=by simp[hf]
 have B0:=((Va w).alloc (aE _) (FO f)).alloc Vd (am #[aa 0,.pointer none] 216);have K1:dX ((w.alloc (FO f)).alloc (am #[aa 0,.pointer none] 216)) (w.heap.size+1) #[aa 0,.pointer none] 216:=dX.newAt Vd _ _
 have HC:Hid (∀w1:aw,ak w w1->U8 167 #[.map (some b),.agg #[aa (dV f.type.1),ag f.type.1,aa f.type.2]] w1 (λe w'=>e= .returned (.agg #[aa (jB mp f.type.1),gZ (zH mp f.type.1)])/\ak w1 w')):=
  λw1 h1=>xC w1 b n mp f.type.1 f.type.2 (H.O (h1.block _ H.lt)) hts (hb.O (h1.block _ hb.lt))
 unfold sO;generalize zH mp f.type.1=o at HC⊢;generalize(jB mp f.type.1:Int)=q at HC⊢;cases o
 all_goals
  unfold gZ at HC⊢;go_in
  go_wp2_with fail;generalize((w.alloc (FO f)).alloc (am #[aa 0,.pointer none] 216))=w1 at*;refine(HC.o w1 B0).V ?_;rintro e w2 ⟨rfl,b2⟩;have J2:=K1.G b2 K1.lt;have⟨y7,y8⟩:=J2.I;go_wp2;refine dR (el results110 _ _ rfl ((J2.set 0 _).set 1 _) underlying216 Vh) rfl ⟨rfl,?_⟩;exact((eQ B0 b2).setCell (p:=(aj (w.heap.size+1) 0)) (bG _) _).setCell (p:=(aj (w.heap.size+1) 1)) (bG _) _
structure Fk (f:eU):Prop where
 key:f.form=4->mU f.key=dV (jK f.key)/\(jK f.key).size<=2000
 ty:f.type.1.size<=2000
theorem Dy (w:aw)(b n:Nat)(mp:an)(f:eU)(hg:Fk f)(H:gq w b n mp)(hb:BOK w):
  U8 110 #[.map (some b),.agg (FC f)] w λe w'=>Kf w mp f e w'/\ak w w':=by
 unfold Kf;by_cases hf:f.form=4
 .refine(vN w b n mp f hf H (hg.key hf).1 (hg.key hf).2 hg.ty hb).V λe w' h=> ?_
  rw[dP hf];exact h
 .refine(vO w b n mp f hf H hg.ty hb).V λe w' h=> ?_
  rw[dO hf];exact h
end
def Tryz.info3:(prog.info? 3).map (λi=>(i.zero,i.size,i.bytes))=some (some (.int .i64 0),1,8):=Vh
def BC (f:eU):Prop:=lg f.num.1/\jc f.num.1<=536870911
def xD (f:eU)(l:List eU):List Int:=(l.filter λo=>decide (jC o≠jC f)).map jC
def IS (f o:eU)(l:List eU):xD f (l++ [o])=xD f l++(if jC o=jC f then []else [jC o]):=by
 unfold xD;by_cases h:jC o=jC f<;>simp[h]
def Kg (w:World)(p:fI)(f:eU)(fa:Option Addr)(fc:Nat)(S:Nat->Prop)(hrow:eO w S 211 13 (.slice fa p.fields.length fc) p.fields.length (p.fields.flatMap sF))(hlen:p.fields.length<=2001)
  (hf:BC f) (hps:∀o∈p.fields,BC o) (hg:GOK w):
  Calls prog 111 #[.agg #[.int .i64 (mU p.oneof),.string (jK p.oneof),.int .i64 (nS p.oneof),.slice fa p.fields.length fc],.agg (FC f)] w λe w'=>∃v,e= .returned v/\w'.ownsRow w.heap.size 3 1 v (qb p f).length (gB (qb p f))/\Below w.heap.size w w':=by
 have⟨i0,VT,VU,VV,VW⟩:=info_parts Tryz.info3;have B0:=((Va w).alloc (aE _) (Obj.cells #[.int .i64 (mU p.oneof),.string (jK p.oneof),.int .i64 (nS p.oneof),.slice fa p.fields.length fc] 208)).alloc Vd (FO f);have VL:dX ((w.U5 #[.int .i64 (mU p.oneof),.string (jK p.oneof),.int .i64 (nS p.oneof),.slice fa p.fields.length fc] 208).alloc (FO f)) (w.heap.size+1) (FC f) 211:=(by have:=dX.new (w.U5 #[.int .i64 (mU p.oneof),.string (jK p.oneof),.int .i64 (nS p.oneof),.slice fa p.fields.length fc] 208) (FC f) 211;simpa using this);have e0:qb p f=xD f p.fields:=rfl;rw[e0];go_in
 go_wp2;go_loopw [5,11] (λv i wr=>∃(k:Nat),k<=p.fields.length/\i= .int .i64 k/\wr.ownsRow w.heap.size 3 1 v (xD f (p.fields.take k)).length (gB (xD f (p.fields.take k)))/\dX wr (w.heap.size+1) (FC f) 211/\v.ownBlock≠some (w.heap.size+1)/\Below w.heap.size w wr) (λ_ i _=>p.fields.length-(intOf i).toNat)
 case atStart=>exact⟨0,aP _,rfl,br _ _ _ _,VL,(by intro h;cases h),B0⟩
 case round=>
  obtain⟨k,hk,rfl,Vp,KF,VF,CW⟩:=hrel;by_cases hlt:k<p.fields.length
  .have⟨o,ho⟩:=gx hlt;have VI:o∈p.fields:=aL ho;have Vr:p.fields.take (k+1)=p.fields.take k++ [o]:=by rw[bT,ho];rfl
   obtain⟨gf,rfl,_,VG,Vq⟩:=eH hrow.1 Vc;have VJ:=Vq wr (CW.block gf VG);have⟨t0,t1,t2,t3,t4,t5,t6,t7,t8,t9,VX,VY,VZ⟩:=xu ho VJ;have VB:=hps o VI;have KO:=dX.new wr (FC o) 211;have CA:=CW.alloc CW.size (FO o);have VM:=KF.alloc (FO o);have Vs:=Vp.alloc (FO o);have Vw:Hid (xD f (p.fields.take (k+1))=xD f (p.fields.take k)++(if jC o=jC f then []else [jC o])):=by rw[Vr];exact IS f o _
   have VN:(xD f (p.fields.take k)).length<=2001:=(by unfold xD;rw[bN];exact aM (bZ _ _) (by rw[bM];omega));generalize xD f (p.fields.take k)=L at Vp Vs Vw VN;clear Vq VJ ho VI Vr Vp KF;go_upto_region 5 with fail
   clear t0 t1 t2 t3 t4 t5 t6 t7 t8 t9 VX VY VZ;generalize hw1:wr.alloc (FO o)=w1 at*;have zo:wr.heap.size<w1.heap.size:=KO.lt;clear hw1;have VO:Hid (U8 109 #[.agg (FC o)] w1.drew (λe w'=>e= .returned (.int .i64 (jC o))/\Below w1.drew.heap.size w1.drew w')):=sN _ o VB.1 VB.2 (hg.O (CA.block _ hg.lt));have VP:Hid (∀w2:World,Below w1.drew.heap.size w1.drew w2->U8 109 #[.agg (FC f)] w2 (λe w'=>e= .returned (.int .i64 (jC f))/\Below w2.heap.size w2 w')):=λw2 h2=>sN w2 f hf.1 hf.2 (hg.O ((eQ CA.drew h2).block _ hg.lt))
   have VQ:Hid (∀w3:World,Below w.heap.size w w3->U8 109 #[.agg (FC o)] w3 (λe w'=>e= .returned (.int .i64 (jC o))/\Below w3.heap.size w3 w')):=λw3 h3=>sN w3 o VB.1 VB.2 (hg.O (h3.block _ hg.lt))
   have VR:Below w.heap.size w w1.drew:=CA.drew;have VC:=KO.drew;have Vx:=VM.drew;have Vy:w1.drew.ownsRow w.heap.size 3 1 u5 L.length (gB L):=Vs;have⟨o1,o2⟩:=VC.I;have⟨f1,f2⟩:=Vx.I;go_cut [11,19]from 11 to 25 (λi c wx=>i= .int .i64 (k:Int)/\c= .bool (!(jC o==jC f))/\Below w1.drew.heap.size w1.drew wx)
   case first=>
    go_region_with (first|(go_at_call 109;refine(VP.o w2 b2).V ?_;rintro e w3 ⟨rfl,b3⟩)|(go_at_call 109;refine VO.o.V ?_;rintro e w2 ⟨rfl,b2⟩;have⟨q1,q2⟩:=(Vx.G b2 Vx.lt).I))
    all_goals
     go_wp2;go_meet
     case rel=>exact⟨rfl,rfl,eQ b2 b3⟩
   case rest=>
    obtain⟨rfl,rfl,bc⟩:=hcut;have CC:=eQ VR bc;have Vt:=eX bc Vy;have VS:=VC.G bc VC.lt;have VD:=Vx.G bc Vx.lt;clear o1 o2 f1 f2;have⟨o1,o2⟩:=VS.I;cases hq:(jC o==jC f)
    .have VE:¬jC o=jC f:=by simpa using hq
     have Vz:=Vw.o;rw[dO VE]at Vz;go_wp2_with fail;refine(VQ.o wc CC).V ?_;rintro e w4 ⟨rfl,b4⟩;have C4:=eQ CC b4;have Vu:=eX b4 Vt;have VK:=VD.G b4 VD.lt;clear o1 o2;go_wp2_with (first|(at_builtin;refine wpList_append_own_at _ rfl _ _ 35 rfl w.heap.size 3 i0 _ 1 8 underlying35 VT VU VV VW rfl Vf u5 _ _ rfl (Vu.alloc _) _ 1 1 [_] rfl rfl (cell_one_new _ _ _) ?h1 ?h63 ?hby ?hba ?_;rotate_right;intro v' w5 VA Vv hnil VH))
     case h1=>intro u hu;simp at hu;subst hu;rfl
     case h63=>unfold maxLen;omega
     case hby=>omega
     case hba=>have:=C4.size;simp;omega
     refine⟨⟨k+1,Vc,by go_num,?_,?_,?_,?_⟩,by simp[intOf];omega⟩;.rw[Vz];simpa [gB]using VA
     .exact(VK.alloc _).grown Vv (λe=>VF e.sy)
     .intro e;rcases VH with h|h;.exact VF (h.sy.J e)
      .rw[h]at e;have e2:=Option.some.inj e;have:=VK.lt;simp at e2;omega
     .exact(C4.alloc C4.size _).grown Vv (by have:=C4.size;simp;omega) (λj hj=>(Vu.lt j hj).1)
    .have Vz:=Vw.o;rw[dP (by simpa using hq),bW]at Vz;go_wp2;go_roundw
     case rel=>exact⟨k+1,Vc,rfl,by rw[Vz];exact Vt,VD,VF,CC⟩
     case measure=>simp[intOf];omega
  .have hli:decide ((k:Int)<(p.fields.length:Int))=false:=Ve;obtain rfl:k=p.fields.length:=Vc;rw[bB]at Vp;go_wp2;go_ret;exact⟨_,rfl,Vp,CW⟩
end
section
open Vo
section
variable {w:aw} {P:ax} {mp:an}
def lu (x y:Int):Int:=if x<y then-1 else if y<x then 1 else 0
theorem nU (x y:Int):lu x y<0<->x<y:=by
 unfold lu;by_cases h:x<y;.simp[h]
 .by_cases h2:y<x<;>simp[h,h2]
theorem BD (x:Int)(w:aw):Calls prog 170 #[aa x] w λe w'=>e= .returned (.bool false)/\w'=w:=by
 go_in
 go_wp2;go_ret;exact⟨rfl,rfl⟩
theorem qR (x y:Int)(w:aw):Calls prog 114 #[aa x,aa y] w λe w'=>e= .returned (aa (lu x y))/\w'=w:=by
 unfold lu;by_cases h:x<y
 .rw[dP h];go_in
  go_wp2_with (first|(go_at_call 170;refine(BD _ _).V ?_;rintro e w' ⟨rfl,rfl⟩))
  go_ret;exact⟨rfl,rfl⟩
 .have hd:decide (x<y)=false:=by simp[h]
  rw[dO h];by_cases h2:y<x
  .rw[dP h2];go_in
   go_wp2_with (first|(go_at_call 170;refine(BD _ _).V ?_;rintro e w' ⟨rfl,rfl⟩))
   go_ret;exact⟨rfl,rfl⟩
  .have hd2:decide (y<x)=false:=by simp[h2]
   rw[dO h2];go_in
   go_wp2_with (first|(go_at_call 170;refine(BD _ _).V ?_;rintro e w' ⟨rfl,rfl⟩))
   go_ret;exact⟨rfl,rfl⟩
theorem eZ.cell0 {g:GF}{fb:Nat}(h:eZ w P mp g fb):w.cell? (aj fb 0)=some (aa g.f.num)/\P fb:=by
 unfold eZ at h;split at h;.obtain⟨rv,eb,h1,h2,_⟩:=h;exact⟨h1.cell 0,h2⟩
 .obtain⟨rv,h1,h2,_⟩:=h;exact⟨h1.cell 0,h2⟩
theorem gp.zip:∀{gs:List GF} {l:aB},gp w P mp gs l->∃z:List (GF×Nat),z.map (·.1)=gs/\z.map (·.2)=l/\∀x∈z,eZ w P mp x.1 x.2
 | [],_,h=>⟨[],rfl,h.sy,Vd⟩
 |g::gs,_,⟨b,r,h1,h2,h3⟩=>by
  have⟨z,e1,e2,e3⟩:=gp.zip h3;refine⟨(g,b)::z,by simp[e1],by simp[e2,h1],?_⟩;intro x hx;rcases aS.1 hx with rfl|hx;.exact h2
  .exact e3 x hx
theorem gp.of_zip:∀{z:List (GF×Nat)},(∀x∈z,eZ w P mp x.1 x.2)->gp w P mp (z.map (·.1)) (z.map (·.2))
 | [],_=>rfl
 |x::z,h=>⟨x.2,z.map (·.2),rfl,h x aZ,gp.of_zip (λy hy=>h y (aY _ hy))⟩
end
end
end Go.Proofs.YtfebdimolnobaaaGreatDoor
