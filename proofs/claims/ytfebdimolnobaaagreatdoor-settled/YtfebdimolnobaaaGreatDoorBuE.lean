import Derived.Test.YtfebdimolnobaaaGreatDoorCkE
import Derived.Shelf.SlSortCmp.Whole1
import Derived.Shelf.SlSortCmp.NoneTotal
import Derived.Laws.Bits64b
import Derived.Deep.CutBlock
set_option maxRecDepth 100000
set_option maxHeartbeats 8000000
set_option linter.all false
namespace Go.Proofs.YtfebdimolnobaaaGreatDoor
open Go.RowKit Go.Proofs.Tryz
section
open Go.Maps
section
variable {w:an} {P:ap} {n eb:Nat}
attribute [local go_sem↓] Go.wp_at_zero Go.wp_at_succ
theorem CN {g k:Nat}{T:TypeId}{cs:Array Value}(h:dK w g cs T)(hp:P g)(hs:cs.size=n*k)(hm:n<=maxLen):et w P T k (.slice (some (ai g 0)) n n) n cs.toList:=by
 refine⟨⟨by simpa using hs,.inr ⟨g,n,cs,rfl,aM _,h,ay _,hm,hs,?_⟩⟩,λb hb=> ?_⟩
 ·rw[bU];simp[hs]
 ·cases hb
  exact hp
theorem er {a b c:an}(h:Below a.heap.size a b)(k:Below b.heap.size b c):Below a.heap.size a c:=
 h.trans ⟨k.os,k.tape,k.output,k.size,λi hi=>k.block i (aC hi h.size)⟩
theorem et.nil0 (w:an)(Z:ap)(T:TypeId)(k:Nat):et w Z T k (ah) 0 []:=⟨bf _ _ _ _,λb hb=>by cases hb⟩
theorem dK.newAt (h:n=w.heap.size)(cs:Array Value)(T:TypeId):dK (w.alloc (.cells cs T)) n cs T:=h▸dK.new w cs T
def lT (w:an)(P:ap)(kb vb:Int)(kp vp:Value)(eb:Nat):Prop:=
 ∃fv b1 b2,dK w eb #[ae eS,fv] 108/\P eb/\et w P 212 1 fv 2 (eQ [b1,b2])/\
  (dK w b1 #[aa 1,aa 1,aa kb,kp,ah] 220/\P b1)/\(dK w b2 #[aa 2,aa 1,aa vb,vp,ah] 220/\P b2)
theorem lT.ent {mp:am->Option Nat}{k v:am}(h:lT w P (iU mp k) (iU mp v) (gC (wX mp k)) (gC (wX mp v)) eb):lB w P mp k v eb:=by
 obtain⟨fv,b1,b2,h1,h2,h3,h4,h5⟩:=h;exact⟨fv,b1,b2,h1,h2,h3,⟨_,h4.1,h4.2,et.nil0 _ _ _ _⟩,⟨_,h5.1,h5.2,et.nil0 _ _ _ _⟩⟩
theorem lT.keep {w':an}(hk:∀b,P b->b<w.heap.size->w'.heap[b]?=w.heap[b]?){kb vb:Int}{kp vp:Value}(h:lT w P kb vb kp vp eb):lT w' P kb vb kp vp eb:=by
 obtain⟨fv,b1,b2,h1,h2,h3,h4,h5⟩:=h;exact⟨fv,b1,b2,(hk _ h2 h1.lt).trans h1,h2,h3.keep hk,⟨(hk _ h4.2 h4.1.lt).trans h4.1,h4.2⟩,⟨(hk _ h5.2 h5.1.lt).trans h5.1,h5.2⟩⟩
theorem lT.mono {Q:ap}(hs:∀b,P b->Q b){kb vb:Int}{kp vp:Value}(h:lT w P kb vb kp vp eb):lT w Q kb vb kp vp eb:=by
 obtain⟨fv,b1,b2,h1,h2,h3,h4,h5⟩:=h;exact⟨fv,b1,b2,h1,hs _ h2,h3.mono (λb hb _=>hs b hb),⟨h4.1,hs _ h4.2⟩,⟨h5.1,hs _ h5.2⟩⟩
theorem Gz {c o1 o2:Nat}{v1 v2:Value}{b:Nat}(h:c≠b):((w.setCell (ai c o1) v1).setCell (ai c o2) v2).heap[b]?=w.heap[b]?:=by
 rw[dJ,dA h,dJ,dA h]
theorem JM (w:an)(kb vb:Int)(kp vp:Value):
  Calls prog 166 #[.agg #[aa kb,kp],.agg #[aa vb,vp]] w λe w'=>∃eb,e= .returned (ag eb)/\lT w' (λb=>w.heap.size<=b) kb vb kp vp eb/\aj w w':=by
 go_enter func166,ntmps166;go_wp2;go_ret;have z:∀(u:an) (o:Obj),(u.alloc o).heap.size=u.heap.size+1:=λu o=>QE
 refine⟨_,rfl,⟨_,w.heap.size+1+1,w.heap.size+1+1+1,dK.newAt (by simp only[z]) _ _,QD,CN ((dK.newAt (by simp only[z]) _ _).alloc _) QD rfl QK,
  ⟨(((dK.newAt (by simp only[z]) _ _).alloc _).alloc _).alloc _,QD⟩,⟨((dK.newAt (by simp only[z]) _ _).alloc _).alloc _,QD⟩⟩,?_⟩
 exact((((((Below.refl w.heap.size w).alloc (ay _) _).alloc (by simp only[z];omega) _).alloc (by simp only[z];omega) _).alloc (by simp only[z];omega) _).alloc (by simp only[z];omega) _).alloc (by simp only[z];omega) _
def GA (w:an)(mp:am->Option Nat)(f:eD)(e:Ending)(w':an):Prop:=
 if f.form=4 then∃eb,e= .returned (.agg #[aa 16,ag eb])/\lB w' (λb=>w.heap.size<=b) mp (jm f.key) f.type.1 eb
 else e= .returned (qY mp f.type.1)
theorem tM (w:an)(b n:Nat)(mp:am->Option Nat)(f:eD)(hf:f.form=4)(H:fR w b n mp)(hk:mE f.key=dH (jm f.key))(hks:(jm f.key).size<=2000)(hts:f.type.1.size<=2000)(hb:BOK w):
  Calls prog 110 #[.map (some b),.agg (FC f)] w λe w'=>(∃eb,e= .returned (.agg #[aa 16,ag eb])/\lB w' (λb=>w.heap.size<=b) mp (jm f.key) f.type.1 eb)/\aj w w':=by
 obtain⟨form,key,ty,nm,nu⟩:=f;dsimp only[FC]at hf hk hks hts⊢;subst hf;rw[hk];generalize hks':jm key=ks at*;obtain⟨ts,tp⟩:=ty;have B0:=((Below.refl w.heap.size w).alloc (ay _) (ak #[aa 4,aa (dH ks),ae ks,aa (mA key),aa (dH ts),ae ts,aa tp,aa (dH nm.1),ae nm.1,aa nm.2,aa (dH nu.1),ae nu.1,aa nu.2] 211)).alloc QE (ak #[aa 0,.pointer none] 216);have K0:=(dK.new w #[aa 4,aa (dH ks),ae ks,aa (mA key),aa (dH ts),ae ts,aa tp,aa (dH nm.1),ae nm.1,aa nm.2,aa (dH nu.1),ae nu.1,aa nu.2] 211).alloc (ak #[aa 0,.pointer none] 216);have K1:dK ((w.alloc (ak #[aa 4,aa (dH ks),ae ks,aa (mA key),aa (dH ts),ae ts,aa tp,aa (dH nm.1),ae nm.1,aa nm.2,aa (dH nu.1),ae nu.1,aa nu.2] 211)).alloc (ak #[aa 0,.pointer none] 216)) (w.heap.size+1) #[aa 0,.pointer none] 216:=dK.newAt QE _ _;go_enter func110,ntmps110;go_wp2_with fail;generalize((w.alloc (ak #[aa 4,aa (dH ks),ae ks,aa (mA key),aa (dH ts),ae ts,aa tp,aa (dH nm.1),ae nm.1,aa nm.2,aa (dH nu.1),ae nu.1,aa nu.2] 211)).alloc (ak #[aa 0,.pointer none] 216))=w1 at*;have B1:aj w w1.drew:=B0.drew;have KA:=K0.drew;have KB:=K1.drew;have z1:=K1.lt
 have QP:Hid (Calls prog 167 #[.map (some b),.agg #[aa (dH ks),ae ks,aa (mA key)]] w1.drew (λe w'=>e= .returned (.agg #[aa (iU mp ks),gC (wX mp ks)])/\Below w1.drew.heap.size w1.drew w')):=
  uV _ b n mp ks (mA key) (H.keep (B1.block _ H.lt)) hks (hb.keep (B1.block _ hb.lt))
 have QQ:Hid (∀w2:an,Below w1.drew.heap.size w1.drew w2->Calls prog 167 #[.map (some b),.agg #[aa (dH ts),ae ts,aa tp]] w2 (λe w'=>e= .returned (.agg #[aa (iU mp ts),gC (wX mp ts)])/\aj w2 w')):=
  λw2 h2=>uV w2 b n mp ts tp (H.keep ((er B1 h2).block _ H.lt)) hts (hb.keep ((er B1 h2).block _ hb.lt))
 have HE:Hid (∀(w':an) (eb:Nat),lT w' (λb=>w.heap.size<=b) (iU mp ks) (iU mp ts) (gC (wX mp ks)) (gC (wX mp ts)) eb->lB w' (λb=>w.heap.size<=b) mp ks ts eb):=λw' eb h=>h.ent
 generalize(iU mp ks:Int)=k1 at QP QQ HE;generalize(iU mp ts:Int)=k2 at QP QQ HE;generalize gC (wX mp ks)=p1 at QP QQ HE;generalize gC (wX mp ts)=p2 at QP QQ HE
 have QR:Hid (∀w3:an,Calls prog 166 #[.agg #[aa k1,p1],.agg #[aa k2,p2]] w3 (λe w'=>∃eb,e= .returned (ag eb)/\lT w' (λb=>w3.heap.size<=b) k1 k2 p1 p2 eb/\aj w3 w')):=
  λw3=>JM w3 k1 k2 p1 p2
 clear H hb hk hks hts B0;generalize(dH ks)=q1 at*;generalize(dH ts)=q2 at*;generalize(mA key:Int)=q3 at*;generalize(tp:Int)=q4 at*;clear hks';have a0:w1.drew.cell? (ai w.heap.size 1)=some (aa q1)/\w1.drew.cell? (ai w.heap.size 2)=some (ae ks)/\w1.drew.cell? (ai w.heap.size 3)=some (aa q3)/\w1.drew.cell? (ai w.heap.size 4)=some (aa q2)/\w1.drew.cell? (ai w.heap.size 5)=some (ae ts)/\w1.drew.cell? (ai w.heap.size 6)=some (aa q4):=⟨KA.cell 1,KA.cell 2,KA.cell 3,KA.cell 4,KA.cell 5,KA.cell 6⟩
 have HS:Hid (∀(u v:an),Below u.heap.size u v->w.heap.size<u.heap.size->u.cell? (ai w.heap.size 1)=some (aa q1)/\u.cell? (ai w.heap.size 2)=some (ae ks)/\u.cell? (ai w.heap.size 3)=some (aa q3)/\u.cell? (ai w.heap.size 4)=some (aa q2)/\u.cell? (ai w.heap.size 5)=some (ae ts)/\u.cell? (ai w.heap.size 6)=some (aa q4)->
   v.cell? (ai w.heap.size 1)=some (aa q1)/\v.cell? (ai w.heap.size 2)=some (ae ks)/\v.cell? (ai w.heap.size 3)=some (aa q3)/\v.cell? (ai w.heap.size 4)=some (aa q2)/\v.cell? (ai w.heap.size 5)=some (ae ts)/\v.cell? (ai w.heap.size 6)=some (aa q4)):=
  λu v h hl ⟨h1,h2,h3,h4,h5,h6⟩=>⟨(h.cell (p:=(ai w.heap.size 1)) hl).trans h1,(h.cell (p:=(ai w.heap.size 2)) hl).trans h2,(h.cell (p:=(ai w.heap.size 3)) hl).trans h3,(h.cell (p:=(ai w.heap.size 4)) hl).trans h4,(h.cell (p:=(ai w.heap.size 5)) hl).trans h5,(h.cell (p:=(ai w.heap.size 6)) hl).trans h6⟩
 clear KA K0 K1;obtain⟨i1,i2,i3,i4,i5,i6⟩:=a0;have zd:w.heap.size<w1.drew.heap.size:=Nat.lt_of_succ_lt KB.lt;go_region_with (first|(go_at_call 167;refine(QQ.out w2 b2).mono ?_;rintro e w3 ⟨rfl,b3⟩;have J3:=J2.below b3 J2.lt)|(go_at_call 167;refine QP.out.mono ?_;rintro e w2 ⟨rfl,b2⟩;have J2:=KB.below b2 KB.lt;obtain⟨j1,j2,j3,j4,j5,j6⟩:=HS.out _ _ b2 zd ⟨i1,i2,i3,i4,i5,i6⟩)|(go_at_call 166;refine(QR.out w3).mono ?_;rintro e w4 ⟨eb,rfl,hE,b4⟩;have J4:=J3.below b4 J3.lt;obtain⟨y7,y8⟩:=J4.rules))
 all_goals
  go_wp2;refine dE (dZ results110 _ _ rfl ((J4.set 0 _).set 1 _) underlying216 QI) rfl ⟨⟨eb,rfl,HE.out _ _ ?_⟩,?_⟩
  ·exact((hE.keep (λb hb _=>Gz (by have:=J3.lt;omega))).mono (λb hb=>by have:=J3.lt;omega))
  ·exact((er (er (er B1 b2) b3) b4).setCell (p:=(ai (w.heap.size+1) 0)) (bI _) _).setCell (p:=(ai (w.heap.size+1) 1)) (bI _) _
theorem tN (w:an)(b n:Nat)(mp:am->Option Nat)(f:eD)(hf:¬f.form=4)(H:fR w b n mp)(hts:f.type.1.size<=2000)(hb:BOK w):
  Calls prog 110 #[.map (some b),.agg (FC f)] w λe w'=>e= .returned (qY mp f.type.1)/\aj w w':=by
 have hd:(f.form==4)=false:=by simp[hf]
 have B0:=((Below.refl w.heap.size w).alloc (ay _) (FO f)).alloc QE (ak #[aa 0,.pointer none] 216);have K1:dK ((w.alloc (FO f)).alloc (ak #[aa 0,.pointer none] 216)) (w.heap.size+1) #[aa 0,.pointer none] 216:=dK.newAt QE _ _
 have HC:Hid (∀w1:an,aj w w1->Calls prog 167 #[.map (some b),.agg #[aa (dH f.type.1),ae f.type.1,aa f.type.2]] w1 (λe w'=>e= .returned (.agg #[aa (iU mp f.type.1),gC (wX mp f.type.1)])/\aj w1 w')):=
  λw1 h1=>uV w1 b n mp f.type.1 f.type.2 (H.keep (h1.block _ H.lt)) hts (hb.keep (h1.block _ hb.lt))
 unfold qY;generalize wX mp f.type.1=o at HC⊢;generalize(iU mp f.type.1:Int)=q at HC⊢
 cases o
 all_goals
  unfold gC at HC⊢;go_enter func110,ntmps110;go_wp2_with fail;generalize((w.alloc (FO f)).alloc (ak #[aa 0,.pointer none] 216))=w1 at*;refine(HC.out w1 B0).mono ?_;rintro e w2 ⟨rfl,b2⟩;have J2:=K1.below b2 K1.lt;obtain⟨y7,y8⟩:=J2.rules;go_wp2;refine dE (dZ results110 _ _ rfl ((J2.set 0 _).set 1 _) underlying216 QI) rfl ⟨rfl,?_⟩;exact((er B0 b2).setCell (p:=(ai (w.heap.size+1) 0)) (bI _) _).setCell (p:=(ai (w.heap.size+1) 1)) (bI _) _
structure CO (f:eD):Prop where
 key:f.form=4->mE f.key=dH (jm f.key)/\(jm f.key).size<=2000
 ty:f.type.1.size<=2000
theorem AY (w:an)(b n:Nat)(mp:am->Option Nat)(f:eD)(hg:CO f)(H:fR w b n mp)(hb:BOK w):
  Calls prog 110 #[.map (some b),.agg (FC f)] w λe w'=>GA w mp f e w'/\aj w w':=by
 unfold GA
 by_cases hf:f.form=4
 ·refine(tM w b n mp f hf H (hg.key hf).1 (hg.key hf).2 hg.ty hb).mono λe w' h=> ?_
  rw[dB hf];exact h
 ·refine(tN w b n mp f hf H hg.ty hb).mono λe w' h=> ?_
  rw[dA hf];exact h
end
end
section
open Go.Maps
attribute [local go_sem↓] Go.wp_at_zero Go.wp_at_succ
theorem Tryz.info3:(Tryz.prog.info? 3).map (fun i=>(i.zero,i.size,i.bytes))=some (some (.int .i64 0),1,8):=by kernel_rfl
def za (f:eD):Prop:=iX f.num.1/\gA f.num.1<=536870911
def uW (f:eD)(l:List eD):List Int:=(l.filter fun o=>decide (iY o≠iY f)).map iY
theorem Fd (f o:eD)(l:List eD):uW f (l++ [o])=uW f l++(if iY o=iY f then []else [iY o]):=by
 unfold uW
 by_cases h:iY o=iY f<;>simp[h]
theorem GB (w:World)(p:fC)(f:eD)(fa:Option Addr)(fc:Nat)(S:Nat->Prop)(hrow:et w S 211 13 (.slice fa p.fields.length fc) p.fields.length (p.fields.flatMap p6))(hlen:p.fields.length<=2001)
  (hf:za f) (hps:∀o∈p.fields,za o) (hg:GOK w):
  Calls Tryz.prog 111 #[.agg #[.int .i64 (mE p.oneof),.string (jm p.oneof),.int .i64 (mA p.oneof),.slice fa p.fields.length fc],.agg (FC f)] w fun e w'=>∃v,e= .returned v/\w'.ownsRow w.heap.size 3 1 v (oE p f).length (fV (oE p f))/\Below w.heap.size w w':=by
 obtain⟨i0,Rk,Rl,Rm,Rn⟩:=info_parts Tryz.info3;have B0:=((Below.refl w.heap.size w).alloc (ay _) (Obj.cells #[.int .i64 (mE p.oneof),.string (jm p.oneof),.int .i64 (mA p.oneof),.slice fa p.fields.length fc] 208)).alloc (by simp) (FO f)
 have Rb:dK ((w.alloc (Obj.cells #[.int .i64 (mE p.oneof),.string (jm p.oneof),.int .i64 (mA p.oneof),.slice fa p.fields.length fc] 208)).alloc (FO f)) (w.heap.size+1) (FC f) 211:=by
  have:=dK.new (w.alloc (Obj.cells #[.int .i64 (mE p.oneof),.string (jm p.oneof),.int .i64 (mA p.oneof),.slice fa p.fields.length fc] 208)) (FC f) 211;simpa using this
 have e0:oE p f=uW f p.fields:=rfl;rw[e0];go_enter Tryz.func111,Tryz.ntmps111;go_wp2;go_loopw [5,11] (fun v i wr=>∃(k:Nat),k<=p.fields.length/\i= .int .i64 k/\wr.ownsRow w.heap.size 3 1 v (uW f (p.fields.take k)).length (fV (uW f (p.fields.take k)))/\dK wr (w.heap.size+1) (FC f) 211/\v.ownBlock≠some (w.heap.size+1)/\Below w.heap.size w wr) (fun _ i _=>p.fields.length-(intOf i).toNat)
 case atStart=>exact⟨0,aM _,rfl,bf _ _ _ _,Rb,(by intro h;cases h),B0⟩
 case round=>
  obtain⟨k,hk,rfl,QP,KF,Q5,CW⟩:=hrel
  by_cases hlt:k<p.fields.length
  ·obtain⟨o,ho⟩:=gx hlt;have Q8:o∈p.fields:=aI ho;have QR:p.fields.take (k+1)=p.fields.take k++ [o]:=by rw[bB,ho];rfl
   obtain⟨gf,rfl,_,Q6,QQ⟩:=eh hrow.1 (by omega);have Q9:=QQ wr (CW.block gf Q6);obtain⟨t0,t1,t2,t3,t4,t5,t6,t7,t8,t9,Ro,Rp,Rq⟩:=qU ho Q9;have Q1:=hps o Q8;have KO:=dK.new wr (FC o) 211;have CA:=CW.alloc CW.size (FO o);have Rc:=KF.alloc (FO o);have QS:=QP.alloc (FO o);have QW:Hid (uW f (p.fields.take (k+1))=uW f (p.fields.take k)++(if iY o=iY f then []else [iY o])):=by rw[QR];exact Fd f o _
   have Re:(uW f (p.fields.take k)).length<=2001:=by
    unfold uW;rw[bm];exact aH (bW _ _) (by rw[bn];omega)
   generalize uW f (p.fields.take k)=L at QP QS QW Re;clear QQ Q9 ho Q8 QR QP KF;go_upto_region 5 with fail
   clear t0 t1 t2 t3 t4 t5 t6 t7 t8 t9 Ro Rp Rq;generalize hw1:wr.alloc (FO o)=w1 at*;have zo:wr.heap.size<w1.heap.size:=KO.lt;clear hw1;have Rf:Hid (Calls Tryz.prog 109 #[.agg (FC o)] w1.drew (fun e w'=>e= .returned (.int .i64 (iY o))/\Below w1.drew.heap.size w1.drew w')):=qX _ o Q1.1 Q1.2 (hg.keep (CA.block _ hg.lt));have Rg:Hid (∀w2:World,Below w1.drew.heap.size w1.drew w2->Calls Tryz.prog 109 #[.agg (FC f)] w2 (fun e w'=>e= .returned (.int .i64 (iY f))/\Below w2.heap.size w2 w')):=fun w2 h2=>qX w2 f hf.1 hf.2 (hg.keep ((er CA.drew h2).block _ hg.lt))
   have Rh:Hid (∀w3:World,Below w.heap.size w w3->Calls Tryz.prog 109 #[.agg (FC o)] w3 (fun e w'=>e= .returned (.int .i64 (iY o))/\Below w3.heap.size w3 w')):=fun w3 h3=>qX w3 o Q1.1 Q1.2 (hg.keep (h3.block _ hg.lt))
   have Ri:Below w.heap.size w w1.drew:=CA.drew;have Q2:=KO.drew;have QX:=Rc.drew;have QY:w1.drew.ownsRow w.heap.size 3 1 u5 L.length (fV L):=QS;obtain⟨o1,o2⟩:=Q2.rules;obtain⟨f1,f2⟩:=QX.rules;go_cut [11,19]from 11 to 25 (fun i c wx=>i= .int .i64 (k:Int)/\c= .bool (!(iY o==iY f))/\Below w1.drew.heap.size w1.drew wx)
   case first=>
    go_region_with (first|(go_at_call 109;refine(Rg.out w2 b2).mono ?_;rintro e w3 ⟨rfl,b3⟩)|(go_at_call 109;refine Rf.out.mono ?_;rintro e w2 ⟨rfl,b2⟩;obtain⟨q1,q2⟩:=(QX.below b2 QX.lt).rules))
    all_goals
     go_wp2;go_meet
     case rel=>exact⟨rfl,rfl,er b2 b3⟩
   case rest=>
    obtain⟨rfl,rfl,bc⟩:=hcut;have CC:=er Ri bc;have QT:=eF bc QY;have Rj:=Q2.below bc Q2.lt;have Q3:=QX.below bc QX.lt;clear o1 o2 f1 f2;obtain⟨o1,o2⟩:=Rj.rules
    cases hq:(iY o==iY f)
    ·have Q4:¬iY o=iY f:=by simpa using hq
     have QZ:=QW.out;rw[if_neg Q4]at QZ;go_wp2_with fail;refine(Rh.out wc CC).mono ?_;rintro e w4 ⟨rfl,b4⟩;have C4:=er CC b4;have QU:=eF b4 QT;have Ra:=Q3.below b4 Q3.lt;clear o1 o2;go_wp2_with (first|(at_builtin;refine wpList_append_own_at _ rfl _ _ 35 rfl w.heap.size 3 i0 _ 1 8 Tryz.underlying35 Rk Rl Rm Rn rfl (by decide) u5 _ _ rfl (QU.alloc _) _ 1 1 [_] rfl rfl (cell_one_new _ _ _) ?h1 ?h63 ?hby ?hba ?_;rotate_right;intro v' w5 Q0 QV hnil Q7))
     case h1=>intro u hu;simp at hu;subst hu;rfl
     case h63=>unfold maxLen;omega
     case hby=>omega
     case hba=>have:=C4.size;simp;omega
     refine⟨⟨k+1,by omega,by go_num,?_,?_,?_,?_⟩,by simp[intOf];omega⟩
     ·rw[QZ];simpa [fV]using Q0
     ·exact(Ra.alloc _).grown QV (fun e=>Q5 e.symm)
     ·intro e
      rcases Q7 with h|h
      ·exact Q5 (h.symm.trans e)
      ·rw[h]at e;have e2:=Option.some.inj e;have:=Ra.lt;simp at e2;omega
     ·exact(C4.alloc C4.size _).grown QV (by have:=C4.size;simp;omega) (fun j hj=>(QU.lt j hj).1)
    ·have QZ:=QW.out;rw[if_pos (by simpa using hq),bK]at QZ;go_wp2;go_roundw
     case rel=>exact⟨k+1,by omega,rfl,by rw[QZ];exact QT,Q3,Q5,CC⟩
     case measure=>simp[intOf];omega
  ·have hli:decide ((k:Int)<(p.fields.length:Int))=false:=by simp;omega
   obtain rfl:k=p.fields.length:=by omega
   rw[bg]at QP;go_wp2;go_ret;exact⟨_,rfl,QP,CW⟩
end
section
variable {w:an} {P:ap} {mp:am->Option Nat}
attribute [local go_sem↓] Go.wp_at_zero Go.wp_at_succ
def jV (x y:Int):Int:=if x<y then-1 else if y<x then 1 else 0
theorem mI (x y:Int):jV x y<0<->x<y:=by
 unfold jV
 by_cases h:x<y
 ·simp[h]
 ·by_cases h2:y<x<;>simp[h,h2]
theorem zb (x:Int)(w:an):Calls prog 170 #[aa x] w λe w'=>e= .returned (.bool false)/\w'=w:=by
 go_enter func170,ntmps170;go_wp2;go_ret;exact⟨rfl,rfl⟩
theorem pF (x y:Int)(w:an):Calls prog 114 #[aa x,aa y] w λe w'=>e= .returned (aa (jV x y))/\w'=w:=by
 unfold jV
 by_cases h:x<y
 ·rw[dB h];go_enter func114,ntmps114;go_wp2_with (first|(go_at_call 170;refine(zb _ _).mono ?_;rintro e w' ⟨rfl,rfl⟩))
  go_ret;exact⟨rfl,rfl⟩
 ·have hd:decide (x<y)=false:=by simp[h]
  rw[dA h]
  by_cases h2:y<x
  ·rw[dB h2];go_enter func114,ntmps114;go_wp2_with (first|(go_at_call 170;refine(zb _ _).mono ?_;rintro e w' ⟨rfl,rfl⟩))
   go_ret;exact⟨rfl,rfl⟩
  ·have hd2:decide (y<x)=false:=by simp[h2]
   rw[dA h2];go_enter func114,ntmps114;go_wp2_with (first|(go_at_call 170;refine(zb _ _).mono ?_;rintro e w' ⟨rfl,rfl⟩))
   go_ret;exact⟨rfl,rfl⟩
theorem eG.cell0 {g:GF}{fb:Nat}(h:eG w P mp g fb):w.cell? (ai fb 0)=some (aa g.f.num)/\P fb:=by
 unfold eG at h
 split at h
 ·obtain⟨rv,eb,h1,h2,_⟩:=h;exact⟨h1.cell 0,h2⟩
 ·obtain⟨rv,h1,h2,_⟩:=h;exact⟨h1.cell 0,h2⟩
theorem fQ.zip:∀{gs:List GF} {l:au},fQ w P mp gs l->∃z:List (GF×Nat),z.map (·.1)=gs/\z.map (·.2)=l/\∀x∈z,eG w P mp x.1 x.2
 | [],_,h=>⟨[],rfl,h.symm,QE⟩
 |g::gs,_,⟨b,r,h1,h2,h3⟩=>by
  obtain⟨z,e1,e2,e3⟩:=fQ.zip h3;refine⟨(g,b)::z,by simp[e1],by simp[e2,h1],?_⟩;intro x hx
  rcases aN.1 hx with rfl|hx
  ·exact h2
  ·exact e3 x hx
theorem fQ.of_zip:∀{z:List (GF×Nat)},(∀x∈z,eG w P mp x.1 x.2)->fQ w P mp (z.map (·.1)) (z.map (·.2))
 | [],_=>rfl
 |x::z,h=>⟨x.2,z.map (·.2),rfl,h x aT,fQ.of_zip (λy hy=>h y (be _ hy))⟩
end
end Go.Proofs.YtfebdimolnobaaaGreatDoor
namespace Go.Proofs
open Go.Shelf
def Tryz.sortF_ren:Go.Shelf.Ren:=⟨fun|6=>112|15=>169|14=>168|28=>254|29=>255|20=>246|21=>247|22=>248|23=>249|24=>250|25=>251|26=>252|27=>253|46=>331|47=>332|48=>333|49=>334|50=>335|57=>400|n=>n,fun|22=>106|24=>212|25=>222|3=>3|39=>295|0=>0|53=>164|55=>53|4=>4|46=>367|45=>366|50=>331|5=>5|9=>9|66=>428|70=>431|76=>468|77=>469|n=>n,fun|n=>n⟩
theorem Tryz.sortF:Go.Proofs.SlLaysF.n6 Tryz.prog Tryz.sortF_ren:={
 mixed:=by kernel_rfl
 f6:=⟨Tryz.f112.name,by decide,Tryz.func112.trans (congrArg some (by kernel_rfl))⟩
 f14:=⟨Tryz.f168.name,by decide,Tryz.func168.trans (congrArg some (by kernel_rfl))⟩
 f15:=Tryz.func169.trans (congrArg some (by kernel_rfl))
 f20:=⟨Tryz.f246.name,by decide,Tryz.func246.trans (congrArg some (by kernel_rfl))⟩
 f21:=⟨Tryz.f247.name,by decide,Tryz.func247.trans (congrArg some (by kernel_rfl))⟩
 f22:=⟨Tryz.f248.name,by decide,Tryz.func248.trans (congrArg some (by kernel_rfl))⟩
 f23:=⟨Tryz.f249.name,by decide,Tryz.func249.trans (congrArg some (by kernel_rfl))⟩
 f24:=⟨Tryz.f250.name,by decide,Tryz.func250.trans (congrArg some (by kernel_rfl))⟩
 f25:=⟨Tryz.f251.name,by decide,Tryz.func251.trans (congrArg some (by kernel_rfl))⟩
 f26:=⟨Tryz.f252.name,by decide,Tryz.func252.trans (congrArg some (by kernel_rfl))⟩
 f27:=⟨Tryz.f253.name,by decide,Tryz.func253.trans (congrArg some (by kernel_rfl))⟩
 f28:=Tryz.func254.trans (congrArg some (by kernel_rfl))
 f29:=Tryz.func255.trans (congrArg some (by kernel_rfl))
 f46:=⟨Tryz.f331.name,by decide,Tryz.func331.trans (congrArg some (by kernel_rfl))⟩
 f47:=Tryz.func332.trans (congrArg some (by kernel_rfl))
 f48:=Tryz.func333.trans (congrArg some (by kernel_rfl))
 f49:=⟨Tryz.f334.name,by decide,Tryz.func334.trans (congrArg some (by kernel_rfl))⟩
 f50:=⟨Tryz.f335.name,by decide,Tryz.func335.trans (congrArg some (by kernel_rfl))⟩
 f57:=⟨Tryz.f400.name,by decide,Tryz.func400.trans (congrArg some (by kernel_rfl))⟩
 t0:=Tryz.underlying0
 a0:=Tryz.isAgg0
 z0:=Tryz.sizeOf0
 v0:=Tryz.zeroValue0
 t3:=Tryz.underlying3
 a3:=Tryz.isAgg3
 z3:=Tryz.sizeOf3
 v3:=Tryz.zeroValue3
 t4:=Tryz.underlying4
 a4:=Tryz.isAgg4
 z4:=Tryz.sizeOf4
 v4:=Tryz.zeroValue4
 t5:=Tryz.underlying5
 a5:=Tryz.isAgg5
 z5:=Tryz.sizeOf5
 v5:=Tryz.zeroValue5
 t9:=Tryz.underlying9
 a9:=Tryz.isAgg9
 z9:=Tryz.sizeOf9
 v9:=Tryz.zeroValue9
 t22:=Tryz.underlying106
 a22:=Tryz.isAgg106
 z22:=Tryz.sizeOf106
 v22:=Tryz.zeroValue106
 a24:=Tryz.isAgg212
 z24:=Tryz.sizeOf212
 t25:=Tryz.underlying222
 a25:=Tryz.isAgg222
 z25:=Tryz.sizeOf222
 v25:=Tryz.zeroValue222
 t39:=Tryz.underlying295
 a39:=Tryz.isAgg295
 z39:=Tryz.sizeOf295
 v39:=Tryz.zeroValue295
 t45:=Tryz.underlying366
 a45:=Tryz.isAgg366
 z45:=Tryz.sizeOf366
 v45:=Tryz.zeroValue366
 t46:=Tryz.underlying367
 a46:=Tryz.isAgg367
 z46:=Tryz.sizeOf367
 v46:=Tryz.zeroValue367
 t50:=Tryz.underlying331
 a50:=Tryz.isAgg331
 z50:=Tryz.sizeOf331
 v50:=Tryz.zeroValue331
 t53:=Tryz.underlying164
 a53:=Tryz.isAgg164
 z53:=Tryz.sizeOf164
 v53:=Tryz.zeroValue164
 t55:=Tryz.underlying53
 a55:=Tryz.isAgg53
 z55:=Tryz.sizeOf53
 v55:=Tryz.zeroValue53
 t66:=Tryz.underlying428
 a66:=Tryz.isAgg428
 z66:=Tryz.sizeOf428
 v66:=Tryz.zeroValue428
 t70:=Tryz.underlying431
 a70:=Tryz.isAgg431
 z70:=Tryz.sizeOf431
 v70:=Tryz.zeroValue431
 t76:=Tryz.underlying468
 a76:=Tryz.isAgg468
 z76:=Tryz.sizeOf468
 v76:=Tryz.zeroValue468
 t77:=Tryz.underlying469
 a77:=Tryz.isAgg469
 z77:=Tryz.sizeOf469
 v77:=Tryz.zeroValue469}
end Go.Proofs
namespace Go.Proofs.YtfebdimolnobaaaGreatDoor
open Go.RowKit Go.Proofs.Tryz
section
open Go.Maps Go.Sort
attribute [local go_sem↓] Go.wp_at_zero Go.wp_at_succ
def Mm (a b:Nat)(x y:Int)(w:an)(ha:w.cell? (ai a 0)=some (aa x))(hb:w.cell? (ai b 0)=some (aa y)):
  Calls prog 113 #[ag a,ag b] w λe w'=>e= .returned (aa (jV x y))/\∃q,w'=w.drewN q:=by
 have hC:=pF x y;generalize jV x y=c at hC⊢;have hda:w.drew.cell? (ai a 0)=some (aa x):=ha;have hdb:w.drew.cell? (ai b 0)=some (aa y):=hb;go_enter func113,ntmps113;go_wp2_with fail;go_region_with (first|(go_at_call 114;refine(hC _).mono ?_;rintro e w' ⟨rfl,rfl⟩))
 all_goals
  go_wp2;go_ret;exact⟨rfl,1,rfl⟩
end
section
open Go.Maps Go.Sort
section
variable {α:Type} [Inhabited α] {enc:α->Value}
def AZ {w:an}{g n:Nat}{os:Array Obj}{QP:Array Value}{e:TypeId}{fr:Nat×Nat}(d:Array α)(hb:w.heap[g]?=some (.cells QP e fr)):
  (sortWorld enc w g 0 n d os).heap[g]?=some (.cells (putCells enc 0 d QP) e fr):=by
 have hg:g<w.heap.size:=(bu.1 hb).1;unfold sortWorld;rw[heap_grow_old _ _ (by simpa using hg)];simp[putRow,mapBlock,Sort.ahead,Array.getElem?_modify,hb,onCells]
def se {w:an}{g n:Nat}{os:Array Obj}(d:Array α):w.grownBy (sortWorld enc w g 0 n d os) (some g):=by
 refine⟨rfl,rfl,rfl,by simp[sortWorld],λk hk QX=> ?_⟩;unfold sortWorld;rw[heap_grow_old _ _ (by simpa using hk)];have:g≠k:=λe=>QX (by rw[e])
 simp[putRow,mapBlock,Sort.ahead,Array.getElem?_modify,this]
def Ba (QP:Array Value)(ts:List α)(h:ts.length<=QP.size):(putCells enc 0 ts.toArray QP).toList.take ts.length=ts.map enc:=by
 apply List.ext_getElem?;intro j
 by_cases hj:j<ts.length
 ·rw[ci hj,bt];simp[putCells,hj,show j<QP.size by omega]
 ·rw[List.getElem?_take_eq_none QD,aU QF]
def Bb {w:an}{base g cap n m:Nat}{e:TypeId}{os:Array Obj}{QP:Array Value}{ts:List α}(hl:ts.length=m)(hbase:base<=g)(hb:w.heap[g]?=some (.cells QP e (0,0)))
  (h1:m<=cap) (h2:cap<=maxLen) (h3:QP.size=cap*1):
  (sortWorld enc w g 0 n ts.toArray os).ownsRow base e 1 (.slice (some (ai g 0)) m cap) m (ts.map enc):=
 ⟨by simp[hl],.inr ⟨g,cap,_,rfl,hbase,AZ _ hb,h1,h2,by simp[putCells,h3],by rw[Nat.mul_one,<-hl];exact Ba QP ts QD⟩⟩
def xy {w:an}{g:Nat}{QP:Array Value}{e:TypeId}{ss:List α}(hb:w.heap[g]?=some (.cells QP e (0,0)))(ht:QP.toList.take ss.length=ss.map enc):Holds enc w g 0 ss.toArray:=by
 intro j hj;have QV:j<ss.length:=by simpa using hj
 refine⟨?_,by simp[World.frozen?,hb]⟩;have h1:(QP.toList.take ss.length)[j]?=(ss.map enc)[j]?:=by rw[ht]
 rw[ci QV]at h1;simp only[World.cell?,hb,Nat.zero_add];simp only[Option.isSome_none,aL,if_false];rw[<-bt,h1];simp[QV]
end
def xz {β:Type}{p:β->Prop}:∀l:List β,(∀x∈l,p x)->∃D:List {x:β//p x},D.map (·.1)=l
 | [],_=>⟨[],rfl⟩
 |x::l,h=>by
  obtain⟨D,hD⟩:=xz l (λy hy=>h y (be _ hy));exact⟨⟨x,h x aT⟩::D,by simp[hD]⟩
def ka (w:an)(g:Nat):Type:={x:Int×Nat//w.cell? (ai x.2 0)=some (aa x.1)/\x.2≠g}
def ka.enc {w:an}{g:Nat}(x:ka w g):Value:=gC (some x.1.2)
def ka.cf {w:an}{g:Nat}(x y:ka w g):Int:=jV x.1.1 y.1.1
def ka.lt {w:an}{g:Nat}(x y:ka w g):ltOf (ka.cf (w:=w) (g:=g)) x y=decide (x.1.1<y.1.1):=by
 unfold ltOf ka.cf;rw[cn];simp[mI]
def ka.swo (w:an)(g:Nat):SWO (ltOf (ka.cf (w:=w) (g:=g)))where
 irrefl x:=by rw[ka.lt];simp
 trans x y z h1 h2:=by rw[ka.lt]at*;simp at*;omega
 ntrans x y z h1 h2:=by rw[ka.lt]at*;simp at*;omega
def Mn (w:an)(lo:Nat)(v:Value)(l:List (Int×Nat))(e:Ending)(w':an):Prop:=
 e= .returned (.tuple #[])/\∃l':List (Int×Nat),l'.Perm l/\l'.Pairwise (λa b=>a.1<=b.1)/\w'.ownsRow lo 212 1 v l.length (eQ (l'.map (·.2)))/\w.grownBy w' v.ownBlock
def Mo (w:an)(lo:Nat)(v:Value)(l:List (Int×Nat))(hrow:w.ownsRow lo 212 1 v l.length (eQ (l.map (·.2))))(hc:∀x∈l,w.cell? (ai x.2 0)=some (aa x.1))(QX:∀x∈l,v.ownBlock≠some x.2)(hl:l.length<=2001):
  Calls prog 112 #[v,.func (.func 113) #[] #[]] w (Mn w lo v l):=by
 by_cases h0:l= []
 ·subst h0;obtain⟨a,c,rfl⟩:=iW hrow;refine(AnyF.slices_SortFunc_none (P:=prog) (ρ:=Tryz.sortF_ren) {Tryz.sortF with} a c _ w).mono ?_;rintro e w' ⟨rfl,rfl⟩;exact⟨rfl,[],List.Perm.refl _,List.Pairwise.nil,hrow,⟨rfl,rfl,rfl,ay _,λ_ _ _=>rfl⟩⟩
 ·rcases hrow.2 with⟨rfl,h1⟩|⟨g,cap,QP,rfl,hg,hb,hn,hm,hs,ht⟩
  ·exact absurd (bA h1) h0
  ·have QZ:g<w.heap.size:=dK.lt hb;have hp:∀x∈l,w.cell? (ai x.2 0)=some (aa x.1)/\x.2≠g:=λx hx=>⟨hc x hx,λe=>QX x hx (by rw[e];rfl)⟩
   obtain⟨x0,Q2⟩:=List.exists_mem_of_ne_nil l h0;haveI:Inhabited (ka w g):=⟨⟨x0,hp x0 Q2⟩⟩;obtain⟨D,hD⟩:∃D:List (ka w g),D.map (·.1)=l:=xz l hp;have QY:D.length=l.length:=by rw[<-hD];simp
   have QS:eQ (l.map (·.2))=D.map ka.enc:=by
    rw[<-hD];unfold eQ;rw[bC,bC];rfl
   have eg:∀args w,(callFunc 113 args).run prog w= .ok (.enter 113 args) w:=enters_of func113 QI rfl
   have QW:CmpLays1 prog 113 #[] (ka.enc (w:=w) (g:=g)) ka.cf g 0 D.toArray.size w:=by
    intro m os dk hsz x y
    have QQ:∀z:ka w g,(sortWorld ka.enc w g 0 m dk os).cell? (ai z.1.2 0)=some (aa z.1.1):=λz=>by
     have hz:=aP _ _ z.2.1;have Q0:=(se (enc:=ka.enc) (w:=w) (g:=g) (n:=m) (os:=os) dk).block z.1.2 hz (λe=>z.2.2 (Option.some.inj e));exact(bj (a:=(ai z.1.2 0)) Q0).trans z.2.1
    refine(Mm x.1.2 y.1.2 x.1.1 y.1.1 _ (QQ x) (QQ y)).mono ?_;rintro e w' ⟨rfl,q,rfl⟩;exact⟨rfl,q,#[],by rw[grow_empty]⟩
   have hH:Holds ka.enc w g 0 D.toArray:=xy hb (by rw[QY,<-QS];simpa using ht);have QT:=Any.slices_SortFunc Tryz.sortF ka.enc (λ_=>rfl) ka.cf (ka.swo w g) 113 #[] g 0 cap D.toArray w eg QW hH QZ QF;have e1:(D.toArray.size)=l.length:=by simpa using QY
   rw[e1]at QT;refine QT.mono ?_;rintro e w' ⟨rfl,d',n,os,QR,QU,rfl⟩;have hsz:d'.size=l.length:=by rw[QR.1];exact e1
   refine⟨rfl,d'.toList.map (·.1),?_,?_,?_,se d'⟩
   ·have h2:=QR.2.2;rw[<-e1]at h2;rw[du,show D.toArray.size=d'.size from by rw[hsz];exact e1,du]at h2;rw[<-hD];exact List.Perm.map _ (by simpa using h2)
   ·rw[bY,bH];intro i j hi hj Q3;have Q1:i<d'.size:=by simpa using hi
    have QV:j<d'.size:=by simpa using hj
    have h2:=QU i j (aM _) Q3 QD;rw[ka.lt,getElem!_pos d' i Q1,getElem!_pos d' j QV]at h2;simp at h2⊢;exact h2
   ·have e2:eQ ((d'.toList.map (·.1)).map (·.2))=d'.toList.map ka.enc:=by
     unfold eQ;rw[bC,bC];rfl
    rw[e2];have:=Bb (enc:=ka.enc) (n:=n) (os:=os) (ts:=d'.toList) (m:=l.length) (by simpa using hsz) hg hb hn hm hs;simpa using this
end
section
open Go.Maps
section
variable {f:eD} {p:fC} {w' w:an} {P:ap} {mp:am->Option Nat} {tb:Int} {tv:Value}
attribute [local go_sem↓] Go.wp_at_zero Go.wp_at_succ
def RS (f:eD)(p:fC)(fa:aw)(fc c9 pb:Nat)(w':an):Prop:=w'.cell? (ai c9 0)=some (aa f.form)/\w'.cell? (ai c9 1)=some (aa (mE f.key))/\w'.cell? (ai c9 2)=some (ae (jm f.key))/\w'.cell? (ai c9 3)=some (aa (mA f.key))/\w'.cell? (ai c9 4)=some (aa (dH f.type.1))/\w'.cell? (ai c9 5)=some (ae f.type.1)/\w'.cell? (ai c9 6)=some (aa f.type.2)/\w'.cell? (ai c9 7)=some (aa (dH f.name.1))/\w'.cell? (ai c9 8)=some (ae f.name.1)/\w'.cell? (ai c9 9)=some (aa f.name.2)/\w'.cell? (ai c9 10)=some (aa (dH f.num.1))/\w'.cell? (ai c9 11)=some (ae f.num.1)/\w'.cell? (ai c9 12)=some (aa f.num.2)/\w'.cell? (ai pb 0)=some (aa (mE p.oneof))/\w'.cell? (ai pb 1)=some (ae (jm p.oneof))/\w'.cell? (ai pb 2)=some (aa (mA p.oneof))/\w'.cell? (ai pb 3)=some (.slice fa p.fields.length fc)
theorem RS.of {fa:aw}{fc c9 pb:Nat}(h:dK w' c9 (FC f) 211)(k:dK w' pb #[aa (mE p.oneof),ae (jm p.oneof),aa (mA p.oneof),.slice fa p.fields.length fc] 208):RS f p fa fc c9 pb w':=
 ⟨h.cell 0,h.cell 1,h.cell 2,h.cell 3,h.cell 4,h.cell 5,h.cell 6,h.cell 7,h.cell 8,h.cell 9,h.cell 10,h.cell 11,h.cell 12,k.cell 0,k.cell 1,k.cell 2,k.cell 3⟩
def p9 (w':an)(P:ap)(mp:am->Option Nat)(f:eD)(tb:Int)(tv:Value):Prop:=
 if f.form=4 then tb=16/\∃eb,tv=gC (some eb)/\lB w' P mp (jm f.key) f.type.1 eb else tb=iU mp f.type.1/\tv=gC (wX mp f.type.1)
theorem p9.keep (hk:∀b,P b->b<w.heap.size->w'.heap[b]?=w.heap[b]?)(h:p9 w P mp f tb tv):p9 w' P mp f tb tv:=by
 unfold p9 at h⊢
 split at h
 ·rename_i h0
  rw[dB h0];obtain⟨h1,eb,h2,h3⟩:=h;exact⟨h1,eb,h2,h3.keep hk⟩
 ·rename_i h0
  rw[dA h0];exact h
theorem p9.mono {Q:ap}(hs:∀b,P b->b<w.heap.size->Q b)(h:p9 w P mp f tb tv):p9 w Q mp f tb tv:=by
 unfold p9 at h⊢
 split at h
 ·rename_i h0
  rw[dB h0];obtain⟨h1,eb,h2,h3⟩:=h;exact⟨h1,eb,h2,h3.mono hs⟩
 ·rename_i h0
  rw[dA h0];exact h
theorem zg (w:an)(b n:Nat)(mp:am->Option Nat)(f:eD)(hg:CO f)(H:fR w b n mp)(hb:BOK w):
  Calls prog 110 #[.map (some b),.agg (FC f)] w λe w'=>∃tb tv,e= .returned (.agg #[aa tb,tv])/\p9 w' (λb=>w.heap.size<=b) mp f tb tv/\aj w w':=by
 refine(AY w b n mp f hg H hb).mono ?_;rintro e w' ⟨h1,h2⟩;unfold GA at h1
 by_cases h0:f.form=4
 ·rw[dB h0]at h1;obtain⟨eb,rfl,h3⟩:=h1;exact⟨16,_,rfl,by unfold p9;rw[dB h0];exact⟨rfl,eb,rfl,h3⟩,h2⟩
 ·rw[dA h0]at h1;exact⟨_,_,h1,by unfold p9;rw[dA h0];exact⟨rfl,rfl⟩,h2⟩
theorem GC {fb:Nat}{rv:Value}(hb:dK w fb #[aa (iY f),aa f.form,aa tb,tv,rv] 220)(hp:P fb)
  (hr:et w P 3 1 rv (oE p f).length (fV (oE p f))) (ht:p9 w P mp f tb tv):eG w P mp (qW p f) fb:=by
 unfold p9 at ht;unfold eG;show if f.form=4 then _ else _
 split at ht
 ·rename_i h0
  rw[dB h0];obtain⟨rfl,eb,rfl,h3⟩:=ht;rw[h0]at hb;exact⟨rv,eb,hb,hp,hr,h3⟩
 ·rename_i h0
  rw[dA h0];obtain⟨rfl,rfl⟩:=ht;exact⟨rv,hb,hp,hr⟩
end
end
section
open Go.Maps
attribute [local go_sem↓] Go.wp_at_zero Go.wp_at_succ
def Tryz.info212:(prog.info? 212).map (λi=>(i.zero,i.size,i.bytes))=some (some (.pointer none),1,8):=QI
structure LM (f:eD):Prop where
 num:za f
 ty:CO f
def uX (w wr:an)(mp:am->Option Nat)(v:Value)(gs:List GF):Prop:=
 ∃QR:au,wr.ownsRow w.heap.size 212 1 v gs.length (eQ QR)/\fQ wr (λb=>w.heap.size<=b/\v.ownBlock≠some b) mp gs QR/\aj w wr
def uX.on {w wr w2:an}{mp:am->Option Nat}{v:Value}{gs:List GF}(h:uX w wr mp v gs)(hb:aj wr w2):uX w w2 mp v gs:=by
 obtain⟨QR,h1,h2,h3⟩:=h;exact⟨QR,eF hb h1,h2.keep (λb _ hl=>hb.block b hl),er h3 hb⟩
def uX.start (w wr:an)(mp:am->Option Nat)(h:aj w wr):uX w wr mp (ah) []:=⟨[],bf _ _ _ _,rfl,h⟩
def qk (l:au)(b:Nat):eQ (l++ [b])=eQ l++ [gC (some b)]:=by simp[eQ]
def uX.snoc {w W w5:an}{mp:am->Option Nat}{v v':Value}{gs:List GF}{g:GF}{QR:au}{fb:Nat}(h2:fQ W (λb=>w.heap.size<=b/\v.ownBlock≠some b) mp gs QR)(h3:aj w W)(hbase:∀k,v.ownBlock=some k->w.heap.size<=k)
  (hf:eG W (λb=>w.heap.size<=b/\v.ownBlock≠some b) mp g fb) (QS:w5.ownsRow w.heap.size 212 1 v' (gs.length+1) (eQ QR++ [gC (some fb)])) (QP:W.grownBy w5 v.ownBlock) (hloc:v.ownBlock=v'.ownBlock\/v'.ownBlock=some W.heap.size):uX w w5 mp v' (gs++ [g]):=by
 have h4:=h2.snoc hf
 have hq:∀b,(w.heap.size<=b/\v.ownBlock≠some b)->b<W.heap.size->(w.heap.size<=b/\v.ownBlock≠some b)/\v'.ownBlock≠some b:=by
  rintro b ⟨q1,q2⟩ q3;refine⟨⟨q1,q2⟩,?_⟩
  rcases hloc with e|e
  ·rw[<-e];exact q2
  ·rw[e];intro e2;have:=Option.some.inj e2;omega
 have h5:=(h4.mono hq).keep (w':=w5) (λb hb hl=>QP.block b hl (λe=>hb.1.2 e.symm));refine⟨QR++ [fb],?_,h5.mono (λb hb _=>⟨hb.1.1,hb.2⟩),h3.grown QP h3.size hbase⟩;rw[qk,aG];exact QS
def wY (ps:List fC):List GF:=ps.flatMap λp=>p.fields.map (qW p)
def qZ:∀ps:List fC,(wY ps).length<=ku ps
 | []=>ay _
 |p::ps=>by
  have:=qZ ps;unfold wY at this⊢;rw[bw,aG,bm,ku];omega
def xA:∀(ps:List fC) (k:Nat),ku (ps.take k)<=ku ps
 | [],k=>by simp[ku]
 |p::ps,0=>by simp[ku]
 |p::ps,k+1=>by have:=xA ps k;rw[List.take_succ_cons,ku,ku];omega
def Fe {α β:Type}{h:α->β}{l' l:List β}(p:l'.Perm l):∀z:List α,z.map h=l->∃z':List α,z'.Perm z/\z'.map h=l':=by
 induction p with
 |nil=>intro z hz;exact⟨z,List.Perm.refl _,hz⟩
 |cons x _ ih=>
  intro z hz
  cases z with
  |nil=>simp at hz
  |cons a z=>
   simp at hz;obtain⟨z',h1,h2⟩:=ih z hz.2;exact⟨a::z',h1.cons a,by simp[h2,hz.1]⟩
 |swap x y l=>
  intro z hz
  match z,hz with
  | [],hz=>simp at hz
  | [_],hz=>simp at hz
  |a::c::z,hz=>
   simp at hz;exact⟨c::a::z,List.Perm.swap _ _ _,by simp[hz.1,hz.2.1,hz.2.2]⟩
 |trans _ _ ih1 ih2=>
  intro z hz;obtain⟨z1,h1,h2⟩:=ih2 z hz;obtain⟨z2,h3,h4⟩:=ih1 z1 h2;exact⟨z2,h3.trans h1,h4⟩
def xB (w:an)(mp:am->Option Nat)(b:dO)(e:Ending)(w':an):Prop:=
 ∃(v:Value) (gs:List GF) (QR:au),e= .returned v/\gs.Perm (tm b)/\gs.Pairwise (λx y=>x.f.num<=y.f.num)/\
  et w' (λx=>w.heap.size<=x) 212 1 v QR.length (eQ QR)/\fQ w' (λx=>w.heap.size<=x) mp gs QR/\aj w w'
def GD (w:an)(mb n:Nat)(mp:am->Option Nat)(b:dO)(pa va:aw)(pc vn vc:Nat)(pcs:aq)(S:ap)(hrow:et w S 208 4 (.slice pa b.parts.length pc) b.parts.length pcs)(hps:fj w S pcs b.parts)
  (H:fR w mb n mp) (hlen:ku b.parts<=2001) (hgood:∀p∈b.parts,∀f∈p.fields,LM f) (hg:GOK w) (hb:BOK w):
  Calls prog 67 #[.map (some mb),.agg #[.bool b.enum,aa (dH b.name.1),ae b.name.1,aa b.name.2,.slice pa b.parts.length pc,.slice va vn vc]] w (xB w mp b):=by
 obtain⟨i0,R9,Sa,Sb,Rx⟩:=info_parts Tryz.info212;have hpl:b.parts.length<=2001:=aH (uS b.parts) hlen;have C0:=(Below.refl w.heap.size w).alloc (ay _) (ak #[.bool b.enum,aa (dH b.name.1),ae b.name.1,aa b.name.2,.slice pa b.parts.length pc,.slice va vn vc] 152);go_enter func67,ntmps67;go_wp2;go_loopw [5,13] (λv i wr=>∃(k:Nat),k<=b.parts.length/\i=aa k/\uX w wr mp v (wY (b.parts.take k))) (λ_ i _=>b.parts.length-(intOf i).toNat)
 case atStart=>exact⟨0,aM _,rfl,uX.start _ _ _ C0⟩
 case round=>
  clear C0;obtain⟨k,hk,rfl,HI⟩:=hrel
  by_cases hlt:k<b.parts.length
  ·obtain⟨p,hp⟩:=gx hlt;have RC:p∈b.parts:=aI hp;have QQ:b.parts.take (k+1)=b.parts.take k++ [p]:=by rw[bB,hp];rfl
   have Rh:wY (b.parts.take (k+1))=wY (b.parts.take k)++p.fields.map (qW p):=by rw[QQ];simp[wY]
   have Ri:(wY (b.parts.take k)).length+p.fields.length<=2001:=by
    have h1:=qZ (b.parts.take (k+1));have h2:=xA b.parts (k+1);rw[Rh,aG,bm]at h1;omega
   have CW:aj w wr:=by obtain⟨_,_,_,h⟩:=HI;exact h
   have RD:∀j,u5.ownBlock=some j->w.heap.size<=j/\j<wr.heap.size:=by obtain⟨_,h,_,_⟩:=HI;exact h.lt
   obtain⟨g,rfl,_,Rt,Q0⟩:=eh hrow.1 QD;obtain⟨fa,fn,fc,p0,p1,p2,p3,Ry⟩:=hps.get hp;have RN:=eI Ry.1;subst RN;have Q5:=Q0 wr (CW.block g Rt);have q0:=Q5 _ _ p0;have q1:=Q5 _ _ p1;have q2:=Q5 _ _ p2;have q3:=Q5 _ _ p3;have KP:=dK.new wr #[aa (mE p.oneof),ae (jm p.oneof),aa (mA p.oneof),.slice fa p.fields.length fc] 208;have Rj:=HI.on ((Below.refl wr.heap.size wr).alloc (ay _) (ak #[aa (mE p.oneof),ae (jm p.oneof),aa (mA p.oneof),.slice fa p.fields.length fc] 208));have Q6:u5.ownBlock≠some wr.heap.size:=λe=>by have:=(RD _ e).2;omega
   have QU:=hgood p RC;have hpb:w.heap.size<=wr.heap.size:=CW.size;generalize wY (b.parts.take k)=G at Rj Rh Ri;clear Q0 Q5 p0 p1 p2 p3 hp RC QQ HI RD hgood;go_wp2_with fail;generalize wr.alloc (ak #[aa (mE p.oneof),ae (jm p.oneof),aa (mA p.oneof),.slice fa p.fields.length fc] 208)=w1 at*;generalize wr.heap.size=pb at*;clear q0 q1 q2 q3;go_loopw [5,20] (λv i wr=>∃(j:Nat),j<=p.fields.length/\i=aa j/\uX w wr mp v (G++(p.fields.take j).map (qW p))/\dK wr pb #[aa (mE p.oneof),ae (jm p.oneof),aa (mA p.oneof),.slice fa p.fields.length fc] 208/\v.ownBlock≠some pb) (λ_ i _=>p.fields.length-(intOf i).toNat)
   case atStart=>exact⟨0,aM _,rfl,by simpa using Rj,KP,Q6⟩
   case round=>
    clear Rj KP Q6 CW;obtain⟨j,hj,rfl,HJ,KP,Q6⟩:=hrel
    by_cases hlt2:j<p.fields.length
    ·obtain⟨f,hf⟩:=gx hlt2;have RE:f∈p.fields:=aI hf;have QQ:G++(p.fields.take (j+1)).map (qW p)=(G++(p.fields.take j).map (qW p))++ [qW p f]:=by rw[bB,hf];simp
     obtain⟨gf,rfl,_,Rz,QV⟩:=eh Ry.1 QD;have RO:aj w wr:=by obtain⟨_,_,_,h⟩:=HJ;exact h
     have Q3:∀x,u5.ownBlock=some x->w.heap.size<=x/\x<wr.heap.size:=by obtain⟨_,h,_,_⟩:=HJ;exact h.lt
     have RF:=QV wr (RO.block gf Rz);obtain⟨t0,t1,t2,t3,t4,t5,t6,t7,t8,t9,Sc,Sd,Se⟩:=qU hf RF;have Re:=QU f RE;have KF:=dK.new wr (FC f) 211;have RG:=KP.alloc (FO f);have RH:=HJ.on ((Below.refl wr.heap.size wr).alloc (ay _) (FO f));have Rk:u5.ownBlock≠some wr.heap.size:=λe=>by have:=(Q3 _ e).2;omega
     have Rl:Hid (∀x,u5.ownBlock=some x->x<wr.heap.size):=λx hx=>(Q3 x hx).2
     have RP:(G++(p.fields.take j).map (qW p)).length<=2001:=by rw[aG,bm,bn];omega
     generalize(G++(p.fields.take j).map (qW p))=G2 at RH QQ RP;have hzz:pb<wr.heap.size:=KP.lt;clear QV RF hf RE HJ KP Q3;go_upto_region 8 with fail
     clear t0 t1 t2 t3 t4 t5 t6 t7 t8 t9 Sc Sd Se;generalize hw1:wr.alloc (FO f)=W1 at*;have zc:wr.heap.size<W1.heap.size:=KF.lt;clear hw1;generalize wr.heap.size=c9 at*;obtain⟨QR,QS,QT,CA⟩:=RH;have QX:aj w W1.drew:=CA.drew;have Rm:=KF.drew;have Rn:=RG.drew;have QY:W1.drew.ownsRow w.heap.size 212 1 u5 G2.length (eQ QR):=QS;have Q4:fQ W1.drew (λb=>w.heap.size<=b/\u5.ownBlock≠some b) mp G2 QR:=fQ.keep (w:=W1) (w':=W1.drew) (λ_ _ _=>rfl) QT;have a0:=RS.of Rm Rn;have RQ:Hid (Calls prog 109 #[.agg (FC f)] W1.drew (λe w'=>e= .returned (aa (iY f))/\Below W1.drew.heap.size W1.drew w')):=qX _ f Re.num.1 Re.num.2 (hg.keep (QX.block _ hg.lt))
     have RT:Hid (∀w2:an,Below W1.drew.heap.size W1.drew w2->Calls prog 110 #[.map (some mb),.agg (FC f)] w2 (λe w'=>∃tb tv,e= .returned (.agg #[aa tb,tv])/\p9 w' (λb=>w2.heap.size<=b) mp f tb tv/\aj w2 w')):=
      λw2 h2=>zg w2 mb n mp f Re.ty (H.keep ((er QX h2).block _ H.lt)) (hb.keep ((er QX h2).block _ hb.lt))
     have RU:Hid (∀w3:an,Below W1.drew.heap.size W1.drew w3->Calls prog 111 #[.agg #[aa (mE p.oneof),ae (jm p.oneof),aa (mA p.oneof),.slice (some (ai gf 0)) p.fields.length fc],.agg (FC f)] w3 (λe w'=>∃v,e= .returned v/\w'.ownsRow w3.heap.size 3 1 v (oE p f).length (fV (oE p f))/\aj w3 w')):=
      λw3 h3=>GB w3 p f _ fc S (Ry.keep (λx _ hl=>(er QX h3).block x hl)) QD Re.num (λo ho=>(QU o ho).num) (hg.keep ((er QX h3).block _ hg.lt))
     have RV:Hid (∀(W:an) (fb:Nat) (tb:Int) (tv rv:Value),dK W fb #[aa (iY f),aa f.form,aa tb,tv,rv] 220->(w.heap.size<=fb/\u5.ownBlock≠some fb)->et W (λb=>w.heap.size<=b/\u5.ownBlock≠some b) 3 1 rv (oE p f).length (fV (oE p f))->p9 W (λb=>w.heap.size<=b/\u5.ownBlock≠some b) mp f tb tv->eG W (λb=>w.heap.size<=b/\u5.ownBlock≠some b) mp (qW p f) fb):=λW fb tb tv rv h1 h2 h3 h4=>GC h1 h2 h3 h4
     have RW:Hid (some c9≠u5.ownBlock):=λe=>Rk e.symm
     have RX:Hid (some pb≠u5.ownBlock):=λe=>Q6 e.symm
     clear QS QT CA KF RG
     go_region_held3 (λw'=>w'.cell? (ai c9 0)=some (aa f.form)/\w'.cell? (ai c9 1)=some (aa (mE f.key))/\w'.cell? (ai c9 2)=some (ae (jm f.key))/\w'.cell? (ai c9 3)=some (aa (mA f.key))/\w'.cell? (ai c9 4)=some (aa (dH f.type.1))/\w'.cell? (ai c9 5)=some (ae f.type.1)/\w'.cell? (ai c9 6)=some (aa f.type.2)/\w'.cell? (ai c9 7)=some (aa (dH f.name.1))/\w'.cell? (ai c9 8)=some (ae f.name.1)/\w'.cell? (ai c9 9)=some (aa f.name.2)/\w'.cell? (ai c9 10)=some (aa (dH f.num.1))/\w'.cell? (ai c9 11)=some (ae f.num.1)/\w'.cell? (ai c9 12)=some (aa f.num.2)/\w'.cell? (ai pb 0)=some (aa (mE p.oneof))/\w'.cell? (ai pb 1)=some (ae (jm p.oneof))/\w'.cell? (ai pb 2)=some (aa (mA p.oneof))/\w'.cell? (ai pb 3)=some (.slice (some (ai gf 0)) p.fields.length fc))
      (first|exact a5|exact RS.of ((Rf.alloc _).alloc _) ((Rg.alloc _).alloc _)|exact RS.of (Rf.alloc _) (Rg.alloc _)|exact RS.of Rf Rg|exact RS.of Rq Rr|exact RS.of Ro Rp|exact a0)
      (first|(refine step_append_lies _ QJ _ _ _ QJ w.heap.size 212 i0 _ 1 8 underlying106 R9 Sa Sb Rx rfl QD u5 G2.length (eQ QR) QJ ((Q7.alloc _).alloc _) (ai (w4.heap.size+1) 0) 1 1 [_] QJ QJ (br (dK.newAt QE _ _)) QL QD QK QD (by have:=C4.size;simp;omega) (w4.heap.size+1+1) QE ?_;intro gg cap w5 Q1 QP RL hlt5;have RY:=((Rf.alloc _).alloc _).grown QP RW.out;have RI:=((Rg.alloc _).alloc _).grown QP RX.out;have a5:=RS.of RY RI)|(go_at_call 109;refine RQ.out.mono ?_;rintro e w2 ⟨rfl,b2⟩;have Ro:=Rm.below b2 Rm.lt;have Rp:=Rn.below b2 Rn.lt)|(go_at_call 110;refine(RT.out w2 b2).mono ?_;rintro e w3 ⟨tb,tv,rfl,Sf,b3⟩;have Rq:=Ro.below b3 Ro.lt;have Rr:=Rp.below b3 Rp.lt)|(go_at_call 111;refine(RU.out w3 (er b2 b3)).mono ?_;rintro e w4 ⟨rv,rfl,RM,b4⟩;obtain⟨ra,rn,rc,rfl⟩:=dL RM;have Rf:=Rq.below b4 Rq.lt;have Rg:=Rr.below b4 Rr.lt;have C4:=er (er (er QX b2) b3) b4;have Q7:=eF (er (er b2 b3) b4) QY))
     have Z2:=b2.size;have Z3:=b3.size;have Z4:=b4.size;have zc2:c9<W1.drew.heap.size:=zc;have QW:∀x,W1.drew.heap.size<=x->u5.ownBlock≠some x:=λx hx e=>by have:=Rl.out x e;omega
     have RJ:∀x,w3.heap.size<=x->w.heap.size<=x/\u5.ownBlock≠some x:=λx hx=>⟨by have:=QX.size;omega,QW x QD⟩
     have BW:aj w4 ((w4.alloc (ak #[aa (iY f),aa f.form,aa tb,tv,.slice ra rn rc] 220)).alloc (ak #[ag w4.heap.size] 212)):=((Below.refl w4.heap.size w4).alloc (ay _) _).alloc QE _;have RK:=fQ.keep (w:=W1.drew) (w':=((w4.alloc (ak #[aa (iY f),aa f.form,aa tb,tv,.slice ra rn rc] 220)).alloc (ak #[ag w4.heap.size] 212))) (λx _ hl=>(er (er (er b2 b3) b4) BW).block x hl) Q4;have QZ:=((et.of RM).mono (S':=λb=>w.heap.size<=b/\u5.ownBlock≠some b) (λx hx _=>RJ x hx)).keep (w':=((w4.alloc (ak #[aa (iY f),aa f.form,aa tb,tv,.slice ra rn rc] 220)).alloc (ak #[ag w4.heap.size] 212))) (λx _ hl=>BW.block x hl);have Q8:=(p9.mono (Q:=λb=>w.heap.size<=b/\u5.ownBlock≠some b) (λx hx _=>⟨by have:=QX.size;omega,QW x QD⟩) Sf).keep (w':=((w4.alloc (ak #[aa (iY f),aa f.form,aa tb,tv,.slice ra rn rc] 220)).alloc (ak #[ag w4.heap.size] 212))) (λx _ hl=>(er b4 BW).block x hl);have Q9:=RV.out _ w4.heap.size tb tv (.slice ra rn rc) ((dK.new w4 _ _).alloc _) ⟨C4.size,QW _ QD⟩ QZ Q8;have RZ:=uX.snoc (v':= .slice (some (ai gg 0)) (G2.length+1) cap) RK (er C4 BW) (λx hx=>(QY.lt x hx).1) Q9 Q1 QP (RL.imp (λh=>h) (λh=>by rw[h];simp[Value.ownBlock]))
     have Rs:(Value.slice (some (ai gg 0)) (G2.length+1) cap).ownBlock≠some pb:=λe=>by
      rcases RL with h|h
      ·exact Q6 (h.trans e)
      ·have e2:=Option.some.inj e;simp only at e2;omega
     clear a5 RK QZ Q8 Q9 Q1 QP BW QW RJ;go_wp2;go_roundw
     case rel=>exact⟨j+1,QD,rfl,by rw[QQ];exact RZ,RI,Rs⟩
     case measure=>simp[intOf];omega
    ·have hli2:decide ((j:Int)<(p.fields.length:Int))=false:=QF;obtain rfl:j=p.fields.length:=QD;rw[bg]at HJ;go_wp2;go_roundw
     case rel=>exact⟨k+1,QD,rfl,by rw[Rh];exact HJ⟩
     case measure=>simp[intOf];omega
  ·have hli:decide ((k:Int)<(b.parts.length:Int))=false:=QF;obtain rfl:k=b.parts.length:=QD;rw[bg]at HI;go_wp2_with fail;obtain⟨QR,QS,QT,CW⟩:=HI;obtain⟨z,Ra,Rx,RA⟩:=QT.zip;have Rt:z.length=(wY b.parts).length:=by rw[<-Ra];simp
   have Ru:z.length<=2001:=by have:=qZ b.parts;omega
   have Rw:=Mo wr w.heap.size u5 (z.map λx=>(x.1.f.num,x.2)) (by rw[bm,Rt,bC,show((λx:Int×Nat=>x.2)∘λx:GF×Nat=>(x.1.f.num,x.2))=(λx=>x.2)from rfl,Rx];exact QS)
    (λx hx=>by obtain⟨y,hy,rfl⟩:=aQ.1 hx;exact(RA y hy).cell0.1) (λx hx=>by obtain⟨y,hy,rfl⟩:=aQ.1 hx;exact(RA y hy).cell0.2.2) (by simpa using Ru)
   refine Rw.mono ?_;rintro e w' ⟨rfl,l',Rb,Q2,Rc,QP⟩;obtain⟨z',RB,rfl⟩:=Fe Rb z rfl;go_wp2;go_ret;refine⟨u5,z'.map (·.1),z'.map (·.2),rfl,?_,?_,?_,?_,?_⟩
   ·rw[show tm b=wY b.parts from rfl,<-Ra];exact RB.map _
   ·rw[bY]at Q2⊢;exact Q2
   ·have R8:(z'.map (·.2)).length=(z.map λx:GF×Nat=>(x.1.f.num,x.2)).length:=by simp[RB.length_eq]
    rw[R8];have:=et.of Rc;rw[bC]at this;exact this
   ·have h5:∀x∈z',eG w' (λx=>w.heap.size<=x) mp x.1 x.2:=λx hx=>by
     have h6:=RA x (RB.mem_iff.1 hx);exact(h6.keep (w':=w') (λc hc hl=>QP.block c hl (λe=>hc.2 e.symm))).mono (λc hc _=>hc.1)
    exact fQ.of_zip h5
   ·exact CW.grown QP CW.size (λx hx=>(QS.lt x hx).1)
end
section
variable {types:ar} {nums:au} {f:eD} {bs:List dO}
structure GE (types:ar)(f:eD):Prop where
 key:f.form=4->mE f.key=3
 lo:1<=gA f.num.1
 hi:gA f.num.1<=536870911
 ty:dH f.type.1=1->eM types f.type.1=true
 kg:f.form=4->ii (mE f.key) (jm f.key)=true
theorem q9 {names:ar}{n:ar}{m:au}(h:nX types names nums f= .ok (n,m)):GE types f/\wU nums (gA f.num.1)=false/\m=nums++ [gA f.num.1]/\n=names++ [f.name.1]/\eM names f.name.1=false:=by
 unfold nX qT ij at h
 split at h
 ·grind
 ·rename_i hk
  split at h
  ·grind
  ·rename_i ht
   split at h
   ·grind
   ·rename_i hn
    split at h
    ·grind
    ·split at h
     ·grind
     ·rename_i hb
      simp at h;unfold qy at hb;unfold pD at ht;unfold iB at hn;simp at hb ht hk hn;refine⟨⟨λh4=> ?_,QD,QD,λh1=> ?_,hk⟩,hb.2.2,h.2.symm,h.1.symm,hn.2⟩
      ·have:=hk h4;unfold ii at this
       simp_all
      simp_all
theorem mT:∀(fs:List eD) (names:ar) (nums:au) (n:ar) (m:au),fM types names nums fs= .ok (n,m)->nums.Nodup->
  (∀f∈fs,GE types f)/\m=nums++fs.map (λf=>gA f.num.1)/\m.Nodup
 | [],names,nums,n,m,h,hd=>by
  simp[fM]at h
  simp_all
 |f::fs,names,nums,n,m,h,hd=>by
  unfold fM at h
  split at h
  ·cases h
  ·rename_i n1 m1 h1
   have g1:=q9 h1;have g2:=qz h1 hd;have g3:=mT fs n1 m1 n m h g2.2.2
   grind
theorem re:∀(ps:List fC) (names:ar) (nums:au) (n:ar) (m:au),gF types names nums ps= .ok (n,m)->nums.Nodup->
  (∀p∈ps,∀f∈p.fields,GE types f)/\m=nums++ps.flatMap (λp=>p.fields.map (λf=>gA f.num.1))/\m.Nodup
 | [],names,nums,n,m,h,hd=>by
  simp[gF]at h
  simp_all
 |p::ps,names,nums,n,m,h,hd=>by
  unfold gF at h
  split at h
  ·cases h
  ·rename_i n1 m1 h1
   have g1:(∀f∈p.fields,GE types f)/\m1=nums++p.fields.map (λf=>gA f.num.1)/\m1.Nodup:=by
    unfold oA at h1
    split at h1
    ·split at h1
     ·cases h1
     ·exact mT _ _ _ _ _ h1 hd
    ·exact mT _ _ _ _ _ h1 hd
   have g3:=re ps n1 m1 n m h g1.2.2
   grind
structure JN (types:ar)(b:dO):Prop where
 flds:∀p∈b.parts,∀f∈p.fields,GE types f
 nums:(b.parts.flatMap (λp=>p.fields.map (λf=>gA f.num.1))).Nodup
theorem kO (l r:ar)(s:am):eM (l++r) s=(eM l s||eM r s):=by simp[eM]
theorem qm:∀(bs:List dO) (names:ar) (m:Nat),fG types names m bs= .ok ()->
  (∀b∈bs,b.enum=false->JN types b)/\(fH bs).Pairwise (λx y=>x.toList≠y.toList)/\(∀b∈bs,eM names b.name.1=false)
 | [],names,m,_=>⟨QE,List.Pairwise.nil,QE⟩
 |b::bs,names,m,h=>by
  have key:∀m',fG types (names++ [b.name.1]) m' bs= .ok ()->iB names b.name.1=false->(b.enum=false->JN types b)->
    (∀x∈b::bs,x.enum=false->JN types x)/\(fH (b::bs)).Pairwise (λx y=>x.toList≠y.toList)/\(∀x∈b::bs,eM names x.name.1=false):=by
   intro m' h2 h3 h4;have g:=qm bs _ m' h2;refine⟨?_,?_,?_⟩
   ·simp_all
   ·refine List.Pairwise.cons ?_ g.2.1;intro y hy;obtain⟨c,hc,rfl⟩:=aQ.1 hy;have:=g.2.2 c hc;rw[kO]at this;simp[eM]at this
    simp_all
   ·intro x hx
    rcases aN.1 hx with rfl|hx
    ·unfold iB at h3
     simp_all
    ·have:=g.2.2 x hx;rw[kO]at this
     simp_all
  unfold fG at h
  split at h
  ·cases h
  ·rename_i h3
   simp only[Bool.not_eq_true]at h3
   split at h
   ·grind
   ·split at h
    ·cases h
    ·split at h
     ·cases h
     ·rename_i n1 h5
      obtain⟨a,c⟩:=n1;have g:=re b.parts [] [] a c h5 List.nodup_nil;exact key (m+1) h h3 (λ_=>⟨g.1,by grind⟩)
structure Bc (bs:List dO):Prop where
 ok:∀b∈bs,nY b
 few:bs.length<=2001
 shape:∀b∈bs,yY b
 chk:∀b∈bs,b.enum=false->JN (fH bs) b
 names:(fH bs).Pairwise (λx y=>x.toList≠y.toList)
theorem qA {t:am}(h:iw t= .ok bs):Bc bs:=by
 unfold iw at h
 split at h
 ·cases h
 ·split at h
  ·cases h
  ·rename_i h3
   split at h
   ·cases h
   ·rename_i h4
    cases h
    have hw:=oC t QD;have g:=qm _ _ _ h4;exact⟨(uT hw h3).1,(uT hw h3).2,AR hw h3,g.1,g.2.1⟩
theorem Bc.field (h:Bc bs){b:dO}(hb:b∈bs)(he:b.enum=false){p:fC}(hp:p∈b.parts)(hf:f∈p.fields):LM f:=by
 have c:=(h.chk b hb he).flds p hp f hf;have s:=(h.shape b hb p hp).1 f hf;refine⟨⟨(h.ok b hb).fnum p hp f hf,c.hi⟩,⟨λh4=> ?_,s.size⟩⟩;have k3:=c.key h4;obtain⟨x,hx⟩:=bV.1 (s.key.1 h4);rw[hx]at k3⊢;have hk:dH x.1=3:=k3;refine⟨rfl,?_⟩;show x.1.size<=2000;have hm:x.1.toList∈mz:=by have:=lS hk;simpa [jh]using this
 have hl:∀l∈mz,l.length<=2000:=QG;have:=hl _ hm;rw[ByteArray.toList_eq]at this
 simp_all
end
section
open Go.Maps Go.ChangeMaps Go.WideMaps Go.WideElems
attribute [local go_sem↓] Go.wp_at_zero Go.wp_at_succ
def Tryz.info105:(prog.info? 105).map (λi=>(i.zero,i.size,i.bytes))=some (some (.pointer none),1,8):=QI
def kB (z:List (am×Nat)):am->Option Nat:=z.foldl (λmp x=>iZ mp x.1 x.2) (λ_=>none)
def GG (z:List (am×Nat))(s:am)(b:Nat):kB (z++ [(s,b)])=iZ (kB z) s b:=by simp[kB]
structure Ff (w0 wr:an)(kb:Nat)(v:Value)(z:List (am×Nat)):Prop where
 row:wr.ownsRow w0.heap.size 105 1 v z.length (eQ (z.map (·.2)))
 map:fR wr kb z.length (kB z)
 msg:∀x∈z,dK wr x.2 #[ae x.1,ah] 108/\w0.heap.size<=x.2/\v.ownBlock≠some x.2
 nd:(z.map (·.2)).Nodup
 kept:dS [kb] w0 wr
def fR.put {w w':an}{kb n:Nat}{mp:am->Option Nat}{s:am}{b:Nat}{D:DataW Unit}(h1:w.ownsMap prog 9 gj kb n D)(h2:∀s:am,D.atKey (p7 s) (nl none)=nl (mp s))
  (h:w'.ownsMap prog 9 gj kb (n+1) (D.put (p7 s) (nl (some b)))):fR w' kb (n+1) (iZ mp s b):=⟨_,h,JK (World.ownsMap.isMap h1) h2 s b⟩
def Ff.snoc {w0 wr w2 w5:an}{kb:Nat}{v v':Value}{z:List (am×Nat)}{s:am}(h:Ff w0 wr kb v z)(hkb:kb<w0.heap.size)
  (hg2:(wr.alloc (.cells #[ae s,ah] 108)).grownBy w2 (some kb)) (hm:fR w2 kb (z.length+1) (iZ (kB z) s wr.heap.size)) {o:Obj}
  (hg5:(w2.alloc o).grownBy w5 v.ownBlock) (hown:w5.ownsRow w0.heap.size 105 1 v' (z.length+1) (eQ (z.map (·.2))++ [gC (some wr.heap.size)])) (hloc:v'.ownBlock=v.ownBlock\/v'.ownBlock=some (w2.alloc o).heap.size):
  Ff w0 w5 kb v' (z++ [(s,wr.heap.size)]):=by
 have QR:=h.row.lt;have hsz:=h.kept.size;have hs2:wr.heap.size+1<=w2.heap.size:=by have:=hg2.size;simpa using this
 have QS:some kb≠v.ownBlock:=λe=>by have:=(QR _ e.symm).1;omega
 have QQ:∀{b:Nat} {cs:Array Value} {T:TypeId},dK (wr.alloc (.cells #[ae s,ah] 108)) b cs T->b≠kb->v.ownBlock≠some b->dK w5 b cs T:=λhb h1 h2=>
  ((hb.grown hg2 (λe=>h1 (Option.some.inj e))).alloc o).grown hg5 (λe=>h2 e.symm)
 have QP:∀x,x<w2.heap.size+1->v.ownBlock≠some x->v'.ownBlock≠some x:=λx hx h1 e=>by
  rcases hloc with h2|h2
  ·exact h1 (h2▸e)
  ·rw[h2]at e;have:=Option.some.inj e;simp at this;omega
 refine⟨?_,?_,?_,?_,?_⟩
 ·rw[bM,aG];simp only[ch,List.map_nil,bE,dt,qk];exact hown
 ·rw[GG,aG];exact hm.keep ((hg5.block kb (by have:=hm.lt;simp;omega) QS).trans (Below.heap_alloc _ _ _ hm.lt))
 ·intro x hx
  rcases aV.1 hx with hx|hx
  ·obtain⟨m1,m2,m3⟩:=h.msg x hx;have:=m1.lt;exact⟨QQ (m1.alloc _) QD m3,m2,QP _ QD m3⟩
  ·simp at hx;subst hx;have m3:v.ownBlock≠some wr.heap.size:=λe=>by have:=(QR _ e).2;omega
   exact⟨QQ (dK.new _ _ _) (by show wr.heap.size≠kb;omega) m3,hsz,QP _ (by show wr.heap.size<w2.heap.size+1;omega) m3⟩
 ·rw[bM,dw];refine⟨h.nd,QE,?_⟩;intro a ha c hc;obtain⟨x,hx,rfl⟩:=aQ.1 ha;simp at hc;have:=(h.msg x hx).1.lt;omega
 ·refine⟨?_,?_,?_,?_,?_⟩
  ·rw[hg5.os];exact hg2.os.trans h.kept.os
  ·rw[hg5.tape];exact hg2.tape.trans h.kept.tape
  ·rw[hg5.output];exact hg2.output.trans h.kept.output
  ·have:=hg5.size;simp at this;omega
  ·intro k hk hn;have h1:(w2.alloc o).heap[k]?=w2.heap[k]?:=Below.heap_alloc _ _ _ QD;have h2:(wr.alloc (.cells #[ae s,ah] 108)).heap[k]?=wr.heap[k]?:=Below.heap_alloc _ _ _ QD;rw[hg5.block k QF (λe=>by have:=(QR _ e.symm).1;omega),h1,hg2.block k QF (λe=>hn (by simp at e;simp[e])),h2];exact h.kept.block k hk hn
end
section
open Go.Maps
def fW (bs:List dO):List dO:=bs.filter λb=> !b.enum
def iM (bs:List dO):dX bs=(fW bs).map λb=>b.name.1:=rfl
def OQ (b:dO)(gs:List GF):Prop:=gs.Perm (tm b)/\gs.Pairwise (λx y=>x.f.num<=y.f.num)
def Qz (w0:an)(z:List (am×Nat))(v:Value):ap:=λb=>w0.heap.size<=b/\b∉z.map (·.2)/\v.ownBlock≠some b
abbrev YM:=(am×Nat)×List GF
def MI (w0 wr:an)(z:List (am×Nat))(v:Value)(m:YM):Prop:=
 ∃fv QQ,dK wr m.1.2 #[ae m.1.1,fv] 108/\et wr (Qz w0 z v) 212 1 fv QQ.length (eQ QQ)/\fQ wr (Qz w0 z v) (kB z) m.2 QQ
structure rh (w0 wr:an)(kb:Nat)(v:Value)(z:List (am×Nat))(done:List dO)(y:List YM):Prop where
 row:wr.ownsRow w0.heap.size 105 1 v z.length (eQ (z.map (·.2)))
 map:fR wr kb z.length (kB z)
 zy:y.map (·.1)=z
 mi:∀m∈y,MI w0 wr z v m
 at_:∀x∈z,w0.heap.size<=x.2/\v.ownBlock≠some x.2
 nd:(z.map (·.2)).Nodup
 g:∀(i:Nat) (b:dO),(fW done)[i]?=some b->∃m:YM,y[i]?=some m/\OQ b m.2
 kept:dS [kb] w0 wr
def rh.start {w0 wr:an}{kb:Nat}{v:Value}{z:List (am×Nat)}(h:Ff w0 wr kb v z):rh w0 wr kb v z [] (z.map λx=>(x,[]))where
 row:=h.row
 map:=h.map
 zy:=by rw[bC];exact List.map_id z
 mi:=by
  intro m hm;obtain⟨x,hx,rfl⟩:=aQ.1 hm;exact⟨_,[],(h.msg x hx).1,et.nil0 _ _ _ _,rfl⟩
 at_:=λx hx=>⟨(h.msg x hx).2.1,(h.msg x hx).2.2⟩
 nd:=h.nd
 g:=by intro i b hb;simp[fW]at hb
 kept:=h.kept
def rh.on {w0 wr w2:an}{kb:Nat}{v:Value}{z:List (am×Nat)}{done:List dO}{y:List YM}(h:rh w0 wr kb v z done y)(hb:aj wr w2):rh w0 w2 kb v z done y where
 row:=eF hb h.row
 map:=h.map.keep (hb.block _ h.map.lt)
 zy:=h.zy
 mi:=λm hm=>by
  obtain⟨fv,QQ,h1,h2,h3⟩:=h.mi m hm;exact⟨fv,QQ,h1.below hb h1.lt,h2.keep (λb _ hl=>hb.block b hl),h3.keep (λb _ hl=>hb.block b hl)⟩
 at_:=h.at_
 nd:=h.nd
 g:=h.g
 kept:=h.kept.trans (dS.of_below hb)
def rh.enum {w0 wr:an}{kb:Nat}{v:Value}{z:List (am×Nat)}{done:List dO}{y:List YM}{b:dO}(h:rh w0 wr kb v z done y)(he:b.enum=true):rh w0 wr kb v z (done++ [b]) y where
 row:=h.row
 map:=h.map
 zy:=h.zy
 mi:=h.mi
 at_:=h.at_
 nd:=h.nd
 g:=by
  have:fW (done++ [b])=fW done:=by simp[fW,he]
  rw[this];exact h.g
 kept:=h.kept
def rh.message {w0 w2:an}{kb:Nat}{v fv2:Value}{z:List (am×Nat)}{done:List dO}{y:List YM}{b:dO}{gs:List GF}{QQ:au}{nm:am}{mbi lo:Nat}(h:rh w0 w2 kb v z done y)(he:b.enum=false)(hkb:kb<w0.heap.size)
  (hz:z[(fW done).length]?=some (nm,mbi)) (hG:OQ b gs) (hlo:∀x,lo<=x->Qz w0 z v x) (hr:et w2 (λx=>lo<=x) 212 1 fv2 QQ.length (eQ QQ)) (hf:fQ w2 (λx=>lo<=x) (kB z) gs QQ):
  ∃y',rh w0 (w2.setCell (ai mbi 1) fv2) kb v z (done++ [b]) y':=by
 have QS:(nm,mbi)∈z:=aI hz;have QR:=h.at_ _ QS;have QU:∀x,Qz w0 z v x->x≠mbi:=λx hx e=>hx.2.1 (by rw[e];exact aQ.2 ⟨_,QS,rfl⟩)
 have QP:∀x,x≠mbi->(w2.setCell (ai mbi 1) fv2).heap[x]?=w2.heap[x]?:=λx hx=>by rw[dJ,dA (λe=>hx e.symm)]
 have hlen:y.length=z.length:=by rw[<-h.zy];simp
 have QV:(fW done).length<y.length:=by
  rw[hlen]
  by_cases hq:(fW done).length<z.length
  ·exact hq
  ·rw[aU QD]at hz;cases hz
 refine⟨y.set (fW done).length ((nm,mbi),gs),?_⟩;have QT:fW (done++ [b])=fW done++ [b]:=by simp[fW,he]
 refine⟨?_,?_,?_,?_,h.at_,h.nd,?_,?_⟩
 ·exact d7 h.row (λx hx=>QP x (λe=>QR.2 (by rw[hx,e])))
 ·exact h.map.keep (QP kb (by show kb≠mbi;have:=QR.1;simp only at this;omega))
 ·rw[List.map_set,h.zy];apply List.ext_getElem?;intro j;rw[dx]
  split
  ·rename_i e
   subst e;rw[dB QD,hz]
  ·rfl
 ·intro m hm;obtain⟨j,hj⟩:=cZ hm;rw[dx]at hj
  split at hj
  ·obtain rfl:=Option.some.inj hj;obtain⟨m0,QW⟩:∃m0,y[(fW done).length]?=some m0:=⟨_,aK QV⟩;obtain⟨fv,l,h1,_,_⟩:=h.mi m0 (aI QW)
   have e0:m0.1=(nm,mbi):=by
    have:z[(fW done).length]?=some m0.1:=by rw[<-h.zy,aO,QW];rfl
    rw[hz]at this;exact(Option.some.inj this).symm
   rw[e0]at h1;refine⟨fv2,QQ,h1.set 1 fv2,?_,?_⟩
   ·exact(hr.mono (S':=Qz w0 z v) (λx hx _=>hlo x hx)).keep (λx hx _=>QP x (QU x hx))
   ·exact(hf.mono (Q:=Qz w0 z v) (λx hx _=>hlo x hx)).keep (λx hx _=>QP x (QU x hx))
  ·rename_i Q1
   have QX:m∈y:=aI hj;have QY:z[j]?=some m.1:=by rw[<-h.zy,aO,hj];rfl
   have QZ:m.1.2≠mbi:=by
    intro e;apply Q1;have e1:(z.map (·.2))[(fW done).length]?=some mbi:=by rw[aO,hz];rfl
    have e2:(z.map (·.2))[j]?=some mbi:=by rw[aO,QY,<-e];rfl
    exact(List.getElem?_inj (by rw[bm];omega) h.nd).1 (e1.trans e2.symm)
   obtain⟨fv,l,h1,h2,h3⟩:=h.mi m QX;exact⟨fv,l,(QP _ QZ).trans h1,h2.keep (λx hx _=>QP x (QU x hx)),h3.keep (λx hx _=>QP x (QU x hx))⟩
 ·intro i c hc;rw[QT,List.getElem?_append]at hc
  split at hc
  ·rename_i hi
   obtain⟨m,h1,h2⟩:=h.g i c hc;exact⟨m,by rw[dx,dA QD];exact h1,h2⟩
  ·rename_i hi
   have Q0:i=(fW done).length:=by
    by_cases hq:i-(fW done).length=0
    ·omega
    ·rw[aU QF]at hc;cases hc
   subst Q0;simp at hc;subst hc;exact⟨_,by rw[dx,dB rfl,dB QV],hG⟩
 ·have hk:=h.kept;refine⟨hk.os,hk.tape,hk.output,by simpa using hk.size,λk Q2 Q3=> ?_⟩;rw[QP k (by have:=QR.1;simp only at this;omega)];exact hk.block k Q2 Q3
def xC {z:List (am×Nat)}{s:am}:∀{r:List (am×Nat)} {mp:am->Option Nat},(∀x∈r,x.1.toList≠s.toList)->r.foldl (λmp x=>iZ mp x.1 x.2) mp s=mp s
 | [],_,_=>rfl
 |x::r,mp,h=>by
  rw[List.foldl_cons,xC (z:=z) (λy hy=>h y (be _ hy))];unfold iZ;rw[dA];unfold gE;simp;exact λe=>h x aT e.symm
def DY:∀{r:List (am×Nat)} {mp:am->Option Nat} {s:am} {b:Nat},(r.map (·.1)).Pairwise (λx y=>x.toList≠y.toList)->(s,b)∈r->r.foldl (λmp x=>iZ mp x.1 x.2) mp s=some b
 | [],_,_,_,_,h=>by simp at h
 |x::r,mp,s,b,hp,h=>by
  rw[List.foldl_cons];rw[ch,ba]at hp
  rcases aN.1 h with rfl|h
  ·rw[xC (z:=r) (λy hy e=>hp.1 y.1 (aQ.2 ⟨y,hy,rfl⟩) e.symm)];unfold iZ;rw[dB (by unfold gE;simp)]
  ·exact DY hp.2 h
def pG {z:List (am×Nat)}{s:am}{b:Nat}(hp:(z.map (·.1)).Pairwise (λx y=>x.toList≠y.toList))(h:(s,b)∈z):kB z s=some b:=DY hp h
end
section
open Go.Maps Go.ChangeMaps Go.WideMaps Go.WideElems
attribute [local go_sem↓] Go.wp_at_zero Go.wp_at_succ
structure eV (w:an)(P:ap)(v:Value)(bs:List dO)(y:List YM):Prop where
 row:et w P 105 1 v y.length (eQ (y.map (·.1.2)))
 names:y.map (·.1.1)=dX bs
 msg:∀m∈y,iF w P (kB (y.map (·.1))) m.1.2 m.1.1 m.2
 g:∀(i:Nat) (b:dO),(fW bs)[i]?=some b->∃m:YM,y[i]?=some m/\OQ b m.2
def GH (w:an)(bs:List dO)(e:Ending)(w':an):Prop:=∃v y,e= .returned v/\eV w' (λb=>w.heap.size<=b) v bs y/\aj w w'
def JO (w:an)(ta:aw)(tc:Nat)(bs:List dO)(cs:aq)(S:ap)(hrow:et w S 152 6 (.slice ta bs.length tc) bs.length cs)(hbs:eO w S cs bs)(hok:Bc bs)(hg:GOK w)(hb:BOK w):
  Calls prog 35 #[.agg #[.slice ta bs.length tc]] w (GH w bs):=by
 obtain⟨i0,RC,RD,RE,RF⟩:=info_parts Tryz.info105;have hmm:= @run_makeMap prog;have Q0:=hok.few;have C0:aj w ((w.alloc (ak #[.slice ta bs.length tc] 87)).alloc (Obj.map #[] 0)):=((Below.refl w.heap.size w).alloc (ay _) _).alloc QE _;have Rh:=(dK.new w #[.slice ta bs.length tc] 87).alloc (Obj.map #[] 0)
 have M0:fR ((w.alloc (ak #[.slice ta bs.length tc] 87)).alloc (Obj.map #[] 0)) (w.heap.size+1) 0 (λ_=>none):=by
  have:=fR.made (w.alloc (ak #[.slice ta bs.length tc] 87));simpa using this
 go_enter func35,ntmps35;go_wp2_with fail;generalize((w.alloc (ak #[.slice ta bs.length tc] 87)).alloc (Obj.map #[] 0))=w1 at*;have zk:w.heap.size+1<w1.heap.size:=M0.lt;refine(Qo w1 ta bs.length tc bs cs S (hrow.keep (λb _ hl=>C0.block b hl)) (hbs.keep (λb _ hl=>C0.block b hl)) Q0 hok.ok).mono ?_;rintro e w0 ⟨nv,rfl,QS,Q3⟩;obtain⟨na,nn,nc,rfl⟩:=dL QS;obtain rfl:nn=(dX bs).length:=eI QS;have C1:=er C0 Q3;have Rs:=Rh.below Q3 QD;have M1:=M0.keep (Q3.block _ M0.lt);have zk0:w.heap.size+1<w0.heap.size:=by have:=Q3.size;omega
 have hnl:(dX bs).length<=2001:=by
  rw[iM,bm];exact aH (bW _ _) Q0
 have Q1:∀s∈dX bs,s.size<=2000:=λs hs=>by
  obtain⟨b,QX,rfl⟩:=aQ.1 hs;exact(hok.ok b (bN.1 QX).1).name
 have QT:et w0 (λx=>w1.heap.size<=x) 9 1 (.slice na (dX bs).length nc) (dX bs).length (fx (dX bs)):=et.of QS;have B0:Ff w0 w0 (w.heap.size+1) (ah) []:=⟨bf _ _ _ _,M1,QE,List.nodup_nil,dS.refl _ _⟩;clear QS Q3 M0 M1 Rh C0;go_wp2_with fail;go_loopw [4,14] (λv i wr=>∃(k:Nat) (z:List (am×Nat)),k<=(dX bs).length/\i=aa k/\z.map (·.1)=(dX bs).take k/\Ff w0 wr (w.heap.size+1) v z) (λ_ i _=>(dX bs).length-(intOf i).toNat)
 case atStart=>exact⟨0,[],aM _,rfl,rfl,B0⟩
 case round=>
  clear B0;obtain⟨k,z,hk,rfl,hz,HB⟩:=hrel
  by_cases hlt:k<(dX bs).length
  ·obtain⟨s,hs⟩:∃s,(dX bs)[k]?=some s:=⟨_,aK hlt⟩;have hsz:=Q1 s (aI hs);have QR:(dX bs).take (k+1)=(dX bs).take k++ [s]:=by rw[bB,hs];rfl
   have hzl:z.length=k:=by have:=dF List.length hz;rw[bm,bn]at this;omega
   obtain⟨g,rfl,_,Rb,QP⟩:=eh QT.1 QD;have hgw:w1.heap.size<=g:=QT.2 g rfl;have hq:=QP wr (HB.kept.block g Rb QF) k (ae s) (by simp[fx,hs]);have Q2:=HB.row.alloc (ak #[ae s,ah] 108);obtain⟨D,RG,RH⟩:=HB.map;have Ri:=RG.alloc (ak #[ae s,ah] 108);have Rt:z.length<maxLen:=QK;have Ru:=HB.row.lt;clear QP;go_wp2_with (first|(at_mapUpdate;refine wpList_mapUpdate_own _ rfl _ _ _ 145 rfl 9 105 EZ underlying145 _ (w.heap.size+1) _ _ rfl Ri Rt _ _ _ rfl rfl (E7 s QK) _ [] (kA (some wr.heap.size)) ?_;intro w2 Q4 QQ)|(at_builtin;refine wpList_append_own_at _ rfl _ _ 83 rfl w0.heap.size 105 i0 _ 1 8 underlying83 RC RD RE RF rfl QG u4 _ _ rfl ((Q2.kept QQ (.inr (λe=>by have:=(Ru _ e).1;omega))).alloc _) _ 1 1 [_] rfl rfl (cell_one_new _ _ _) ?h1 ?h63 ?hby ?hba ?_;rotate_right;intro v' w5 Q5 QY hnil Rc))
   case h1=>rfl
   case h63=>unfold maxLen;omega
   case hby=>omega
   case hba=>have:=QQ.size;have:=HB.kept.size;simp at*;omega
   have Rw:=HB.snoc QD QQ (fR.put Ri RH Q4) QY Q5 Rc;exact⟨⟨k+1,z++ [(s,wr.heap.size)],QD,by go_num,by rw[bM,hz,QR];rfl,Rw⟩,by simp[intOf];omega⟩
  ·have hli:decide ((k:Int)<((dX bs).length:Int))=false:=QF;obtain rfl:k=(dX bs).length:=QD;rw[bg]at hz;have Rj:=rh.start HB
   have Rx:(z.map (·.1)).Pairwise (λx y=>x.toList≠y.toList):=by
    rw[hz,iM];exact List.Pairwise.sublist (List.Sublist.map _ dl) hok.names
   obtain⟨t1,t2⟩:=((show dK wr w.heap.size #[.slice ta bs.length tc] 87 from(HB.kept.block _ QD QE).trans Rs)).rules;clear HB QT Q1;go_wp2_with fail;clear t1 t2;go_loopw [32] (λi wr=>∃(k:Nat) (y:List YM),k<=bs.length/\i=aa k/\rh w0 wr (w.heap.size+1) u4 z (bs.take k) y) (λi _=>bs.length-(intOf i).toNat)
   case atStart=>exact⟨0,_,aM _,rfl,by rw[List.take_zero];exact Rj⟩
   case round=>
    clear Rj;obtain⟨k,y,hk2,rfl,HC⟩:=hrel;have CW:aj w wr:=C1.trans (HC.kept.to_below QD QE)
    by_cases hlt2:k<bs.length
    ·obtain⟨b,QX⟩:=gx hlt2;have Q8:=aI QX;have QR:bs.take (k+1)=bs.take k++ [b]:=by rw[bB,QX];rfl
     obtain⟨g,rfl,_,Rb,QP⟩:=eh hrow.1 QD;obtain⟨pa,pn,pc,va,vn,vc,p0,p1,p2,p3,p4,p5,RI,Rq,RJ,_⟩:=hbs.get QX;obtain rfl:pn=b.parts.length:=eI Rq.1;have QV:=QP wr (CW.block g Rb);rw[Nat.add_zero]at p0;have q0:=QV _ _ p0;have q1:=QV _ _ p1;have q2:=QV _ _ p2;have q3:=QV _ _ p3;have q4:=QV _ _ p4;have q5:=QV _ _ p5;have KB:=dK.new wr #[.bool b.enum,aa (dH b.name.1),ae b.name.1,aa b.name.2,.slice pa b.parts.length pc,.slice va vn vc] 152;have Q6:=HC.on ((Below.refl wr.heap.size wr).alloc (ay _) (ak #[.bool b.enum,aa (dH b.name.1),ae b.name.1,aa b.name.2,.slice pa b.parts.length pc,.slice va vn vc] 152));clear QP QV p0 p1 p2 p3 p4 p5 HC
     cases hen:b.enum
     ·rw[hen]at q0 KB Q6
      have Ry:(fW bs)[(fW (bs.take k)).length]?=some b:=by
       have e1:bs=bs.take k++b::bs.drop (k+1):=by
        conv=>lhs;rw[<-bX k bs]
        rw[aZ hlt2];rw[aK hlt2]at QX;rw[Option.some.inj QX]
       have e2:fW bs=fW (bs.take k)++b::fW (bs.drop (k+1)):=by
        conv=>lhs;rw[e1]
        simp[fW,hen]
       rw[e2];simp
      obtain⟨QZ,Re⟩:∃QZ,z[(fW (bs.take k)).length]?=some (b.name.1,QZ):=by
       have e3:(z.map (·.1))[(fW (bs.take k)).length]?=some b.name.1:=by rw[hz,iM,aO,Ry];rfl
       rw[aO]at e3;obtain⟨x,hx,RK⟩:=aX.1 e3;exact⟨x.2,by rw[hx,<-RK]⟩
      have Rk:kB z b.name.1=some QZ:=pG Rx (aI Re);have hbsz:=(hok.ok b Q8).name;go_upto_region 14 with fail
      clear q0 q1 q2 q3 q4 q5;have Rz:aj w (wr.alloc (ak #[.bool false,aa (dH b.name.1),ae b.name.1,aa b.name.2,.slice pa b.parts.length pc,.slice va vn vc] 152)):=CW.alloc CW.size _;generalize hw1:wr.alloc (ak #[.bool false,aa (dH b.name.1),ae b.name.1,aa b.name.2,.slice pa b.parts.length pc,.slice va vn vc] 152)=W1 at*;have zc:wr.heap.size<W1.heap.size:=KB.lt;clear hw1;generalize wr.heap.size=c9 at*;have Q7:aj w W1.drew:=Rz.drew;have Q9:=KB.drew;have QU:rh w0 W1.drew (w.heap.size+1) u4 z (bs.take k) y:=Q6.on (Below.refl _ _).drew
      have Rl:Hid (Calls prog 67 #[.map (some (w.heap.size+1)),.agg #[.bool false,aa (dH b.name.1),ae b.name.1,aa b.name.2,.slice pa b.parts.length pc,.slice va vn vc]] W1.drew (xB W1.drew (kB z) b)):=by
       have:=GD W1.drew (w.heap.size+1) z.length (kB z) b pa va pc vn vc RI S (Rq.keep (λx _ hl=>Q7.block x hl)) (RJ.keep (λx _ hl=>Q7.block x hl)) QU.map (hok.ok b Q8).parts (λp hp f hf=>hok.field Q8 hen hp hf) (hg.keep (Q7.block _ hg.lt)) (hb.keep (Q7.block _ hb.lt));rw[hen]at this;exact this
      have QW:=QU.map.look b.name.1 QK;rw[Rk]at QW;unfold gC at QW
      have Rm:Hid (∀w2:an,Below W1.drew.heap.size W1.drew w2->(Instr.lookup 145 (.map (some (w.heap.size+1))) (ae b.name.1) false).run prog w2= .ok (ag QZ) w2):=λw2 h2=>by
       have h3:=((QU.on h2).map.look b.name.1 QK);rw[Rk]at h3;exact h3
      have Rn:Hid (∀w2:an,Below W1.drew.heap.size W1.drew w2->∃fv,dK w2 QZ #[ae b.name.1,fv] 108):=λw2 h2=>by
       have h3:=QU.on h2;have h4:(b.name.1,QZ)∈z:=aI Re;rw[<-h3.zy]at h4;obtain⟨m,hm,RL⟩:=aQ.1 h4;obtain⟨fv,Rf,h5,_,_⟩:=h3.mi m hm;rw[RL]at h5;exact⟨fv,h5⟩
      obtain⟨x1,x2⟩:=Q9.rules;go_region_with (first|(go_at_call 67;refine Rl.out.mono ?_;rintro e w2 ⟨fv2,gs,Rf,rfl,RM,RN,Rr,RO,b2⟩;obtain⟨fa2,fn2,fc2,rfl⟩:=dL Rr.1;have Ra:=Rm.out w2 b2;obtain⟨fvo,KM⟩:=Rn.out w2 b2;obtain⟨x3,x4⟩:=(Q9.below b2 Q9.lt).rules;obtain⟨x5,x6⟩:=KM.rules))
      all_goals
       have Ro:=QU.on b2
       have Rp:∀x,W1.drew.heap.size<=x->Qz w0 z u4 x:=λx hx=>by
        refine⟨?_,?_,?_⟩
        ·have:=QU.kept.size;omega
        ·intro Rg;obtain⟨q,hq,rfl⟩:=aQ.1 Rg;rw[<-QU.zy]at hq;obtain⟨m,hm,rfl⟩:=aQ.1 hq;obtain⟨_,_,h5,_,_⟩:=QU.mi m hm;have:=h5.lt;omega
        ·intro e;have:=(QU.row.lt _ e).2;omega
       obtain⟨y',RP⟩:=Ro.message hen QD Re ⟨RM,RN⟩ Rp Rr RO;clear Ro Rp Rl Rm Rn QW Ra x1 x2 x3 x4 x5 x6;go_wp2;go_roundw
       case rel=>exact⟨k+1,y',QD,rfl,by rw[QR];exact RP⟩
       case measure=>simp[intOf];omega
     ·rw[hen]at q0 KB Q6;go_wp2;go_roundw
      case rel=>exact⟨k+1,y,QD,rfl,by rw[QR];exact Q6.enum hen⟩
      case measure=>simp[intOf];omega
    ·have hli2:decide ((k:Int)<(bs.length:Int))=false:=QF;obtain rfl:k=bs.length:=QD;rw[bg]at HC;go_wp2;go_ret;have RA:y.length=z.length:=by rw[<-HC.zy];simp
     refine⟨u4,y,rfl,⟨?_,?_,?_,HC.g⟩,CW⟩
     ·have h1:=et.of HC.row;have e1:y.map (·.1.2)=z.map (·.2):=by rw[<-HC.zy,bC];rfl
      rw[e1,RA];exact h1.mono (λx hx _=>by show w.heap.size<=x;omega)
     ·have e1:y.map (·.1.1)=z.map (·.1):=by rw[<-HC.zy,bC];rfl
      rw[e1,hz]
     ·intro m hm;obtain⟨fv,Rf,h1,h2,h3⟩:=HC.mi m hm;have RB:m.1∈z:=by rw[<-HC.zy];exact aQ.2 ⟨m,hm,rfl⟩
      rw[HC.zy];exact⟨fv,Rf,h1,by have:=(HC.at_ _ RB).1;show w.heap.size<=m.1.2;omega,h2.mono (λx hx _=>by have:=hx.1;show w.heap.size<=x;omega),h3.mono (λx hx _=>by have:=hx.1;show w.heap.size<=x;omega)⟩
end
def nr (b:dO):MT:=⟨b.name.1,b.parts.flatMap λp=>p.fields.map (iL p.oneof)⟩
def dV (bs:List dO):d8:=⟨(fW bs).map nr,(bs.filter λb=>b.enum).map λb=>b.name.1⟩
def xD:∀(l:List (List UInt8)) (s:List UInt8) (k:Nat),l.contains s=false->AU l s k=none
 | [],s,k,_=>rfl
 |x::l,s,k,h=>by
  rw[aY,da]at h;rw[AU,dA (by simp_all)];exact xD l s (k+1) h.2
def xE:∀(l:List (List UInt8)) (s:List UInt8) (k:Nat),l.contains s=true->∃n,AU l s k=some n
 | [],s,k,h=>by grind
 |x::l,s,k,h=>by
  rw[AU]
  by_cases q:(s==x)=true
  ·simp_all
  ·rw[dA q];rw[aY,cj]at h;exact xE l s (k+1) (h.resolve_left q)
def Bd (t:am):∀(z:List (am×Nat)) (mp:am->Option Nat),(z.foldl (λmp x=>iZ mp x.1 x.2) mp t).isSome=(eM (z.map (·.1)) t||(mp t).isSome)
 | [],mp=>QJ
 |x::z,mp=>by
  rw[List.foldl_cons,Bd t z];unfold iZ eM gE
  grind
def qB (z:List (am×Nat))(t:am):(kB z t).isSome=eM (z.map (·.1)) t:=by
 unfold kB;rw[Bd];simp
def iG (l:ar)(s:am):eM l s=true<->∃x∈l,x.toList=s.toList:=by
 unfold eM;simp
def CP {bs:List dO}(hok:Bc bs){t:am}(h:eM (fH bs) t=true):eM ((bs.filter λb=>b.enum).map λb=>b.name.1) t= !(eM (dX bs) t):=by
 have key:∀b∈bs,∀c∈bs,b.name.1.toList=t.toList->c.name.1.toList=t.toList->b.enum=c.enum:=by
  intro b hb c hc h1 h2;obtain⟨i,hi⟩:=cZ hb;obtain⟨j,hj⟩:=cZ hc;have hp:=hok.names;unfold fH at hp;rw[bY,bH]at hp
  grind
 obtain⟨x,hx,QP⟩:=(iG _ _).1 h;obtain⟨b,hb,rfl⟩:=aQ.1 hx
 cases he:b.enum
 ·have h1:eM (dX bs) t=true:=(iG _ _).2 ⟨_,aQ.2 ⟨b,bN.2 ⟨hb,by grind⟩,rfl⟩,QP⟩;rw[h1]
  cases h2:eM ((bs.filter λb=>b.enum).map λb=>b.name.1) t
  ·rfl
  ·obtain⟨y,hy,QQ⟩:=(iG _ _).1 h2
   grind
 ·have h1:eM ((bs.filter λb=>b.enum).map λb=>b.name.1) t=true:=(iG _ _).2 ⟨_,aQ.2 ⟨b,bN.2 ⟨hb,QD⟩,rfl⟩,QP⟩;rw[h1]
  cases h2:eM (dX bs) t
  ·rfl
  ·obtain⟨y,hy,QQ⟩:=(iG _ _).1 h2;obtain⟨c,hc,rfl⟩:=aQ.1 hy
   grind
def ug {bs:List dO}(hok:Bc bs){z:List (am×Nat)}(hz:z.map (·.1)=dX bs){t:am}(ht:dH t=3\/(dH t=1/\eM (fH bs) t=true)):(dV bs).base t=iU (kB z) t:=by
 unfold d8.base iU
 by_cases h3:dH t=3
 ·rw[dB h3];obtain⟨n,hn⟩:=xE mz t.toList 0 (lS h3);unfold mS
  simp_all
 ·rw[dA h3];obtain⟨h1,hm⟩:=ht.resolve_left h3
  have hb:mz.contains t.toList=false:=by
   cases q:mz.contains t.toList
   ·rfl
   ·exfalso;have h4:=AS t;rw[show jh t.toList=true from q]at h4
    simp_all
  rw[xD _ _ _ hb,qB,hz];show(if eM ((bs.filter λb=>b.enum).map λb=>b.name.1) t then 15 else 16)=_;rw[CP hok hm]
  cases eM (dX bs) t<;>rfl
def pH (a b:am):gE a b=true<->a.toList=b.toList:=by unfold gE;simp
def oH {t:am}:∀{l:List dO},(∃b∈l,b.name.1.toList=t.toList)->∃(i:Nat) (b:dO),l[i]?=some b/\b.name.1.toList=t.toList/\lP (l.map nr) t=some (nr b)
 | [],h=>by simp_all
 |c::l,h=>by
  by_cases q:c.name.1.toList=t.toList
  ·exact⟨0,c,rfl,q,by rw[ch,lP,dB (show gE (nr c).name t=true from(pH _ _).2 q)]⟩
  ·obtain⟨b,hb,QR⟩:=h
   rcases aN.1 hb with rfl|hb
   ·simp_all
   ·obtain⟨i,d,h1,h2,h3⟩:=oH (t:=t) (l:=l) ⟨b,hb,QR⟩;exact⟨i+1,d,by simpa using h1,h2,by rw[ch,lP,dA (show¬gE (nr c).name t=true from λe=>q ((pH _ _).1 e))];exact h3⟩
def oI {t:am}:∀{l:List dO},(∀b∈l,b.name.1.toList≠t.toList)->lP (l.map nr) t=none
 | [],_=>rfl
 |c::l,h=>by
  rw[ch,lP,dA (show¬gE (nr c).name t=true from λe=>h c aT ((pH _ _).1 e))];exact oI (λb hb=>h b (be _ hb))
def GI {z:List (am×Nat)}{s t:am}(h:s.toList=t.toList):kB z s=kB z t:=by
 obtain rfl:s=t:=by
  apply cK;apply cN.1;rw[<-ByteArray.toList_eq,<-ByteArray.toList_eq];exact h
 rfl
def oJ {bs:List dO}(hok:Bc bs){z:List (am×Nat)}(hz:z.map (·.1)=dX bs){t:am}(h:eM (dX bs) t=true):
  ∃(i:Nat) (b:dO) (blk:Nat),(fW bs)[i]?=some b/\(dV bs).msg t=some (nr b)/\z[i]?=some (b.name.1,blk)/\kB z t=some blk:=by
 obtain⟨x,hx,QS⟩:=(iG _ _).1 h;obtain⟨c,hc,rfl⟩:=aQ.1 hx;obtain⟨i,b,h1,h2,h3⟩:=oH (t:=t) (l:=fW bs) ⟨c,hc,QS⟩;have e3:(z.map (·.1))[i]?=some b.name.1:=by rw[hz,iM,aO,h1];rfl
 rw[aO]at e3;obtain⟨y,hy,QT⟩:=aX.1 e3;have QP:y=(b.name.1,y.2):=by rw[<-QT]
 have QQ:(z.map (·.1)).Pairwise (λx y=>x.toList≠y.toList):=by
  rw[hz,iM];exact List.Pairwise.sublist (List.Sublist.map _ dl) hok.names
 refine⟨i,b,y.2,h1,h3,by rw[hy,<-QP],?_⟩;rw[<-GI h2];exact pG QQ (by grind)
def uY {bs:List dO}{z:List (am×Nat)}(hz:z.map (·.1)=dX bs){t:am}(h:eM (dX bs) t=false):(dV bs).msg t=none/\kB z t=none:=by
 refine⟨oI (λb hb e=> ?_),?_⟩
 ·have:eM (dX bs) t=true:=(iG _ _).2 ⟨_,aQ.2 ⟨b,hb,rfl⟩,e⟩
  simp_all
 ·have:=qB z t
  simp_all
def gQ (ps:List fC):ar:=ps.filterMap λp=>p.oneof.map (·.1)
def lU {types:ar}:∀(fs:List eD) (names:ar) (nums:au) (n:ar) (m:au),fM types names nums fs= .ok (n,m)->∀s,eM names s=true->eM n s=true
 | [],names,nums,n,m,h,s,hs=>by
  simp[fM]at h
  simp_all
 |f::fs,names,nums,n,m,h,s,hs=>by
  unfold fM at h
  split at h
  ·cases h
  ·rename_i n1 m1 h1
   have g:=q9 h1;refine lU fs n1 m1 n m h s ?_;rw[g.2.2.2.1,kO,hs];rfl
def ri {types:ar}:∀(ps:List fC) (names:ar) (nums:au) (n:ar) (m:au),gF types names nums ps= .ok (n,m)->(∀p∈ps,∀o,p.oneof=some o->dH o.1=1)->
  (gQ ps).Pairwise (λx y=>x.toList≠y.toList)/\(∀s∈gQ ps,eM names s=false)
 | [],names,nums,n,m,_,_=>⟨List.Pairwise.nil,by simp[gQ]⟩
 |p::ps,names,nums,n,m,h,hk=>by
  unfold gF at h
  split at h
  ·cases h
  ·rename_i n1 m1 h1
   have ih:=ri ps n1 m1 n m h (λq hq=>hk q (be _ hq))
   cases ho:p.oneof with
   |none=>
    have e:gQ (p::ps)=gQ ps:=by simp[gQ,ho]
    rw[e];refine⟨ih.1,λs hs=> ?_⟩;have h2:=ih.2 s hs;unfold oA at h1;rw[ho]at h1;have h3:fM types names nums p.fields= .ok (n1,m1):=by simpa [mE]using h1
    cases q:eM names s
    ·rfl
    ·rw[lU _ _ _ _ _ h3 s q]at h2
     cases h2
   |some o=>
    have e:gQ (p::ps)=o.1::gQ ps:=by simp[gQ,ho]
    rw[e];have hk1:dH o.1=1:=hk p aT o ho;unfold oA at h1;rw[ho]at h1
    have hq:(mE (some o)==1)=true:=by
     show(dH o.1==1)=true
     (simp;omega)
    rw[dB hq]at h1
    split at h1
    ·cases h1
    ·rename_i hb
     have QS:iB names o.1=false:=by simpa [jm]using hb
     have hm:eM names o.1=false:=by
      unfold iB at QS
      simp_all
     have QR:∀s,eM (names++ [o.1]) s=true->eM n1 s=true:=lU _ _ _ _ _ h1;refine⟨List.Pairwise.cons (λy hy e2=> ?_) ih.1,λs hs=> ?_⟩
     ·have h4:=ih.2 y hy;rw[QR y (by rw[kO];simp[eM,e2])]at h4
      cases h4
     ·rcases aN.1 hs with rfl|hs
      ·exact hm
      ·have h4:=ih.2 s hs
       cases q:eM names s
       ·rfl
       ·rw[QR s (by rw[kO,q];rfl)]at h4
        cases h4
def lV {types:ar}:∀(bs:List dO) (names:ar) (m:Nat),fG types names m bs= .ok ()->∀b∈bs,b.enum=false->∃a c,gF types [] [] b.parts= .ok (a,c)
 | [],_,_,_,b,hb,_=>by simp at hb
 |x::bs,names,m,h,b,hb,he=>by
  unfold fG at h
  split at h
  ·cases h
  ·split at h
   ·rename_i hx
    split at h
    ·cases h
    ·rcases aN.1 hb with rfl|hb
     ·simp_all
     ·exact lV bs _ _ h b hb he
   ·split at h
    ·cases h
    ·split at h
     ·cases h
     ·rename_i n1 h5
      rcases aN.1 hb with rfl|hb
      ·grind
      ·exact lV bs _ _ h b hb he
def CQ {t:am}{bs:List dO}(h:iw t= .ok bs){b:dO}(hb:b∈bs)(he:b.enum=false):(gQ b.parts).Pairwise (λx y=>x.toList≠y.toList):=by
 have QT:=qA h;unfold iw at h
 split at h
 ·cases h
 ·split at h
  ·cases h
  ·split at h
   ·cases h
   ·rename_i h4
    cases h
    obtain⟨a,c,hp⟩:=lV _ _ _ h4 b hb he;refine(ri _ _ _ _ _ hp (λp hp o ho=> ?_)).1
    rcases(QT.shape b hb p hp).2 with⟨o2,h1,h2,_⟩|⟨h1,_⟩
    ·simp_all
    simp_all
def kC (d:MT)(f:eP):List Int:=(d.fs.filter λo=>gE o.how f.how&&jd o.how&&decide (o.num≠f.num)).map (·.num)
def NJ (s:am)(k:Nat):fE s k=((s.data.toList.getD k 0).toNat:Int):=by
 have hz:s.data.size=s.size:=rfl;unfold fE
 by_cases h:k<s.size
 ·rw[dif_pos h,bZ,bt,bz (show k<s.data.size from h)];rfl
 ·rw[dif_neg h,bZ,bt,cy QD];rfl
def xF (s:am):jd (p8 s)=true:=by
 rfl
def JP {s t:am}(h:gE (p8 s) (p8 t)=true):s.toList=t.toList:=by
 rw[pH]at h;unfold p8 at h;rw[ByteArray.toList_eq,ByteArray.toList_eq]at h⊢
 simp_all
def xG (form:Int):jd (wW none form)=false:=by
 unfold wW;simp only
 split
 ·decide
 ·split
  ·decide
  ·split<;>decide
def Mp {q p:fC}{o:W}{f g:eD}(hp:p.oneof=some o)(hq:∀o2,q.oneof=some o2->o2.1.toList≠o.1.toList):(gE (iL q.oneof g).how (iL p.oneof f).how&&jd (iL q.oneof g).how)=false:=by
 cases QQ:q.oneof with
 |none=>
  show(gE (wW none g.form) _&&jd (wW none g.form))=false;rw[xG,cr]
 |some o2=>
  rw[hp];show(gE (p8 o2.1) (p8 o.1)&&jd (p8 o2.1))=false
  cases h:gE (p8 o2.1) (p8 o.1)
  ·rfl
  ·exact absurd (JP h) (hq o2 QQ)
def xH {q p:fC}{o:W}{f:eD}(hp:p.oneof=some o)(hq:∀o2,q.oneof=some o2->o2.1.toList≠o.1.toList):
  ((q.fields.map (iL q.oneof)).filter λx=>gE x.how (iL p.oneof f).how&&jd x.how&&decide (x.num≠(iL p.oneof f).num))= []:=by
 rw[List.filter_eq_nil_iff];intro x hx;obtain⟨g,_,rfl⟩:=aQ.1 hx;rw[Mp hp hq];simp
def JQ (s:am):gE s s=true:=(pH _ _).2 rfl
def Mq {b:dO}(hones:(gQ b.parts).Pairwise (λx y=>x.toList≠y.toList))(hshape:yY b){p:fC}(hp:p∈b.parts){f:eD}(hf:f∈p.fields):kC (nr b) (iL p.oneof f)=oE p f:=by
 unfold kC nr;simp only;rw[List.filter_flatMap]
 cases ho:p.oneof with
 |none=>
  have h0:∀q∈b.parts,((q.fields.map (iL q.oneof)).filter λx=>gE x.how (iL none f).how&&jd x.how&&decide (x.num≠(iL none f).num))= []:=by
   intro q _;rw[List.filter_eq_nil_iff];intro x _ hx;simp only[aJ]at hx;have e:x.how.toList=(wW none f.form).toList:=(pH _ _).1 hx.1.1
   have e2:x.how=wW none f.form:=by
    apply cK;apply cN.1;rw[<-ByteArray.toList_eq,<-ByteArray.toList_eq];exact e
   have h1:=hx.1.2;rw[e2,xG]at h1
   cases h1
  rw[List.flatMap_eq_nil_iff.2 h0]
  rcases(hshape p hp).2 with⟨o,h1,_⟩|⟨_,g,hg,_⟩
  ·simp_all
  ·rw[hg]at hf;have e:f=g:=by simp_all
   unfold oE
   simp_all
 |some o=>
  obtain⟨l1,l2,hl⟩:=List.append_of_mem hp
  have QP:gQ b.parts=gQ l1++o.1::gQ l2:=by
   rw[hl];simp[gQ,ho]
  rw[QP,bS]at hones;obtain⟨_,h2,h3⟩:=hones;rw[ba]at h2
  have QU:∀q∈l1,∀o2,q.oneof=some o2->o2.1.toList≠o.1.toList:=λq hq o2 QQ=>
   h3 o2.1 (List.mem_filterMap.2 ⟨q,hq,by simp_all⟩) o.1 aT
  have QV:∀q∈l2,∀o2,q.oneof=some o2->o2.1.toList≠o.1.toList:=λq hq o2 QQ e=>
   h2.1 o2.1 (List.mem_filterMap.2 ⟨q,hq,by simp_all⟩) e.symm
  rw[hl,cS,bw];rw[List.flatMap_eq_nil_iff.2 (λq hq=>by rw[<-ho];exact xH ho (QU q hq)),List.flatMap_eq_nil_iff.2 (λq hq=>by rw[<-ho];exact xH ho (QV q hq))];rw[aR,bK,ho]
  have QW:((p.fields.map (iL (some o))).filter λx=>gE x.how (iL (some o) f).how&&jd x.how&&decide (x.num≠(iL (some o) f).num))=(p.fields.filter λx=>decide (iY x≠iY f)).map (iL (some o)):=by
   rw[List.filter_map]
   congr 1;apply List.filter_congr;intro x _;show(gE (p8 o.1) (p8 o.1)&&jd (p8 o.1)&&decide ((gA x.num.1:Int)≠(gA f.num.1:Int)))=decide (iY x≠iY f);rw[JQ,xF];rfl
  rw[QW,bC];rfl
section
attribute [local go_sem↓] Go.wp_at_zero Go.wp_at_succ
def dU (w:an)(rb:Nat)(s:am)(a:Nat)(deep:Int):Prop:=dK w rb #[ae s,aa a,aa deep] 244
def GJ (w:an)(s:am):Calls prog 84 #[ae s] w λe w'=>e= .returned (ag w.heap.size)/\w'=w.alloc (.cells #[ae s,aa 0,aa 1] 244):=by
 go_enter func84,ntmps84;go_wp2;go_ret;exact⟨rfl,rfl⟩
def qC (w:an)(rb:Nat)(s:am)(a:Nat)(deep:Int)(h:dU w rb s a deep):Calls prog 129 #[ag rb] w λe w'=>e= .returned (.bool (decide (a<s.size)))/\∃q,w'=w.drewN q:=by
 have e0:decide (a<s.size)=decide ((a:Int)<(s.size:Int)):=by rw[cn];simp
 rw[e0];obtain⟨k1,k2⟩:=dK.rules h;go_enter func129,ntmps129;go_wp2_with fail;go_quiet (fail)
 go_wp2;go_ret;exact⟨rfl,nq,rfl⟩
def Oa (w:an)(rb:Nat)(s:am)(a:Nat)(deep:Int)(h:dU w rb s a deep):Calls prog 130 #[ag rb] w λe w'=>e= .returned (aa a)/\w'=w:=by
 obtain⟨k1,k2⟩:=dK.rules h;go_enter func130,ntmps130;go_wp2;go_ret;exact⟨rfl,rfl⟩
def uh (w:an)(rb:Nat)(s:am)(a:Nat)(deep:Int)(st:Nat)(h:dU w rb s a deep)(h1:st<=a)(h2:a<=s.size):
  Calls prog 136 #[ag rb,aa st] w λe w'=>e= .returned (ae (s.extract st a))/\∃q,w'=w.drewN q:=by
 obtain⟨k1,k2⟩:=dK.rules h;go_enter func136,ntmps136;go_wp2_with fail;go_quiet (fail)
 go_wp2;go_ret;exact⟨rfl,nq,rfl⟩
def CR (w:an)(rb:Nat)(s:am)(a:Nat)(deep:Int)(h:dU w rb s a deep)(h2:a<=s.size):
  Calls prog 272 #[ag rb] w λe w'=>e= .returned (ae (s.extract a s.size))/\∃q,w'=w.drewN q:=by
 obtain⟨k1,k2⟩:=dK.rules h;go_enter func272,ntmps272;go_wp2_with fail;go_quiet (fail)
 go_wp2;go_ret;exact⟨rfl,nq,rfl⟩
end


def Tryz.info102:(prog.info? 102).map (λi=>(i.zero,i.size,i.bytes))=some (some (.agg #[ae ⟨#[]⟩,aa 0]),2,24):=QI
def lG (w:an)(a b:Value)(t:TypeId):∀j u,[a,b][j]?=some u->(w.alloc (.cells #[a,b] t)).cell? (((ai w.heap.size 0):Addr).add j)=some u:=by
 intro j u hj
 match j,hj with
 |0,hj=>simp at hj;subst hj;simp[Addr.add]
 |1,hj=>simp at hj;subst hj;simp[Addr.add]
 |j+2,hj=>simp at hj
def dS.drewN {bs:au}{a b:an}(h:dS bs a b)(n:Nat):dS bs a (b.drewN n):=h.trans ⟨rfl,rfl,rfl,ay _,λ_ _ _=>rfl⟩
def dK.kept {w w1:an}{bs:au}{b:Nat}{cs:Array Value}{T:TypeId}(h:dK w b cs T)(hk:dS bs w w1)(hn:b∉bs):dK w1 b cs T:=(hk.block b h.lt hn).trans h
def jP (t:am)(k:Nat):0<=fE t k/\fE t k<256:=by
 unfold fE
 split
 ·rename_i h
  have:=t[k].toNat_lt;omega
 ·omega
def xI (i:Nat):(2:Int)^(7*(i+1))=128*2^(7*i):=by
 rw[show 7*(i+1)=7*i+7 from by omega,Int.pow_add];omega
def uZ {i j:Nat}(h:i<=j):(2:Int)^i<=2^j:=by
 have:=dd (n:=2) QG h
 exact_mod_cast this
def zh {i:Nat}{n c:Int}(h0:0<=n)(h1:n<2^(7*i)):0<=n+c%128*2^(7*i)/\n+c%128*2^(7*i)<2^(7*(i+1)):=by
 have hp:(0:Int)<2^(7*i):=Int.pow_pos QG;have h2:0<=c%128:=Int.emod_nonneg _ QG;have h3:c%128<=127:=by have:=Int.emod_lt_of_pos c (show(0:Int)<128 by decide);omega
 rw[xI];generalize(2:Int)^(7*i)=q at*;have h4:0<=c%128*q:=Int.mul_nonneg h2 QD;have h5:c%128*q<=127*q:=Int.mul_le_mul_of_nonneg_right h3 QD;omega
def gh {c:Int}(h0:0<=c)(h1:c<18446744073709551616):IntKind.u64.wrap c=c:=by
 simp[IntKind.wrap,IntKind.signed,IntKind.bits];omega
section
attribute [local go_sem↓] Go.wp_at_zero Go.wp_at_succ
def oL {α:Type}(w:an)(rb:Nat)(s:am)(deep:Int)(r:Fx (α×Nat))(V:α->Value)(e:Ending)(w':an):Prop:=
 dS [rb] w w'/\(match r with
 | .error x=>e=dI x.1 x.2
 | .ok x=>e= .returned (V x.1)/\dU w' rb s x.2 deep)
def dS.set1 {bs:au}{a b:an}(h:dS bs a b){c:Nat}(hp:c∈bs)(off:Nat)(u:Value):dS bs a (b.setCell (ai c off) u):=
 h.trans ⟨rfl,rfl,rfl,QE,λk _ hn=>by
  rw[dJ,dA];intro e;rw[e]at hp
  exact hn hp⟩
def Mr:∀c:Fin 256,bits .andNot .u8 ((c.val:Nat):Int) 128=((c.val%128:Nat):Int)/\(bits .and .u8 ((c.val:Nat):Int) 128==0)=decide (c.val<128):=QH
def DZ {c:Int}(h0:0<=c)(h1:c<256):bits .andNot .u8 c 128=c%128/\(bits .and .u8 c 128==0)=decide (c<128):=by
 obtain⟨n,rfl⟩:=bo h0;have:=Mr ⟨n,QD⟩;refine⟨?_,?_⟩
 ·rw[this.1];simp
 ·rw[this.2,cn];simp;omega
def JR {n x:Int}{k:Nat}(h0:0<=n)(h1:n<2^k)(hx:0<=x)(h2:n+x*2^k<18446744073709551616):bits .or .u64 n (x*2^k)=n+x*2^k:=by
 obtain⟨a,rfl⟩:=bo h0;obtain⟨b,rfl⟩:=bo hx;have e:((b:Int)*2^k)=((b*2^k:Nat):Int):=by push_cast;rfl
 rw[e]at h2⊢;have ha:a<2^k:=by exact_mod_cast h1
 rw[bits_or_u64_nat a (b*2^k) QD QD,Nat.or_comm,<-de,<-cW ha,de]
 push_cast
 omega
def dU.drewN {w:an}{rb:Nat}{s:am}{a:Nat}{deep:Int}(h:dU w rb s a deep)(q:Nat):dU (w.drewN q) rb s a deep:=h
def im (w:an)(rb:Nat)(s:am)(a:Nat)(deep:Int)(h:dU w rb s a deep)(hs:s.size<=140737488355328):
  Calls prog 182 #[ag rb] w (oL w rb s deep (gy s a s.size) (Value.int .u64)):=by
 obtain⟨r,HR⟩:∃r,Hid (gy s a s.size=r):=⟨_,rfl⟩;rw[HR.out];obtain⟨k1,k2⟩:=dK.rules h;go_enter func182,ntmps182;go_wp2;clear k1 k2;go_loopw [4,5] (λv sh wr=>∃(i:Nat) (n:Int),i<=9/\v= .int .u64 n/\sh=aa ((7*i:Nat):Int)/\0<=n/\n<2^(7*i)/\Hid (lz s a s.size (10-i) i n=r)/\dU wr rb s (a+i) deep/\dS [rb] w wr) (λ_ sh _=>63-(intOf sh).toNat)
 case atStart=>exact⟨0,0,QD,rfl,rfl,QD,QE,HR,h,dS.refl _ _⟩
 case round=>
  clear HR;obtain⟨i,n,hi,rfl,rfl,Q4,Q5,HV,QR,HK⟩:=hrel;have hrl:=dK.lt QR;obtain⟨m,hm⟩:∃m,10-i=m+1:=⟨9-i,QD⟩;have HN:Hid (n<2^(7*i)):=Q5;clear Q5
  by_cases hlt:a+i<s.size
  ·have QU:=jb (t:=s) (k:=a+i) hlt;have QY:=jP s (a+i);obtain⟨c,hc⟩:∃c,fE s (a+i)=c:=⟨_,rfl⟩;have HC:Hid (fE s (a+i)=c):=hc;rw[hc]at QU QY;clear hc;obtain⟨QX,Q6⟩:=QY;obtain⟨z,hz⟩:∃z,a+i=z:=⟨_,rfl⟩;have HZ:Hid (a+i=z):=hz;rw[hz]at QR hlt;have hbk2:(s[z].toNat:Int)=c:=by simp only[<-hz];exact QU
   clear hz QU;go_wp2_with fail;refine(qC _ _ _ _ _ QR).mono ?_;rintro e w2 ⟨rfl,q,rfl⟩;rw[decide_eq_true hlt];have QZ:=QR.drewN q;have Q7:=HK.drewN q;generalize wr.drewN q=wq at*;have hzl:(z:Int)<(s.size:Int):=QD;obtain⟨k1,k2⟩:=dK.rules QZ;go_upto_region 6 with fail
   go_quiet (fail)
   have QS:dU (wq.drewN nq) rb s z deep:=QZ.drewN nq;have QT:=Q7.drewN nq;generalize wq.drewN nq=w3 at*;clear k1 k2;obtain⟨k1,k2⟩:=dK.rules QS
   by_cases h9:i=9/\1<c
   ·obtain⟨rfl,Q2⟩:=h9
    have HE:Hid (r= .error (7,(a:Int))):=by
     have:=HV.out;rw[hm,lz,dB (by have:=HZ.out;omega),dB ⟨rfl,by rw[HC.out];exact Q2⟩]at this;exact this.symm
    clear HN HV;go_wp2_with fail;refine(Gg _ _ _).mono ?_;rintro e w4 ⟨rfl,rfl⟩;go_wp2;rw[HE.out];exact⟨rfl,QT,rfl⟩
   ·have Q0:¬(7*(i:Int)==63)=true\/¬1<c:=by
     by_cases h:i=9
     ·exact .inr (λhc=>h9 ⟨h,hc⟩)
     ·exact .inl QF
    have hg:=zh (i:=i) (c:=c) Q4 HN.out;have Q1:Hid (n+c%128*2^(7*i)<2^(7*(i+1))):=hg.2;have QV:=hg.1;have QQ:0<=c%128:=Int.emod_nonneg _ QG;have QW:0<=c%128*2^(7*i):=Int.mul_nonneg QQ (Int.le_of_lt (Int.pow_pos QG))
    have QP:n+c%128*2^(7*i)<18446744073709551616:=by
     by_cases h:i=9
     ·subst h;have h1:=HN.out;have Q2:¬1<c:=λh=>h9 ⟨rfl,h⟩
      have:c%128=c:=Int.emod_eq_of_lt QX QD;rw[this];simp only[Nat.reduceMul,Int.reducePow]at*;omega
     ·have h2:(2:Int)^(7*(i+1))<=2^63:=uZ QD;have h1:=hg.2;omega
    have HX:Hid (bits BinOp.or IntKind.u64 n (IntKind.u64.wrap (IntKind.u64.wrap (bits BinOp.andNot IntKind.u8 c 128)*2^(7*i)))=n+c%128*2^(7*i)):=by
     have Q8:=gh QQ QD;have Q9:=gh QW QD;show bits BinOp.or IntKind.u64 n (IntKind.u64.wrap (IntKind.u64.wrap (bits BinOp.andNot IntKind.u8 c 128)*2^(7*i)))=n+c%128*2^(7*i);rw[(DZ QX Q6).1,Q8,Q9];exact JR Q4 HN.out QQ QP
    have Q3:=(DZ QX Q6).2;clear hg
    by_cases hc8:c<128
    ·have HE:Hid (r= .ok (n+c%128*2^(7*i),z+1)):=by
      have:=HV.out;rw[hm,lz,dB (by have:=HZ.out;omega),dA (by rw[HC.out];exact h9),HC.out,dB hc8,HZ.out]at this;exact this.symm
     rw[decide_eq_true hc8]at Q3;clear HV HN Q1 QV QQ QW QP
     cases Ra:(7*(i:Int)==63)
     ·go_wp2;go_ret;rw[HE.out,<-HX.out];exact⟨QT.set1 QE _ _,rfl,by unfold dU;simpa using dK.set QS 1 (aa ((z:Int)+1))⟩
     ·have hc1':decide ((1:Int)<c)=false:=by rcases Q0 with h|h<;>simp_all
      go_wp2;go_ret;rw[HE.out,<-HX.out];exact⟨QT.set1 QE _ _,rfl,by unfold dU;simpa using dK.set QS 1 (aa ((z:Int)+1))⟩
    ·have hi8:i<9:=by
      by_cases h:i=9
      ·exact absurd ⟨h,QD⟩ h9
      ·omega
     have Ra:(7*(i:Int)==63)=false:=QF
     have Rb:Hid (lz s a s.size (10-(i+1)) (i+1) (n+c%128*2^(7*i))=r):=by
      have:=HV.out;rw[hm,lz,dB (by have:=HZ.out;omega),dA (by rw[HC.out];exact h9),HC.out,dA hc8]at this;rw[show 10-(i+1)=m from by omega];exact this
     rw[decide_eq_false hc8]at Q3;have Rc:Hid (0<=n+c%128*2^(7*i)):=QV;clear HV HN QV QQ QW QP Q0;go_wp2;refine⟨⟨i+1,n+c%128*2^(7*i),QD,by rw[HX.out],by congr 1,Rc.out,Q1.out,Rb,?_,QT.set1 QE _ _⟩,by simp[intOf];omega⟩;have e1:((a+(i+1):Nat):Int)=(z:Int)+1:=by have:=HZ.out;omega
     unfold dU;rw[e1];simpa using dK.set QS 1 (aa ((z:Int)+1))
  ·have HE:Hid (r= .error (6,(a:Int))):=by
    have:=HV.out;rw[hm,lz,dA hlt]at this;exact this.symm
   clear HN HV;go_wp2_with fail;refine(qC _ _ _ _ _ QR).mono ?_;rintro e w2 ⟨rfl,q,rfl⟩;rw[decide_eq_false hlt];go_wp2_with fail;refine(Gg _ _ _).mono ?_;rintro e w4 ⟨rfl,rfl⟩;go_wp2;rw[HE.out];exact⟨rfl,HK.drewN q,rfl⟩
end
def GK {b:am}{a e:Nat}:∀f i n m z,lz b a e f i n= .ok (m,z)->i+f=10->0<=n->n<2^(7*i)->0<=m/\m<18446744073709551616/\a+i<z/\z<=e
 |0,i,n,m,z,h,_,_,_=>by simp[lz]at h
 |f+1,i,n,m,z,h,hi,h0,h1=>by
  rw[lz]at h
  split at h
  ·rename_i hlt
   split at h
   ·simp at h
   ·rename_i h9
    have hg:=zh (i:=i) (c:=fE b (a+i)) h0 h1
    split at h
    ·rename_i hc
     simp only[Except.ok.injEq,Prod.mk.injEq]at h;obtain⟨rfl,rfl⟩:=h;refine⟨hg.1,?_,QD,QD⟩
     by_cases hi9:i=9
     ·subst hi9;have hr:=jP b (a+9);have hc2:¬1<fE b (a+9):=λh=>h9 ⟨rfl,h⟩
      simp only[Nat.reduceMul,Int.reducePow]at h1⊢;omega
     ·have h2:(2:Int)^(7*(i+1))<=2^63:=uZ QD;have h3:=hg.2;omega
    ·obtain⟨q0,q1,q2,q3⟩:=GK f (i+1) _ m z h QD hg.1 hg.2;exact⟨q0,q1,QD,q3⟩
  ·simp at h
def gM {b:am}{a e:Nat}{m:Int}{z:Nat}(h:gy b a e= .ok (m,z)):0<=m/\m<18446744073709551616/\a<z/\z<=e:=by
 have:=GK 10 0 0 m z h rfl QD QG;simpa using this
def zi {b:am}{a e:Nat}:∀f i n c p,lz b a e f i n= .error (c,p)->(c=6\/c=7)/\p=a
 |0,i,n,c,p,h=>by
  simp[lz]at h;omega
 |f+1,i,n,c,p,h=>by
  rw[lz]at h
  split at h
  ·split at h
   ·simp at h;omega
   ·split at h
    ·simp at h
    ·exact zi f _ _ c p h
  ·simp at h;omega
def D3 {b:am}{a e:Nat}{c p:Int}(h:gy b a e= .error (c,p)):(c=6\/c=7)/\p=a:=zi 10 0 0 c p h
section
variable {b:am} {a e fr:Nat} {t:Int}
end
section
attribute [local go_sem↓] Go.wp_at_zero Go.wp_at_succ
def oo (s:am)(a:Nat)(n:Int):Fx (am×Nat):=if(a:Int)+n<=s.size then .ok (s.extract a (a+n.toNat),a+n.toNat)else .error (6,a)
def ve (w:an)(rb:Nat)(s:am)(a:Nat)(deep:Int)(n:Int)(h:dU w rb s a deep)(ha:a<=s.size)(hs:s.size<=140737488355328)(hn0:0<=n)(hn1:n<18446744073709551616):
  Calls prog 196 #[ag rb,.int .u64 n] w (oL w rb s deep (oo s a n) Value.string):=by
 obtain⟨L,hL⟩:∃L,s.extract a s.size=L:=⟨_,rfl⟩;have hsz:L.size=s.size-a:=by rw[<-hL,aS];omega
 have QR:Hid (∀(w:an),dU w rb s a deep->Calls prog 272 #[ag rb] w λe w'=>e= .returned (ae L)/\∃q,w'=w.drewN q):=λw h=>by
  rw[<-hL];exact CR w rb s a deep h ha
 have hw:IntKind.u64.wrap (L.size:Int)=(L.size:Int):=gh QD QD;unfold oo
 by_cases hle:(a:Int)+n<=s.size
 ·rw[dB hle];obtain⟨k,rfl⟩:=bo hn0;have QT:Hid (a+k<=s.size):=by show a+k<=s.size;omega
  have hki:(k:Int)<=140737488355328:=QD;have hai:(a:Int)<=140737488355328:=QD;have hd:decide (L.size<k)=false:=QF;have hw2:IntKind.i64.wrap (k:Int)=(k:Int):=by simp[IntKind.wrap,IntKind.bits,IntKind.signed];omega
  clear hL hsz hle hn0 hn1 ha hs;go_enter func196,ntmps196;go_wp2_with fail;refine(QR.out _ h).mono ?_;rintro e w2 ⟨rfl,q,rfl⟩;have h2:=h.drewN q;have K2:dS [rb] w (w.drewN q):=(dS.refl _ _).drewN q;generalize w.drewN q=wq at*;obtain⟨k1,k2⟩:=dK.rules h2;clear h QR;go_wp2_with fail;have h3:dU (wq.setCell (ai rb 1) (aa ((a:Int)+(k:Int)))) rb s (a+k) deep:=by unfold dU;simpa using dK.set h2 1 (aa ((a:Int)+(k:Int)))
  have K3:=K2.set1 (c:=rb) QE 1 (aa ((a:Int)+(k:Int)));refine(uh _ _ _ _ _ a h3 QD QT.out).mono ?_;rintro e w3 ⟨rfl,q2,rfl⟩;go_wp2;go_ret;exact⟨K3.drewN q2,rfl,h3.drewN q2⟩
 ·rw[dA hle];obtain⟨k,rfl⟩:=bo hn0;have hd:decide (L.size<k)=true:=QF;clear hL hsz hle hn0 hn1 ha hs;go_enter func196,ntmps196;go_wp2_with fail;refine(QR.out _ h).mono ?_;rintro e w2 ⟨rfl,q,rfl⟩;have h2:=h.drewN q;have K2:dS [rb] w (w.drewN q):=(dS.refl _ _).drewN q;generalize w.drewN q=wq at*;obtain⟨k1,k2⟩:=dK.rules h2;go_wp2_with fail;refine(Gg _ _ _).mono ?_;rintro e w4 ⟨rfl,rfl⟩;go_wp2;exact⟨rfl,K2,rfl⟩
def eJ (s:am)(a:Nat):Fx (Nat×Nat):=
 match gy s a s.size with
 | .error x=> .error x
 | .ok x=>if(x.2:Int)+x.1<=s.size then .ok (x.2,x.2+x.1.toNat)else .error (6,x.2)
def D4 (w:an)(rb:Nat)(s:am)(deep:Int)(r:Fx (Nat×Nat))(e:Ending)(w':an):Prop:=
 dS [rb] w w'/\(match r with
 | .error x=>e=dI x.1 x.2
 | .ok x=>∃nb,e= .returned (ag nb)/\w.heap.size<=nb/\nb≠rb/\dU w' nb (s.extract 0 x.2) x.1 deep/\dU w' rb s x.2 deep)
def nt (w:an)(rb:Nat)(s:am)(a:Nat)(deep:Int)(h:dU w rb s a deep)(hs:s.size<=140737488355328):
  Calls prog 197 #[ag rb] w (D4 w rb s deep (eJ s a)):=by
 obtain⟨r,HR⟩:∃r,Hid (eJ s a=r):=⟨_,rfl⟩;rw[HR.out];go_enter func197,ntmps197;go_wp2_with fail;refine(im w rb s a deep h hs).mono ?_
 cases hv:gy s a s.size with
 |error x=>
  rintro e w2 ⟨hk,he⟩;obtain rfl:e=dI x.1 x.2:=he;obtain rfl:r= .error x:=by rw[<-HR.out,eJ,hv]
  unfold dI;go_wp2;exact⟨rfl,hk,rfl⟩
 |ok x=>
  obtain⟨n,z⟩:=x;obtain⟨v0,v1,v2,v3⟩:=gM hv;rintro e w2 ⟨hk,he,hr⟩;have hr:=hr;obtain rfl:e= .returned (.int .u64 n):=he;obtain⟨k1,k2⟩:=dK.rules hr;go_wp2_with fail;refine(ve w2 rb s z deep n hr v3 hs v0 v1).mono ?_;unfold oo
  by_cases hle:(z:Int)+n<=s.size
  ·rw[dB hle];obtain rfl:r= .ok (z,z+n.toNat):=by rw[<-HR.out,eJ,hv];simp only;rw[dB hle]
   rintro e w3 ⟨QS,QQ,QP⟩;have QQ:=QQ;subst QQ;obtain⟨m,hm⟩:∃m,z+n.toNat=m:=⟨_,rfl⟩;have QP:=QP;rw[hm]at QP;have HM:Hid (z+n.toNat=m):=hm;have hml:m<=s.size:=QD;have K3:=hk.trans QS;have hlt:rb<w3.heap.size:=dK.lt QP;have hlt0:rb<w.heap.size:=dK.lt h;obtain⟨k1,k2⟩:=dK.rules QP;have h4:dK w3.drew rb #[ae s,aa m,aa deep] 244:=QP;go_wp2_with fail
   go_region_held3 (λw'=>w'.cell? (ai rb 0)=some (ae s)/\w'.cell? (ai rb 1)=some (aa m)/\w'.cell? (ai rb 2)=some (aa deep))
    (first|exact⟨(h4.alloc _).cell 0,(h4.alloc _).cell 1,(h4.alloc _).cell 2⟩|exact⟨h4.cell 0,h4.cell 1,h4.cell 2⟩)
    (fail)
   all_goals
    go_wp2;go_ret;have hn:=dK.newAt (w:=w3) rfl #[ae (s.extract 0 m),aa z,aa deep] 244;exact⟨(K3.alloc _).drew,_,rfl,by have:=K3.size;omega,QD,by show dU _ _ (s.extract 0 (z+n.toNat)) z deep;rw[HM.out];exact hn,by show dU _ _ s (z+n.toNat) deep;rw[HM.out];exact h4.alloc _⟩
  ·rw[dA hle];obtain rfl:r= .error (6,(z:Int)):=by rw[<-HR.out,eJ,hv];simp only;rw[dA hle]
   rintro e w3 ⟨QS,QQ⟩;obtain rfl:e=dI 6 z:=QQ;unfold dI;go_wp2;exact⟨rfl,hk.trans QS,rfl⟩
end
end Go.Proofs.YtfebdimolnobaaaGreatDoor
