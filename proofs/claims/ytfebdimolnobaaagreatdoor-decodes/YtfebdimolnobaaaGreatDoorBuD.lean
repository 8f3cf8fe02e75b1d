import Derived.Test.YtfebdimolnobaaaGreatDoorRefA
import Derived.Test.YtfebdimolnobaaaGreatDoorCkC
set_option maxRecDepth 100000
set_option maxHeartbeats 8000000
set_option linter.all false
namespace Go.Proofs.YtfebdimolnobaaaGreatDoor
open Go.RowKit Go.Proofs.Tryz
section
open Go.Maps
open Tq
def Fz (l:an):Nat->Nat
 |0=>0
 |k+1=>if(lA.getD k []==l)then k else Fz l k
def MH (k:Nat):(BU.getD k eS).toList=lA.getD k []:=by
 unfold BU;rw[cD,cD,aT]
 cases lA[k]? with
 |none=>simp[eS,ByteArray.toList_eq]
 |some l=>simp[ByteArray.toList_eq]
def Co (s:au):∀k,pS s k=Fz s.toList k
 |0=>rfl
 |k+1=>by rw[pS,Fz,Co s k,MH]
def IY:∀l∈lA,Fz l 15=(vg lA l 0).getD 0:=Th
def IZ {s:au}(h:ip s.toList=true):pS s 15=rN s:=by
 have a:s.toList∈lA:=by simpa [ip]using h
 rw[Co];exact IY _ a
def oj {s:au}(h:dN s=3):ip s.toList=true:=by
 unfold dN iP at h;split at h;.cases h
 .split at h;.cases h
  .split at h;.cases h
   .split at h;.assumption
    .cases h
def I3 (w:aw):(zeroValue 105).run prog w= .ok (.pointer none) w:=Tj
def gk.look {w:aw}{b n:Nat}{mp:am}(h:gk w b n mp)(s:au)(g:s.size<=maxLen):
  (Instr.lookup 145 (.map (some b)) (ae s) false).run prog w= .ok (gR (mp s)) w:=by
 obtain⟨D,d,f⟩:=h;have⟨v,ps,c,a⟩:=d.lookup G6 underlying145 (I3 w) (kS none) (G7 s g);have e:=f s;unfold oh at e;rw[e]at a;rw[c,pR a]
def sH (mp:am)(s:au):Value:= .agg #[aa (jd mp s),gR (yJ mp s)]
def Cp (w:aw)(b:Nat)(mp:am)(s:au)(p:Nat)(a:dN s=3)(f:BOK w):
  Calls prog 167 #[.map (some b),.agg #[aa 3,ae s,aa p]] w λe w'=>e= .returned (sH mp s)/\aj w w':=by
 have g:=((Tb w).alloc (aD _) (ak #[aa 3,ae s,aa p] 148)).alloc Tf (ak #[aa 0,.pointer none] 216);have j:BOK ((w.S6 #[aa 3,ae s,aa p] 148).S6 #[aa 0,.pointer none] 216):=f.O (g.block _ f.lt)
 have i:∀x y,dP ((w.S6 #[aa 3,ae s,aa p] 148).S6 #[x,y] 216) (w.heap.size+1) #[x,y] 216:=λx y=>by
  have:=dP.new (w.S6 #[aa 3,ae s,aa p] 148) #[x,y] 216;simpa using this
 have h:∀o,aj w ((w.alloc (ak #[aa 3,ae s,aa p] 148)).alloc o):=λo=>(Tc w _).alloc Tf o
 have c:pS s 15=rN s:=IZ (oj a);have d:sH mp s= .agg #[aa (pS s 15),.pointer none]:=(by unfold sH jd yJ;rw[dH a,dH a,c];rfl);rw[d];clear a c d;go_in
 go_wp2_with fail;refine(IX _ s j).V ?_;rintro e w1 ⟨rfl,rfl⟩;go_wp2;exact dJ (dW results167 _ _ rfl (i _ _) underlying216 Tj) rfl ⟨rfl,h _⟩
def Cq (w:aw)(b n:Nat)(mp:am)(k:Int)(s:au)(p:Nat)(H:gk w b n mp)(m:s.size<=2000)(d:k=dN s)(a:¬dN s=3):
  Calls prog 167 #[.map (some b),.agg #[aa k,ae s,aa p]] w λe w'=>e= .returned (sH mp s)/\aj w w':=by
 have i:=((Tb w).alloc (aD _) (ak #[aa k,ae s,aa p] 148)).alloc Tf (ak #[aa 0,.pointer none] 216);have g:gk ((w.S6 #[aa k,ae s,aa p] 148).S6 #[aa 0,.pointer none] 216) b n mp:=H.O (i.block _ H.lt)
 have h:∀x y,dP ((w.S6 #[aa k,ae s,aa p] 148).S6 #[x,y] 216) (w.heap.size+1) #[x,y] 216:=λx y=>by
  have:=dP.new (w.S6 #[aa k,ae s,aa p] 148) #[x,y] 216;simpa using this
 have f:∀o,aj w ((w.alloc (ak #[aa k,ae s,aa p] 148)).alloc o):=λo=>(Tc w _).alloc Tf o
 have c:=g.look s Tl;have l:(k==3)=false:=by rw[d];simp[a]
 have j:¬k=3:=by rw[d];exact a
 unfold sH jd yJ;rw[dG a,dG a];clear d a g
 cases hm:mp s with
 |none=>
  rw[hm]at c;unfold gR at c⊢;go_in
  go_wp2
  exact dJ (dW results167 _ _ rfl (h _ _) underlying216 Tj) rfl ⟨rfl,f _⟩
 |some x=>
  rw[hm]at c;unfold gR at c⊢;go_in
  go_wp2;exact dJ (dW results167 _ _ rfl (h _ _) underlying216 Tj) rfl ⟨rfl,f _⟩
def wN (w:aw)(b n:Nat)(mp:am)(s:au)(p:Nat)(H:gk w b n mp)(c:s.size<=2000)(a:BOK w):
  S9 167 #[.map (some b),.agg #[aa (dN s),ae s,aa p]] w λe w'=>e= .returned (sH mp s)/\aj w w':=by
 by_cases hk:dN s=3;.have:=Cp w b mp s p hk a;rw[hk];exact this
 .exact Cq w b n mp _ s p H c rfl hk
section
variable {w:aw} {P:ax} {n eb:Nat}
theorem Ef {g k:Nat}{T:TypeId}{cs:aq}(h:dP w g cs T)(d:P g)(a:cs.size=n*k)(hm:n<=maxLen):d5 w P T k (Ta g n n) n cs.toList:=by
 refine⟨⟨by simpa using a,.inr ⟨g,n,cs,rfl,aM _,h,aD _,hm,a,?_⟩⟩,λb c=> ?_⟩;.rw[ck];simp[a]
 .cases c;exact d
theorem eD {a b c:aw}(h:Below a.heap.size a b)(k:Below b.heap.size b c):Below a.heap.size a c:=
 h.J ⟨k.os,k.tape,k.output,k.size,λi d=>k.block i (aI d h.size)⟩
theorem d5.nil0 (w:aw)(Z:ax)(T:TypeId)(k:Nat):d5 w Z T k (ah) 0 []:=⟨aX _ _ _ _,λb a=>by cases a⟩
theorem dP.newAt (h:n=w.heap.size)(cs:aq)(T:TypeId):dP (w.alloc (.cells cs T)) n cs T:=h▸dP.new w cs T
def mq (w:aw)(P:ax)(kb vb:Int)(kp vp:Value)(eb:Nat):Prop:=
 ∃fv b1 b2,dP w eb #[ae eS,fv] 108/\P eb/\d5 w P 212 1 fv 2 (fh [b1,b2])/\
  (dP w b1 #[aa 1,aa 1,aa kb,kp,ah] 220/\P b1)/\(dP w b2 #[aa 2,aa 1,aa vb,vp,ah] 220/\P b2)
theorem mq.ent {mp:am}{k v:au}(h:mq w P (jd mp k) (jd mp v) (gR (yJ mp k)) (gR (yJ mp v)) eb):lQ w P mp k v eb:=by
 obtain⟨e,c,d,f,g,i,a,b⟩:=h;exact⟨e,c,d,f,g,i,⟨_,a.1,a.2,d5.nil0 _ _ _ _⟩,⟨_,b.1,b.2,d5.nil0 _ _ _ _⟩⟩
theorem mq.O {w':aw}(d:∀b,P b->b<w.heap.size->w'.heap[b]?=w.heap[b]?){kb vb:Int}{kp vp:Value}(h:mq w P kb vb kp vp eb):mq w' P kb vb kp vp eb:=by
 obtain⟨j,g,i,e,f,k,a,c⟩:=h;exact⟨j,g,i,(d _ f e.lt).J e,f,k.O d,⟨(d _ a.2 a.1.lt).J a.1,a.2⟩,⟨(d _ c.2 c.1.lt).J c.1,c.2⟩⟩
theorem mq.V {Q:ax}(a:∀b,P b->Q b){kb vb:Int}{kp vp:Value}(h:mq w P kb vb kp vp eb):mq w Q kb vb kp vp eb:=by
 obtain⟨g,e,f,i,j,k,c,d⟩:=h;exact⟨g,e,f,i,a _ j,k.V (λb l _=>a b l),⟨c.1,a _ c.2⟩,⟨d.1,a _ d.2⟩⟩
theorem I4 {c o1 o2:Nat}{v1 v2:Value}{b:Nat}(h:c≠b):((w.setCell (ai c o1) v1).setCell (ai c o2) v2).heap[b]?=w.heap[b]?:=by
 rw[dM,dG h,dM,dG h]
theorem MJ (w:aw)(kb vb:Int)(kp vp:Value):
  Calls prog 166 #[.agg #[aa kb,kp],.agg #[aa vb,vp]] w λe w'=>∃eb,e= .returned (ag eb)/\mq w' (λb=>w.heap.size<=b) kb vb kp vp eb/\aj w w':=by
 go_in
 go_wp2;go_ret;have z:∀(u:aw) (o:Obj),(u.alloc o).heap.size=u.heap.size+1:=λu o=>Tf
 refine⟨_,rfl,⟨_,w.heap.size+1+1,w.heap.size+1+1+1,dP.newAt (by simp only[z]) _ _,Te,Ef ((dP.newAt (by simp only[z]) _ _).alloc _) Te rfl Tl,
  ⟨(((dP.newAt (by simp only[z]) _ _).alloc _).alloc _).alloc _,Te⟩,⟨((dP.newAt (by simp only[z]) _ _).alloc _).alloc _,Te⟩⟩,?_⟩
 exact(((((Tc w _).alloc (by simp only[z];omega) _).alloc (by simp only[z];omega) _).alloc (by simp only[z];omega) _).alloc (by simp only[z];omega) _).alloc (by simp only[z];omega) _
def I5 (w:aw)(mp:am)(f:ek)(e:Ending)(w':aw):Prop:=
 if f.form=4 then∃eb,e= .returned (.agg #[aa 16,ag eb])/\lQ w' (λb=>w.heap.size<=b) mp (jp f.key) f.type.1 eb
 else e= .returned (sH mp f.type.1)
theorem vj (w:aw)(b n:Nat)(mp:am)(f:ek)(K:f.form=4)(H:gk w b n mp)(z:lO f.key=dN (jp f.key))(g:(jp f.key).size<=2000)(i:f.type.1.size<=2000)(d:BOK w):
  Calls prog 110 #[.map (some b),.agg (FC f)] w λe w'=>(∃eb,e= .returned (.agg #[aa 16,ag eb])/\lQ w' (λb=>w.heap.size<=b) mp (jp f.key) f.type.1 eb)/\aj w w':=by
 obtain⟨form,key,X,nm,a⟩:=f;dsimp only[FC]at K z g i⊢;subst K;rw[z];generalize hks':jp key=ks at*;obtain⟨ts,j⟩:=X;have A:=((Tb w).alloc (aD _) (ak #[aa 4,aa (dN ks),ae ks,aa (mY key),aa (dN ts),ae ts,aa j,aa (dN nm.1),ae nm.1,aa nm.2,aa (dN a.1),ae a.1,aa a.2] 211)).alloc Tf (ak #[aa 0,.pointer none] 216);have D:=(dP.new w #[aa 4,aa (dN ks),ae ks,aa (mY key),aa (dN ts),ae ts,aa j,aa (dN nm.1),ae nm.1,aa nm.2,aa (dN a.1),ae a.1,aa a.2] 211).alloc (ak #[aa 0,.pointer none] 216);have x:dP ((w.alloc (ak #[aa 4,aa (dN ks),ae ks,aa (mY key),aa (dN ts),ae ts,aa j,aa (dN nm.1),ae nm.1,aa nm.2,aa (dN a.1),ae a.1,aa a.2] 211)).alloc (ak #[aa 0,.pointer none] 216)) (w.heap.size+1) #[aa 0,.pointer none] 216:=dP.newAt Tf _ _;go_in
 go_wp2_with fail;generalize((w.alloc (ak #[aa 4,aa (dN ks),ae ks,aa (mY key),aa (dN ts),ae ts,aa j,aa (dN nm.1),ae nm.1,aa nm.2,aa (dN a.1),ae a.1,aa a.2] 211)).alloc (ak #[aa 0,.pointer none] 216))=w1 at*;have l:aj w w1.drew:=A.drew;have c:=D.drew;have y:=x.drew;have a:=x.lt
 have o:Hid (S9 167 #[.map (some b),.agg #[aa (dN ks),ae ks,aa (mY key)]] w1.drew (λe w'=>e= .returned (.agg #[aa (jd mp ks),gR (yJ mp ks)])/\Below w1.drew.heap.size w1.drew w')):=
  wN _ b n mp ks (mY key) (H.O (l.block _ H.lt)) g (d.O (l.block _ d.lt))
 have q:Hid (∀w2:aw,Below w1.drew.heap.size w1.drew w2->S9 167 #[.map (some b),.agg #[aa (dN ts),ae ts,aa j]] w2 (λe w'=>e= .returned (.agg #[aa (jd mp ts),gR (yJ mp ts)])/\aj w2 w')):=
  λw2 t=>wN w2 b n mp ts j (H.O ((eD l t).block _ H.lt)) i (d.O ((eD l t).block _ d.lt))
 have m:Hid (∀(w':aw) (eb:Nat),mq w' (λb=>w.heap.size<=b) (jd mp ks) (jd mp ts) (gR (yJ mp ks)) (gR (yJ mp ts)) eb->lQ w' (λb=>w.heap.size<=b) mp ks ts eb):=λw' eb h=>h.ent
 generalize(jd mp ks:Int)=k1 at o q m;generalize(jd mp ts:Int)=k2 at o q m;generalize gR (yJ mp ks)=p1 at o q m;generalize gR (yJ mp ts)=p2 at o q m
 have I:Hid (∀w3:aw,S9 166 #[.agg #[aa k1,p1],.agg #[aa k2,p2]] w3 (λe w'=>∃eb,e= .returned (ag eb)/\mq w' (λb=>w3.heap.size<=b) k1 k2 p1 p2 eb/\aj w3 w')):=
  λw3=>MJ w3 k1 k2 p1 p2
 clear H d z g i A;generalize(dN ks)=q1 at*;generalize(dN ts)=q2 at*;generalize(mY key:Int)=q3 at*;generalize(j:Int)=q4 at*;clear hks';have J:w1.drew.cell? (ai w.heap.size 1)=some (aa q1)/\w1.drew.cell? (ai w.heap.size 2)=some (ae ks)/\w1.drew.cell? (ai w.heap.size 3)=some (aa q3)/\w1.drew.cell? (ai w.heap.size 4)=some (aa q2)/\w1.drew.cell? (ai w.heap.size 5)=some (ae ts)/\w1.drew.cell? (ai w.heap.size 6)=some (aa q4):=⟨c.cell 1,c.cell 2,c.cell 3,c.cell 4,c.cell 5,c.cell 6⟩
 have G:Hid (∀(u v:aw),Below u.heap.size u v->w.heap.size<u.heap.size->u.cell? (ai w.heap.size 1)=some (aa q1)/\u.cell? (ai w.heap.size 2)=some (ae ks)/\u.cell? (ai w.heap.size 3)=some (aa q3)/\u.cell? (ai w.heap.size 4)=some (aa q2)/\u.cell? (ai w.heap.size 5)=some (ae ts)/\u.cell? (ai w.heap.size 6)=some (aa q4)->
   v.cell? (ai w.heap.size 1)=some (aa q1)/\v.cell? (ai w.heap.size 2)=some (ae ks)/\v.cell? (ai w.heap.size 3)=some (aa q3)/\v.cell? (ai w.heap.size 4)=some (aa q2)/\v.cell? (ai w.heap.size 5)=some (ae ts)/\v.cell? (ai w.heap.size 6)=some (aa q4)):=
  λu v h k ⟨L,t,M,N,O,P⟩=>⟨(h.cell (p:=(ai w.heap.size 1)) k).J L,(h.cell (p:=(ai w.heap.size 2)) k).J t,(h.cell (p:=(ai w.heap.size 3)) k).J M,(h.cell (p:=(ai w.heap.size 4)) k).J N,(h.cell (p:=(ai w.heap.size 5)) k).J O,(h.cell (p:=(ai w.heap.size 6)) k).J P⟩
 clear c D x;obtain⟨R,S,T,U,V,W⟩:=J;have Y:w.heap.size<w1.drew.heap.size:=Nat.lt_of_succ_lt y.lt;go_region_with (first|(go_at_call 167;refine(q.o w2 s).V ?_;rintro e w3 ⟨rfl,E⟩;have r:=B.G E B.lt)|(go_at_call 167;refine o.o.V ?_;rintro e w2 ⟨rfl,s⟩;have B:=y.G s y.lt;have⟨Z,a,c,g,h,i⟩:=G.o _ _ s Y ⟨R,S,T,U,V,W⟩)|(go_at_call 166;refine(I.o w3).V ?_;rintro e j ⟨eb,rfl,Q,F⟩;have C:=r.G F r.lt;have⟨k,t⟩:=C.I))
 all_goals
  go_wp2;refine dJ (dW results110 _ _ rfl ((C.set 0 _).set 1 _) underlying216 Tj) rfl ⟨⟨eb,rfl,m.o _ _ ?_⟩,?_⟩;.exact((Q.O (λb d _=>I4 (by have:=r.lt;omega))).V (λb d=>by have:=r.lt;omega))
  .exact((eD (eD (eD l s) E) F).setCell (p:=(ai (w.heap.size+1) 0)) (bC _) _).setCell (p:=(ai (w.heap.size+1) 1)) (bC _) _
theorem vk (w:aw)(b n:Nat)(mp:am)(f:ek)(m:¬f.form=4)(H:gk w b n mp)(c:f.type.1.size<=2000)(k:BOK w):
  Calls prog 110 #[.map (some b),.agg (FC f)] w λe w'=>e= .returned (sH mp f.type.1)/\aj w w':=by
 have l:(f.form==4)=false:=by simp[m]
 have d:=((Tb w).alloc (aD _) (FO f)).alloc Tf (ak #[aa 0,.pointer none] 216);have h:dP ((w.alloc (FO f)).alloc (ak #[aa 0,.pointer none] 216)) (w.heap.size+1) #[aa 0,.pointer none] 216:=dP.newAt Tf _ _
 have a:Hid (∀w1:aw,aj w w1->S9 167 #[.map (some b),.agg #[aa (dN f.type.1),ae f.type.1,aa f.type.2]] w1 (λe w'=>e= .returned (.agg #[aa (jd mp f.type.1),gR (yJ mp f.type.1)])/\aj w1 w')):=
  λw1 j=>wN w1 b n mp f.type.1 f.type.2 (H.O (j.block _ H.lt)) c (k.O (j.block _ k.lt))
 unfold sH;generalize yJ mp f.type.1=o at a⊢;generalize(jd mp f.type.1:Int)=q at a⊢;cases o
 all_goals
  unfold gR at a⊢;go_in
  go_wp2_with fail;generalize((w.alloc (FO f)).alloc (ak #[aa 0,.pointer none] 216))=w1 at*;refine(a.o w1 d).V ?_;rintro e w2 ⟨rfl,i⟩;have g:=h.G i h.lt;have⟨r,s⟩:=g.I;go_wp2;refine dJ (dW results110 _ _ rfl ((g.set 0 _).set 1 _) underlying216 Tj) rfl ⟨rfl,?_⟩;exact((eD d i).setCell (p:=(ai (w.heap.size+1) 0)) (bC _) _).setCell (p:=(ai (w.heap.size+1) 1)) (bC _) _
structure Eg (f:ek):Prop where
 key:f.form=4->lO f.key=dN (jp f.key)/\(jp f.key).size<=2000
 ty:f.type.1.size<=2000
theorem Cr (w:aw)(b n:Nat)(mp:am)(f:ek)(a:Eg f)(H:gk w b n mp)(c:BOK w):
  S9 110 #[.map (some b),.agg (FC f)] w λe w'=>I5 w mp f e w'/\aj w w':=by
 unfold I5;by_cases hf:f.form=4
 .refine(vj w b n mp f hf H (a.key hf).1 (a.key hf).2 a.ty c).V λe w' h=> ?_
  rw[dH hf];exact h
 .refine(vk w b n mp f hf H a.ty c).V λe w' h=> ?_
  rw[dG hf];exact h
end
def Tryz.info3:(prog.info? 3).map (λi=>(i.zero,i.size,i.bytes))=some (some (.int .i64 0),1,8):=Tj
def AE (f:ek):Prop:=jL f.num.1/\gV f.num.1<=536870911
def wP (f:ek)(l:List ek):List Int:=(l.filter λo=>decide (iY o≠iY f)).map iY
def He (f o:ek)(l:List ek):wP f (l++ [o])=wP f l++(if iY o=iY f then []else [iY o]):=by
 unfold wP;by_cases h:iY o=iY f<;>simp[h]
def I6 (w:World)(p:ft)(f:ek)(fa:Option Addr)(fc:Nat)(S:Nat->Prop)(m:d5 w S 211 13 (.slice fa p.fields.length fc) p.fields.length (p.fields.flatMap sk))(hlen:p.fields.length<=2001)
  (U:AE f) (E:∀o∈p.fields,AE o) (a:GOK w):
  Calls prog 111 #[.agg #[.int .i64 (lO p.oneof),.string (jp p.oneof),.int .i64 (mY p.oneof),.slice fa p.fields.length fc],.agg (FC f)] w λe w'=>∃v,e= .returned v/\w'.ownsRow w.heap.size 3 1 v (pQ p f).length (gA (pQ p f))/\Below w.heap.size w w':=by
 have⟨i0,u,W,TX,TY⟩:=info_parts Tryz.info3;have X:=((Tb w).alloc (aD _) (Obj.cells #[.int .i64 (lO p.oneof),.string (jp p.oneof),.int .i64 (mY p.oneof),.slice fa p.fields.length fc] 208)).alloc Tf (FO f);have b:dP ((w.S6 #[.int .i64 (lO p.oneof),.string (jp p.oneof),.int .i64 (mY p.oneof),.slice fa p.fields.length fc] 208).alloc (FO f)) (w.heap.size+1) (FC f) 211:=(by have:=dP.new (w.S6 #[.int .i64 (lO p.oneof),.string (jp p.oneof),.int .i64 (mY p.oneof),.slice fa p.fields.length fc] 208) (FC f) 211;simpa using this);have c:pQ p f=wP f p.fields:=rfl;rw[c];go_in
 go_wp2;go_loopw [5,11] (λv i wr=>∃(k:Nat),k<=p.fields.length/\i= .int .i64 k/\wr.ownsRow w.heap.size 3 1 v (wP f (p.fields.take k)).length (gA (wP f (p.fields.take k)))/\dP wr (w.heap.size+1) (FC f) 211/\v.ownBlock≠some (w.heap.size+1)/\Below w.heap.size w wr) (λ_ i _=>p.fields.length-(intOf i).toNat)
 case atStart=>exact⟨0,aM _,rfl,aX _ _ _ _,b,(by intro h;cases h),X⟩
 case round=>
  obtain⟨k,b,rfl,d,H,A,n⟩:=hrel;by_cases hlt:k<p.fields.length
  .have⟨o,s⟩:=gx hlt;have J:o∈p.fields:=aO s;have O:p.fields.take (k+1)=p.fields.take k++ [o]:=by rw[bu,s];rfl
   obtain⟨c,rfl,_,b,N⟩:=dV m.1 Te;have K:=N wr (n.block c b);have⟨j,l,m,r,x,y,z,C,D,F,g,Y,Z⟩:=wF s K;have q:=E o J;have I:=dP.new wr (FC o) 211;have t:=n.alloc n.size (FO o);have b:=H.alloc (FO o);have P:=d.alloc (FO o);have B:Hid (wP f (p.fields.take (k+1))=wP f (p.fields.take k)++(if iY o=iY f then []else [iY o])):=by rw[O];exact He f o _
   have c:(wP f (p.fields.take k)).length<=2001:=(by unfold wP;rw[bm];exact aL (bZ _ _) (by rw[bG];omega));generalize wP f (p.fields.take k)=L at d P B c;clear N K s J O d H;go_upto_region 5 with fail
   clear j l m r x y z C D F g Y Z;generalize hw1:wr.alloc (FO o)=w1 at*;have c:wr.heap.size<w1.heap.size:=I.lt;clear hw1;have j:Hid (S9 109 #[.agg (FC o)] w1.drew (λe w'=>e= .returned (.int .i64 (iY o))/\Below w1.drew.heap.size w1.drew w')):=sG _ o q.1 q.2 (a.O (t.block _ a.lt));have l:Hid (∀w2:World,Below w1.drew.heap.size w1.drew w2->S9 109 #[.agg (FC f)] w2 (λe w'=>e= .returned (.int .i64 (iY f))/\Below w2.heap.size w2 w')):=λw2 c=>sG w2 f U.1 U.2 (a.O ((eD t.drew c).block _ a.lt))
   have m:Hid (∀w3:World,Below w.heap.size w w3->S9 109 #[.agg (FC o)] w3 (λe w'=>e= .returned (.int .i64 (iY o))/\Below w3.heap.size w3 w')):=λw3 c=>sG w3 o q.1 q.2 (a.O (c.block _ a.lt))
   have q:Below w.heap.size w w1.drew:=t.drew;have y:=I.drew;have g:=b.drew;have a:w1.drew.ownsRow w.heap.size 3 1 u5 L.length (gA L):=P;have⟨F,G⟩:=y.I;have⟨f1,f2⟩:=g.I;go_cut [11,19]from 11 to 25 (λi c b=>i= .int .i64 (k:Int)/\c= .bool (!(iY o==iY f))/\Below w1.drew.heap.size w1.drew b)
   case first=>
    go_region_with (first|(go_at_call 109;refine(l.o w2 C).V ?_;rintro e w3 ⟨rfl,b⟩)|(go_at_call 109;refine j.o.V ?_;rintro e w2 ⟨rfl,C⟩;have⟨c,i⟩:=(g.G C g.lt).I))
    all_goals
     go_wp2;go_meet
     case rel=>exact⟨rfl,rfl,eD C b⟩
   case rest=>
    obtain⟨rfl,rfl,r⟩:=hcut;have x:=eD q r;have Q:=eL r a;have a:=y.G r y.lt;have z:=g.G r g.lt;clear F G f1 f2;have⟨F,G⟩:=a.I;cases hq:(iY o==iY f)
    .have a:¬iY o=iY f:=by simpa using hq
     have b:=B.o;rw[dG a]at b;go_wp2_with fail;refine(m.o wc x).V ?_;rintro e a ⟨rfl,D⟩;have l:=eD x D;have R:=eL D Q;have M:=z.G D z.lt;clear F G;go_wp2_with (first|(at_builtin;refine wpList_append_own_at _ rfl _ _ 35 rfl w.heap.size 3 i0 _ 1 8 underlying35 u W TX TY rfl Th u5 _ _ rfl (R.alloc _) _ 1 1 [_] rfl rfl (cell_one_new _ _ _) ?h1 ?h63 ?hby ?hba ?_;rotate_right;intro v' g a T V c))
     case h1=>intro u W;simp at W;subst W;rfl
     case h63=>unfold maxLen;omega
     case hby=>omega
     case hba=>have:=l.size;simp;omega
     refine⟨⟨k+1,Te,by go_num,?_,?_,?_,?_⟩,by simp[intOf];omega⟩;.rw[b];simpa [gA]using a
     .exact(M.alloc _).grown T (λe=>A e.sy)
     .intro e;rcases c with h|h;.exact A (h.sy.J e)
      .rw[h]at e;have a:=Option.some.inj e;have:=M.lt;simp at a;omega
     .exact(l.alloc l.size _).grown T (by have:=l.size;simp;omega) (λj a=>(R.lt j a).1)
    .have b:=B.o;rw[dH (by simpa using hq),bH]at b;go_wp2;go_roundw
     case rel=>exact⟨k+1,Te,rfl,by rw[b];exact Q,z,A,x⟩
     case measure=>simp[intOf];omega
  .have a:decide ((k:Int)<(p.fields.length:Int))=false:=Tg;obtain rfl:k=p.fields.length:=Te;rw[bX]at d;go_wp2;go_ret;exact⟨_,rfl,d,n⟩
end
section
open Tq
section
variable {w:aw} {P:ax} {mp:am}
def kI (x y:Int):Int:=if x<y then-1 else if y<x then 1 else 0
theorem nC (x y:Int):kI x y<0<->x<y:=by
 unfold kI;by_cases h:x<y;.simp[h]
 .by_cases h2:y<x<;>simp[h,h2]
theorem AF (x:Int)(w:aw):Calls prog 170 #[aa x] w λe w'=>e= .returned (.bool false)/\w'=w:=by
 go_in
 go_wp2;go_ret;exact⟨rfl,rfl⟩
theorem qA (x y:Int)(w:aw):Calls prog 114 #[aa x,aa y] w λe w'=>e= .returned (aa (kI x y))/\w'=w:=by
 unfold kI;by_cases h:x<y
 .rw[dH h];go_in
  go_wp2_with (first|(go_at_call 170;refine(AF _ _).V ?_;rintro e w' ⟨rfl,rfl⟩))
  go_ret;exact⟨rfl,rfl⟩
 .have b:decide (x<y)=false:=by simp[h]
  rw[dG h];by_cases h2:y<x
  .rw[dH h2];go_in
   go_wp2_with (first|(go_at_call 170;refine(AF _ _).V ?_;rintro e w' ⟨rfl,rfl⟩))
   go_ret;exact⟨rfl,rfl⟩
  .have a:decide (y<x)=false:=by simp[h2]
   rw[dG h2];go_in
   go_wp2_with (first|(go_at_call 170;refine(AF _ _).V ?_;rintro e w' ⟨rfl,rfl⟩))
   go_ret;exact⟨rfl,rfl⟩
theorem eR.cell0 {g:GF}{fb:Nat}(h:eR w P mp g fb):w.cell? (ai fb 0)=some (aa g.f.num)/\P fb:=by
 unfold eR at h;split at h;.obtain⟨c,d,a,b,_⟩:=h;exact⟨a.cell 0,b⟩
 .obtain⟨c,a,b,_⟩:=h;exact⟨a.cell 0,b⟩
theorem gj.zip:∀{gs:List GF} {l:aB},gj w P mp gs l->∃z:List (GF×Nat),z.map (·.1)=gs/\z.map (·.2)=l/\∀x∈z,eR w P mp x.1 x.2
 | [],_,h=>⟨[],rfl,h.sy,Tf⟩
 |g::gs,_,⟨b,r,h1,h2,h3⟩=>by
  have⟨z,c,d,e⟩:=gj.zip h3;refine⟨(g,b)::z,by simp[c],by simp[d,h1],?_⟩;intro x a;rcases aR.1 a with rfl|a;.exact h2
  .exact e x a
theorem gj.of_zip:∀{z:List (GF×Nat)},(∀x∈z,eR w P mp x.1 x.2)->gj w P mp (z.map (·.1)) (z.map (·.2))
 | [],_=>rfl
 |x::z,h=>⟨x.2,z.map (·.2),rfl,h x co,gj.of_zip (λy a=>h y (cv _ a))⟩
end
end
section
variable {n:Int} {a:Nat} {m:PM} {S:eE} {d:MT}
theorem mz (n:Int)(vs:List PV):∀(l:List PF) (done:Bool) (x:PF),x∈gY n vs done l->(x=(n,vs)/\done=false)\/x∈l
 | [],done,x,h=>by
  cases done;.simp[gY]at h;exact .inl ⟨h,rfl⟩
  .simp[gY]at h
 |y::l,done,x,h=>by
  rw[gY,aQ,aQ]at h;rcases h with h|h|h
  .by_cases q:(!done&&decide (n<=y.1))=true;.rw[dH q]at h;simp at h q;exact .inl ⟨h,q.1⟩
   .rw[dG q]at h;cases h
  .by_cases q:y.1=n;.rw[dH q]at h;cases h
   .rw[dG q]at h;simp at h;exact .inr (by simp[h])
  .rcases mz n vs l _ x h with⟨b,a⟩|h;.simp at a;exact .inl ⟨b,a.1⟩
   .exact .inr (by simp[h])
theorem sQ (n:Int)(vs:List PV):∀(l:List PF) (done:Bool),(gY n vs done l).length<=l.length+(if done then 0 else 1)
 | [],done=>by cases done<;>simp[gY]
 |y::l,done=>by
  rw[gY,bf,bf];have h:=sQ n vs l (done||decide (n<=y.1));cases done;.by_cases q:n<=y.1<;>by_cases e:y.1=n<;>simp[q,e]at h⊢<;>omega
  .by_cases e:y.1=n<;>simp[e]at h⊢<;>omega
theorem pX {v:PV}:∀{l:List PF},v∈io l n->∃x∈l,x.1=n/\x.2=io l n
 | [],h=>by simp[io]at h
 |x::l,h=>by
  by_cases q:x.1=n;.exact⟨x,Tf,q,by simp[io,q]⟩
  .simp only[io,q,if_false]at h⊢;have⟨y,a,b,c⟩:=pX h;exact⟨y,by simp[a],b,c⟩
theorem wX:∀{l:List PF},(∀x∈l,x.2.length<=a)->(io l n).length<=a
 | [],_=>by simp[io]
 |x::l,h=>by
  by_cases q:x.1=n;.simp only[io,q,if_true];exact h x Tf
  .simp only[io,q,if_false];exact wX (λy b=>h y (by simp[b]))
theorem sR (n:Int)(vs:List PV):∀(l:List PF),io (gY n vs false l) n=vs
 | []=>by simp[gY,io]
 |y::l=>by
  rw[gY];by_cases q:n<=y.1;.simp[q,io]
  .have e:¬y.1=n:=Te;simp[q,e,io,sR n vs l]
theorem ry (n n':Int)(vs:List PV)(b:n'≠n):∀(l:List PF) (done:Bool),io (gY n vs done l) n'=io l n'
 | [],done=>by cases done<;>simp[gY,io,Ne.sy b]
 |y::l,done=>by
  rw[gY];have ih:=ry n n' vs b l (done||decide (n<=y.1));have c:¬n=n':=λe=>b e.sy
  by_cases q:(!done&&decide (n<=y.1))=true
  .rw[dH q];by_cases e:y.1=n
   .have a:¬y.1=n':=λx=>b (by rw[<-x,e])
    simp only[e,if_true,bo,be,io,c,if_false];rw[e]at ih;rw[ih]
   .by_cases a:y.1=n';.subst a;simp only[e,if_false,bo,be,io,if_true,c]
    .simp only[e,if_false,bo,be,io,c,a];exact ih
  .rw[dG q];by_cases e:y.1=n
   .have a:¬y.1=n':=λx=>b (by rw[<-x,e])
    simp only[e,if_true,be,io,c,if_false];rw[e]at ih;exact ih
   .by_cases a:y.1=n';.subst a;simp only[e,if_false,bo,be,io,if_true]
    .simp only[e,if_false,bo,be,io,a];exact ih
theorem PM.get_put (m:PM)(n:Int)(vs:List PV)(h:vs≠ []):(m.put n vs).get n=vs:=by
 have a:vs.isEmpty=false:=by cases vs with
  |nil=>exact absurd rfl h
  |cons _ _=>rfl
 unfold PM.put PM.get;rw[a];exact sR n vs m.fs
theorem PM.get_put_ne (m:PM)(n n':Int)(vs:List PV)(h:n'≠n):(m.put n vs).get n'=m.get n':=ry n n' vs h m.fs _
structure D7 (t:au)(v:PV):Prop where
 lo:0<=v.1
 hi:v.1<2^64
 sz:v.2.1.size<=268435456
 str:gP t og=true->v.1=0
 num:gP t og=false->v.2.1=eS
structure QQ (a:Nat)(t:au)(v:PV):Prop where
 key:∃rest,v.2.2.get 1=fJ v::rest
 ky:D7 t (fJ v)
 len:v.2.2.fs.length<=a+2
 m:v.1=0/\v.2.1=eS
structure Js (S:eE)(t:au)(v:PV):Prop where
 lo:0<=v.1
 hi:v.1<2^64
 sz:v.2.1.size<=268435456
 m:v.2.2=PM.none
 txt:S.wire t=2->v.1=0
 num:S.wire t≠2->v.2.1=eS
inductive WM (S:eE)(a:Nat):MT->PM->Prop where
 |mk (d:MT) (fs:List PF) (u:au) (hl:fs.length<=a) (hu:u.size<=a) (hv:∀x∈fs,x.2.length<=a)
  (hm:∀x∈fs,∀f,ei d.fs x.1=some f->f.isMap=true->∀v∈x.2,QQ a f.key v)
  (hz:∀x∈fs,∀f sub,ei d.fs x.1=some f->f.isMap=false->fS S f=some sub->∀v∈x.2,v.1=0/\v.2.1=eS)
  (hs:∀x∈fs,∀f sub,ei d.fs x.1=some f->f.isMap=false->fS S f=some sub->∀v∈x.2,WM S a sub v.2.2)
  (ht:∀x∈fs,∀f,ei d.fs x.1=some f->fS S f=none->∀v∈x.2,Js S f.ty v):WM S a d (.mk fs u)
theorem WM.len (h:WM S a d m):m.fs.length<=a/\m.unk.size<=a/\∀n,(m.get n).length<=a:=by
 cases h with
 |mk _ fs u b c e _ _ _ _=>exact⟨b,c,λn=>wX e⟩
theorem WM.V {a':Nat}(e:a<=a')(h:WM S a d m):WM S a' d m:=by
 induction h with
 |mk d fs u n p b j l o k ih=>
  exact .mk d fs u Te Te (λx c=>aL (b x c) e) (λx c f g i v b=>let q:=j x c f g i v b;⟨q.key,q.ky,by have:=q.len;omega,q.m⟩)
   l ih k
theorem WM.none (S:eE)(a:Nat)(d:MT):WM S a d PM.none:=
 .mk d [] eS (aM _) (aM _) (λ_ h=>by cases h) (λ_ h=>by cases h) (λ_ h=>by cases h) (λ_ h=>by cases h) (λ_ h=>by cases h)
structure RC (S:eE)(a:Nat)(d:MT)(n:Int)(vs:List PV):Prop where
 hv:vs.length<=a
 hm:∀f,ei d.fs n=some f->f.isMap=true->∀v∈vs,QQ a f.key v
 hz:∀f sub,ei d.fs n=some f->f.isMap=false->fS S f=some sub->∀v∈vs,v.1=0/\v.2.1=eS
 hs:∀f sub,ei d.fs n=some f->f.isMap=false->fS S f=some sub->∀v∈vs,WM S a sub v.2.2
 ht:∀f,ei d.fs n=some f->fS S f=none->∀v∈vs,Js S f.ty v
theorem WM.put {a':Nat}(h:WM S a d m)(q:a+1<=a'){vs:List PV}(c:RC S a' d n vs):WM S a' d (m.put n vs):=by
 have f:=h.V (show a<=a' by omega);have i:=h.len.1
 cases f with
 |mk _ fs u _ o e j p k l=>
  refine .mk d _ u ?_ o ?_ ?_ ?_ ?_ ?_;.have:=sQ n vs fs vs.isEmpty;have g:(PM.mk fs u).fs.length<=a:=i;simp only[PM.fs]at g⊢;split at this<;>omega
  .intro x b;rcases mz n vs fs _ x b with⟨rfl,_⟩|b;.exact c.hv
   .exact e x b
  .intro x b;rcases mz n vs fs _ x b with⟨rfl,_⟩|b;.exact c.hm
   .exact j x b
  .intro x b;rcases mz n vs fs _ x b with⟨rfl,_⟩|b;.exact c.hz
   .exact p x b
  .intro x b;rcases mz n vs fs _ x b with⟨rfl,_⟩|b;.exact c.hs
   .exact k x b
  .intro x b;rcases mz n vs fs _ x b with⟨rfl,_⟩|b;.exact c.ht
   .exact l x b
theorem WM.drop (h:WM S a d m)(n:Int):WM S a d (m.put n []):=by
 cases h with
 |mk _ fs u l j e f k g i=>
  have c:∀x,x∈gY n [] true fs->x∈fs:=λx b=>(mz n [] fs true x b).resolve_left (λq=>by cases q.2)
  refine .mk d _ u ?_ j (λx b=>e x (c x b)) (λx b=>f x (c x b)) (λx b=>k x (c x b)) (λx b=>g x (c x b)) (λx b=>i x (c x b));have:=sQ n [] fs true;simp only[PM.fs,List.isEmpty_nil]at this⊢;simp at this;omega
theorem WM.O {a':Nat}(h:WM S a d m)(s:au)(n:a+s.size<=a'):WM S a' d (m.O s):=by
 have g:=h.len.2.1;have f:=h.V (show a<=a' by omega)
 cases f with
 |mk _ fs u e l b i k c j=>
  refine .mk d fs _ e ?_ b i k c j;simp only[PM.unk]at g⊢;rw[ByteArray.size_append];omega
theorem WM.vals (h:WM S a d m)(n:Int):RC S a d n (m.get n):=by
 cases h with
 |mk _ fs u s t l o r p q=>
  refine⟨wX l,?_,?_,?_,?_⟩;.intro f i k v b;have⟨x,c,e,g⟩:=pX b;exact o x c f (by rw[e];exact i) k v (by rw[g];exact b)
  .intro f sub i k j v b;have⟨x,c,e,g⟩:=pX b;exact r x c f sub (by rw[e];exact i) k j v (by rw[g];exact b)
  .intro f sub i k j v b;have⟨x,c,e,g⟩:=pX b;exact p x c f sub (by rw[e];exact i) k j v (by rw[g];exact b)
  .intro f i j v b;have⟨x,c,e,g⟩:=pX b;exact q x c f (by rw[e];exact i) j v (by rw[g];exact b)
theorem WM.dropF (f:fB):∀(l:List fB) {m:PM},WM S a d m->WM S a d (iG f l m)
 | [],_,h=>h
 |o::l,m,h=>by
  rw[Go.Proofs.YtfebdimolnobaaaGreatDoor.iG];refine WM.dropF f l ?_;split;.exact h.drop _
  .exact h
end
end Go.Proofs.YtfebdimolnobaaaGreatDoor
