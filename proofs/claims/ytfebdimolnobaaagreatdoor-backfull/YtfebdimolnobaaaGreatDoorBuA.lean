import Derived.Test.YtfebdimolnobaaaGreatDoorCkA
import Derived.Test.YtfebdimolnobaaaGreatDoorRefB
import Derived.Laws.Bits64b
set_option maxRecDepth 100000
set_option maxHeartbeats 8000000
set_option linter.all false
namespace Go.Proofs.YtfebdimolnobaaaGreatDoor
open Go.RowKit Go.Proofs.Tryz
section
open Go.Maps
open VH
def sQ (w:aw)(f:eW)(h:lq f.num.1)(d:jd f.num.1<=536870911)(a:GOK w):
  Calls prog 109 #[.agg (FC f)] w λe w'=>e= .returned (aa (jE f))/\ak w w':=by
 have b:=(Vs w).alloc (aE _) (FO f);have wr:IntKind.i64.wrap (jd f.num.1:Int)=(jd f.num.1:Int):=by simp[IntKind.wrap,IntKind.bits,IntKind.signed];omega
 unfold jE;go_in
 go_wp2_with fail;refine(Tv _ _ _ _ h (a.O (Below.l _ _ _ a.lt))).V ?_;rintro e w1 ⟨rfl,c⟩;go_wp2;go_ret;exact⟨rfl,b.J (c.V Vw)⟩
def BOK (w:aw):Prop:=∀i v,(Fh.map Value.string)[i]?=some v->w.cell? (aj 0 i)=some v
def BOK.lt {w:aw}(h:BOK w):0<w.heap.size:=aV _ _ (h 0 _ rfl)
def BOK.O {w w':aw}(h:BOK w)(a:w'.heap[0]?=w.heap[0]?):BOK w':=by
 intro i v b;rw[<-h i v b];unfold World.cell?;rw[a]
def qh (s:au):Nat->Nat
 |0=>0
 |k+1=>if((Fh.getD k eS).toList==s.toList)then k else qh s k
def Ka (k:Nat)(x:au)(h:Fh[k]?=some x)(w:aw):(Instr.index 427 (.agg #[ag ⟨#[105,110,116,51,50]⟩,ag ⟨#[105,110,116,54,52]⟩,ag ⟨#[117,105,110,116,51,50]⟩,ag ⟨#[117,105,110,116,54,52]⟩,ag ⟨#[115,105,110,116,51,50]⟩,ag ⟨#[115,105,110,116,54,52]⟩,ag ⟨#[98,111,111,108]⟩,ag ⟨#[102,105,120,101,100,51,50]⟩,ag ⟨#[102,105,120,101,100,54,52]⟩,ag ⟨#[115,102,105,120,101,100,51,50]⟩,ag ⟨#[115,102,105,120,101,100,54,52]⟩,ag ⟨#[102,108,111,97,116]⟩,ag ⟨#[100,111,117,98,108,101]⟩,ag ⟨#[115,116,114,105,110,103]⟩,ag ⟨#[98,121,116,101,115]⟩]) (aa (k:Int))).run prog w= .ok (ag x) w:=by
 have a:k<15:=by
  by_cases h':k<15;.exact h'
  .rw[bg (by show 15<=k;omega)]at h;cases h
 rcases(show k=0\/k=1\/k=2\/k=3\/k=4\/k=5\/k=6\/k=7\/k=8\/k=9\/k=10\/k=11\/k=12\/k=13\/k=14 from by omega)with rfl|rfl|rfl|rfl|rfl|rfl|rfl|rfl|rfl|rfl|rfl|rfl|rfl|rfl|rfl
 all_goals
  obtain rfl:=Option.some.inj h;change _=_;kernel_rfl
def Ke (w:aw)(s:au)(a:BOK w):
  Calls prog 245 #[ag s] w λe w'=>e= .returned (aa (qh s 15))/\w'=w:=by
 have h:=a 0 _ rfl;have j:=a 1 _ rfl;have m:=a 2 _ rfl;have n:=a 3 _ rfl;have o:=a 4 _ rfl;have c5:=a 5 _ rfl;have p:=a 6 _ rfl;have q:=a 7 _ rfl;have r:=a 8 _ rfl;have t:=a 9 _ rfl;have b:=a 10 _ rfl;have d:=a 11 _ rfl;have f:=a 12 _ rfl;have St:=a 13 _ rfl;have Ss:=a 14 _ rfl;go_in
 go_wp2;clear h j m n o c5 p q r t b d f St Ss;go_loopw [3,7] (λv i wr=>∃(k:Nat),k<=15/\i=aa k/\v=aa (qh s k)/\w=wr) (λ_ i _=>15-(intOf i).toNat)
 case atStart=>exact⟨0,aP _,rfl,rfl,rfl⟩
 case round=>
  obtain⟨k,y,rfl,rfl,rfl⟩:=hrel;by_cases hlt:k<15
  .have⟨x,c⟩:=gx (l:=Fh) (show k<Fh.length from hlt);have e:qh s (k+1)=if x.toList==s.toList then k else qh s k:=by rw[qh,cr,c];rfl
   have u:=Ka k x c;have g:(k:Int)<15:=Vv;clear c;cases hc:(x.toList==s.toList)
   .rw[hc,dQ Vw]at e;go_wp2;go_roundw
    case rel=>exact⟨k+1,Vv,rfl,by rw[e],trivial⟩
    case measure=>simp[intOf];omega
   .rw[hc,dR rfl]at e;go_wp2;go_roundw
    case rel=>exact⟨k+1,Vv,rfl,by rw[e],trivial⟩
    case measure=>simp[intOf];omega
  .have g:decide ((k:Int)<15)=false:=Vx;obtain rfl:k=15:=Vv;go_wp2;go_ret;exact⟨rfl,rfl⟩
def GW (l:ap):Nat->Nat
 |0=>0
 |k+1=>if(m9.getD k []==l)then k else GW l k
def Om (k:Nat):(Fh.getD k eS).toList=m9.getD k []:=by
 unfold Fh;rw[cr,cr,aT]
 cases m9[k]? with
 |none=>simp[eS,ByteArray.toList_eq]
 |some l=>simp[ByteArray.toList_eq]
def Dz (s:au):∀k,qh s k=GW s.toList k
 |0=>rfl
 |k+1=>by rw[qh,GW,Dz s k,Om]
def Kf:∀l∈m9,GW l 15=(Di m9 l 0).getD 0:=Vy
def Kg {s:au}(h:jK s.toList=true):qh s 15=ol s:=by
 have a:s.toList∈m9:=by simpa [jK]using h
 rw[Dz];exact Kf _ a
def nj {s:au}(h:dX s=3):jK s.toList=true:=by
 unfold dX js at h;split at h;.cases h
 .split at h;.cases h
  .split at h;.cases h
   .split at h;.assumption
    .cases h
def Kh (w:aw):(zeroValue 105).run prog w= .ok (.pointer none) w:=VA
def gr.look {w:aw}{b n:Nat}{mp:an}(h:gr w b n mp)(s:au)(g:s.size<=maxLen):
  (Instr.lookup 145 (.map (some b)) (ag s) false).run prog w= .ok (ii (mp s)) w:=by
 obtain⟨D,d,f⟩:=h;have⟨v,i,c,a⟩:=d.lookup IR underlying145 (Kh w) (lO none) (IS s g);have e:=f s;unfold oM at e;rw[e]at a;rw[c,qg a]
def sR (mp:an)(s:au):Value:= .agg #[aa (jC mp s),ii (zJ mp s)]
def DB (w:aw)(b:Nat)(mp:an)(s:au)(p:Nat)(a:dX s=3)(f:BOK w):
  Calls prog 167 #[.map (some b),.agg #[aa 3,ag s,aa p]] w λe w'=>e= .returned (sR mp s)/\ak w w':=by
 have g:=((Vs w).alloc (aE _) (am #[aa 3,ag s,aa p] 148)).alloc Vw (am #[aa 0,.pointer none] 216);have j:BOK ((w.Vn #[aa 3,ag s,aa p] 148).Vn #[aa 0,.pointer none] 216):=f.O (g.block _ f.lt)
 have i:∀x y,dZ ((w.Vn #[aa 3,ag s,aa p] 148).Vn #[x,y] 216) (w.heap.size+1) #[x,y] 216:=λx y=>by
  have:=dZ.new (w.Vn #[aa 3,ag s,aa p] 148) #[x,y] 216;simpa using this
 have h:∀o,ak w ((w.alloc (am #[aa 3,ag s,aa p] 148)).alloc o):=λo=>(Vt w _).alloc Vw o
 have c:qh s 15=ol s:=Kg (nj a);have d:sR mp s= .agg #[aa (qh s 15),.pointer none]:=(by unfold sR jC zJ;rw[dR a,dR a,c];rfl);rw[d];clear a c d;go_in
 go_wp2_with fail;refine(Ke _ s j).V ?_;rintro e w1 ⟨rfl,rfl⟩;go_wp2;exact dU (ew results167 _ _ rfl (i _ _) underlying216 VA) rfl ⟨rfl,h _⟩
def DC (w:aw)(b n:Nat)(mp:an)(k:Int)(s:au)(p:Nat)(H:gr w b n mp)(m:s.size<=2000)(d:k=dX s)(a:¬dX s=3):
  Calls prog 167 #[.map (some b),.agg #[aa k,ag s,aa p]] w λe w'=>e= .returned (sR mp s)/\ak w w':=by
 have i:=((Vs w).alloc (aE _) (am #[aa k,ag s,aa p] 148)).alloc Vw (am #[aa 0,.pointer none] 216);have g:gr ((w.Vn #[aa k,ag s,aa p] 148).Vn #[aa 0,.pointer none] 216) b n mp:=H.O (i.block _ H.lt)
 have h:∀x y,dZ ((w.Vn #[aa k,ag s,aa p] 148).Vn #[x,y] 216) (w.heap.size+1) #[x,y] 216:=λx y=>by
  have:=dZ.new (w.Vn #[aa k,ag s,aa p] 148) #[x,y] 216;simpa using this
 have f:∀o,ak w ((w.alloc (am #[aa k,ag s,aa p] 148)).alloc o):=λo=>(Vt w _).alloc Vw o
 have c:=g.look s VC;have l:(k==3)=false:=by rw[d];simp[a]
 have j:¬k=3:=by rw[d];exact a
 unfold sR jC zJ;rw[dQ a,dQ a];clear d a g
 cases hm:mp s with
 |none=>
  rw[hm]at c;unfold ii at c⊢;go_in
  go_wp2
  exact dU (ew results167 _ _ rfl (h _ _) underlying216 VA) rfl ⟨rfl,f _⟩
 |some x=>
  rw[hm]at c;unfold ii at c⊢;go_in
  go_wp2;exact dU (ew results167 _ _ rfl (h _ _) underlying216 VA) rfl ⟨rfl,f _⟩
def xF (w:aw)(b n:Nat)(mp:an)(s:au)(p:Nat)(H:gr w b n mp)(c:s.size<=2000)(a:BOK w):
  Vq 167 #[.map (some b),.agg #[aa (dX s),ag s,aa p]] w λe w'=>e= .returned (sR mp s)/\ak w w':=by
 by_cases hk:dX s=3;.have:=DB w b mp s p hk a;rw[hk];exact this
 .exact DC w b n mp _ s p H c rfl hk
section
variable {w:aw} {P:ax} {n eb:Nat}
theorem Fm {g k:Nat}{T:TypeId}{cs:aq}(h:dZ w g cs T)(d:P g)(a:cs.size=n*k)(hm:n<=maxLen):eP w P T k (Vr g n n) n cs.toList:=by
 refine⟨⟨by simpa using a,.inr ⟨g,n,cs,rfl,aP _,h,aE _,hm,a,?_⟩⟩,λb c=> ?_⟩;.rw[ch];simp[a]
 .cases c;exact d
theorem eT {a b c:aw}(h:Below a.heap.size a b)(k:Below b.heap.size b c):Below a.heap.size a c:=
 h.J ⟨k.os,k.tape,k.output,k.size,λi d=>k.block i (aI d h.size)⟩
theorem eP.nil0 (w:aw)(Z:ax)(T:TypeId)(k:Nat):eP w Z T k (ai) 0 []:=⟨br _ _ _ _,λb a=>by cases a⟩
theorem dZ.newAt (h:n=w.heap.size)(cs:aq)(T:TypeId):dZ (w.alloc (.cells cs T)) n cs T:=h▸dZ.new w cs T
def nl (w:aw)(P:ax)(kb vb:Int)(kp vp:Value)(eb:Nat):Prop:=
 ∃fv b1 b2,dZ w eb #[ag eS,fv] 108/\P eb/\eP w P 212 1 fv 2 (fA [b1,b2])/\
  (dZ w b1 #[aa 1,aa 1,aa kb,kp,ai] 220/\P b1)/\(dZ w b2 #[aa 2,aa 1,aa vb,vp,ai] 220/\P b2)
theorem nl.ent {mp:an}{k v:au}(h:nl w P (jC mp k) (jC mp v) (ii (zJ mp k)) (ii (zJ mp v)) eb):mM w P mp k v eb:=by
 obtain⟨e,c,d,f,g,i,a,b⟩:=h;exact⟨e,c,d,f,g,i,⟨_,a.1,a.2,eP.nil0 _ _ _ _⟩,⟨_,b.1,b.2,eP.nil0 _ _ _ _⟩⟩
theorem nl.O {w':aw}(d:∀b,P b->b<w.heap.size->w'.heap[b]?=w.heap[b]?){kb vb:Int}{kp vp:Value}(h:nl w P kb vb kp vp eb):nl w' P kb vb kp vp eb:=by
 obtain⟨j,g,i,e,f,k,a,c⟩:=h;exact⟨j,g,i,(d _ f e.lt).J e,f,k.O d,⟨(d _ a.2 a.1.lt).J a.1,a.2⟩,⟨(d _ c.2 c.1.lt).J c.1,c.2⟩⟩
theorem nl.V {Q:ax}(a:∀b,P b->Q b){kb vb:Int}{kp vp:Value}(h:nl w P kb vb kp vp eb):nl w Q kb vb kp vp eb:=by
 obtain⟨g,e,f,i,j,k,c,d⟩:=h;exact⟨g,e,f,i,a _ j,k.V (λb l _=>a b l),⟨c.1,a _ c.2⟩,⟨d.1,a _ d.2⟩⟩
theorem Ki {c o1 o2:Nat}{v1 v2:Value}{b:Nat}(h:c≠b):((w.setCell (aj c o1) v1).setCell (aj c o2) v2).heap[b]?=w.heap[b]?:=by
 rw[dY,dQ h,dY,dQ h]
theorem Oo (w:aw)(kb vb:Int)(kp vp:Value):
  Calls prog 166 #[.agg #[aa kb,kp],.agg #[aa vb,vp]] w λe w'=>∃eb,e= .returned (ah eb)/\nl w' (λb=>w.heap.size<=b) kb vb kp vp eb/\ak w w':=by
 go_in
 go_wp2;go_ret;have z:∀(u:aw) (o:Obj),(u.alloc o).heap.size=u.heap.size+1:=λu o=>Vw
 refine⟨_,rfl,⟨_,w.heap.size+1+1,w.heap.size+1+1+1,dZ.newAt (by simp only[z]) _ _,Vv,Fm ((dZ.newAt (by simp only[z]) _ _).alloc _) Vv rfl VC,
  ⟨(((dZ.newAt (by simp only[z]) _ _).alloc _).alloc _).alloc _,Vv⟩,⟨((dZ.newAt (by simp only[z]) _ _).alloc _).alloc _,Vv⟩⟩,?_⟩
 exact(((((Vt w _).alloc (by simp only[z];omega) _).alloc (by simp only[z];omega) _).alloc (by simp only[z];omega) _).alloc (by simp only[z];omega) _).alloc (by simp only[z];omega) _
def Kj (w:aw)(mp:an)(f:eW)(e:Ending)(w':aw):Prop:=
 if f.form=4 then∃eb,e= .returned (.agg #[aa 16,ah eb])/\mM w' (λb=>w.heap.size<=b) mp (jM f.key) f.type.1 eb
 else e= .returned (sR mp f.type.1)
theorem vT (w:aw)(b n:Nat)(mp:an)(f:eW)(K:f.form=4)(H:gr w b n mp)(z:mX f.key=dX (jM f.key))(g:(jM f.key).size<=2000)(i:f.type.1.size<=2000)(d:BOK w):
  Calls prog 110 #[.map (some b),.agg (FC f)] w λe w'=>(∃eb,e= .returned (.agg #[aa 16,ah eb])/\mM w' (λb=>w.heap.size<=b) mp (jM f.key) f.type.1 eb)/\ak w w':=by
 obtain⟨form,key,X,nm,a⟩:=f;dsimp only[FC]at K z g i⊢;subst K;rw[z];generalize hks':jM key=ks at*;obtain⟨ts,j⟩:=X;have A:=((Vs w).alloc (aE _) (am #[aa 4,aa (dX ks),ag ks,aa (nU key),aa (dX ts),ag ts,aa j,aa (dX nm.1),ag nm.1,aa nm.2,aa (dX a.1),ag a.1,aa a.2] 211)).alloc Vw (am #[aa 0,.pointer none] 216);have D:=(dZ.new w #[aa 4,aa (dX ks),ag ks,aa (nU key),aa (dX ts),ag ts,aa j,aa (dX nm.1),ag nm.1,aa nm.2,aa (dX a.1),ag a.1,aa a.2] 211).alloc (am #[aa 0,.pointer none] 216);have x:dZ ((w.alloc (am #[aa 4,aa (dX ks),ag ks,aa (nU key),aa (dX ts),ag ts,aa j,aa (dX nm.1),ag nm.1,aa nm.2,aa (dX a.1),ag a.1,aa a.2] 211)).alloc (am #[aa 0,.pointer none] 216)) (w.heap.size+1) #[aa 0,.pointer none] 216:=dZ.newAt Vw _ _;go_in
 go_wp2_with fail;generalize((w.alloc (am #[aa 4,aa (dX ks),ag ks,aa (nU key),aa (dX ts),ag ts,aa j,aa (dX nm.1),ag nm.1,aa nm.2,aa (dX a.1),ag a.1,aa a.2] 211)).alloc (am #[aa 0,.pointer none] 216))=w1 at*;have l:ak w w1.drew:=A.drew;have c:=D.drew;have y:=x.drew;have a:=x.lt
 have o:Hid (Vq 167 #[.map (some b),.agg #[aa (dX ks),ag ks,aa (nU key)]] w1.drew (λe w'=>e= .returned (.agg #[aa (jC mp ks),ii (zJ mp ks)])/\Below w1.drew.heap.size w1.drew w')):=
  xF _ b n mp ks (nU key) (H.O (l.block _ H.lt)) g (d.O (l.block _ d.lt))
 have q:Hid (∀w2:aw,Below w1.drew.heap.size w1.drew w2->Vq 167 #[.map (some b),.agg #[aa (dX ts),ag ts,aa j]] w2 (λe w'=>e= .returned (.agg #[aa (jC mp ts),ii (zJ mp ts)])/\ak w2 w')):=
  λw2 t=>xF w2 b n mp ts j (H.O ((eT l t).block _ H.lt)) i (d.O ((eT l t).block _ d.lt))
 have m:Hid (∀(w':aw) (eb:Nat),nl w' (λb=>w.heap.size<=b) (jC mp ks) (jC mp ts) (ii (zJ mp ks)) (ii (zJ mp ts)) eb->mM w' (λb=>w.heap.size<=b) mp ks ts eb):=λw' eb h=>h.ent
 generalize(jC mp ks:Int)=k1 at o q m;generalize(jC mp ts:Int)=k2 at o q m;generalize ii (zJ mp ks)=p1 at o q m;generalize ii (zJ mp ts)=p2 at o q m
 have I:Hid (∀w3:aw,Vq 166 #[.agg #[aa k1,p1],.agg #[aa k2,p2]] w3 (λe w'=>∃eb,e= .returned (ah eb)/\nl w' (λb=>w3.heap.size<=b) k1 k2 p1 p2 eb/\ak w3 w')):=
  λw3=>Oo w3 k1 k2 p1 p2
 clear H d z g i A;generalize(dX ks)=q1 at*;generalize(dX ts)=q2 at*;generalize(nU key:Int)=q3 at*;generalize(j:Int)=q4 at*;clear hks';have J:w1.drew.cell? (aj w.heap.size 1)=some (aa q1)/\w1.drew.cell? (aj w.heap.size 2)=some (ag ks)/\w1.drew.cell? (aj w.heap.size 3)=some (aa q3)/\w1.drew.cell? (aj w.heap.size 4)=some (aa q2)/\w1.drew.cell? (aj w.heap.size 5)=some (ag ts)/\w1.drew.cell? (aj w.heap.size 6)=some (aa q4):=⟨c.cell 1,c.cell 2,c.cell 3,c.cell 4,c.cell 5,c.cell 6⟩
 have G:Hid (∀(u v:aw),Below u.heap.size u v->w.heap.size<u.heap.size->u.cell? (aj w.heap.size 1)=some (aa q1)/\u.cell? (aj w.heap.size 2)=some (ag ks)/\u.cell? (aj w.heap.size 3)=some (aa q3)/\u.cell? (aj w.heap.size 4)=some (aa q2)/\u.cell? (aj w.heap.size 5)=some (ag ts)/\u.cell? (aj w.heap.size 6)=some (aa q4)->
   v.cell? (aj w.heap.size 1)=some (aa q1)/\v.cell? (aj w.heap.size 2)=some (ag ks)/\v.cell? (aj w.heap.size 3)=some (aa q3)/\v.cell? (aj w.heap.size 4)=some (aa q2)/\v.cell? (aj w.heap.size 5)=some (ag ts)/\v.cell? (aj w.heap.size 6)=some (aa q4)):=
  λu v h k ⟨L,t,M,N,O,P⟩=>⟨(h.cell (p:=(aj w.heap.size 1)) k).J L,(h.cell (p:=(aj w.heap.size 2)) k).J t,(h.cell (p:=(aj w.heap.size 3)) k).J M,(h.cell (p:=(aj w.heap.size 4)) k).J N,(h.cell (p:=(aj w.heap.size 5)) k).J O,(h.cell (p:=(aj w.heap.size 6)) k).J P⟩
 clear c D x;obtain⟨R,S,T,U,V,W⟩:=J;have Y:w.heap.size<w1.drew.heap.size:=Nat.lt_of_succ_lt y.lt;go_region_with (first|(go_at_call 167;refine(q.o w2 s).V ?_;rintro e w3 ⟨rfl,E⟩;have r:=B.G E B.lt)|(go_at_call 167;refine o.o.V ?_;rintro e w2 ⟨rfl,s⟩;have B:=y.G s y.lt;have⟨Z,a,c,g,h,i⟩:=G.o _ _ s Y ⟨R,S,T,U,V,W⟩)|(go_at_call 166;refine(I.o w3).V ?_;rintro e j ⟨eb,rfl,Q,F⟩;have C:=r.G F r.lt;have⟨k,t⟩:=C.I))
 all_goals
  go_wp2;refine dU (ew results110 _ _ rfl ((C.set 0 _).set 1 _) underlying216 VA) rfl ⟨⟨eb,rfl,m.o _ _ ?_⟩,?_⟩;.exact((Q.O (λb d _=>Ki (by have:=r.lt;omega))).V (λb d=>by have:=r.lt;omega))
  .exact((eT (eT (eT l s) E) F).setCell (p:=(aj (w.heap.size+1) 0)) (bH _) _).setCell (p:=(aj (w.heap.size+1) 1)) (bH _) _
theorem vU (w:aw)(b n:Nat)(mp:an)(f:eW)(m:¬f.form=4)(H:gr w b n mp)(c:f.type.1.size<=2000)(k:BOK w):
  Calls prog 110 #[.map (some b),.agg (FC f)] w λe w'=>e= .returned (sR mp f.type.1)/\ak w w':=by
 have l:(f.form==4)=false:=by simp[m]
 have d:=((Vs w).alloc (aE _) (FO f)).alloc Vw (am #[aa 0,.pointer none] 216);have h:dZ ((w.alloc (FO f)).alloc (am #[aa 0,.pointer none] 216)) (w.heap.size+1) #[aa 0,.pointer none] 216:=dZ.newAt Vw _ _
 have a:Hid (∀w1:aw,ak w w1->Vq 167 #[.map (some b),.agg #[aa (dX f.type.1),ag f.type.1,aa f.type.2]] w1 (λe w'=>e= .returned (.agg #[aa (jC mp f.type.1),ii (zJ mp f.type.1)])/\ak w1 w')):=
  λw1 j=>xF w1 b n mp f.type.1 f.type.2 (H.O (j.block _ H.lt)) c (k.O (j.block _ k.lt))
 unfold sR;generalize zJ mp f.type.1=o at a⊢;generalize(jC mp f.type.1:Int)=q at a⊢;cases o
 all_goals
  unfold ii at a⊢;go_in
  go_wp2_with fail;generalize((w.alloc (FO f)).alloc (am #[aa 0,.pointer none] 216))=w1 at*;refine(a.o w1 d).V ?_;rintro e w2 ⟨rfl,i⟩;have g:=h.G i h.lt;have⟨r,s⟩:=g.I;go_wp2;refine dU (ew results110 _ _ rfl ((g.set 0 _).set 1 _) underlying216 VA) rfl ⟨rfl,?_⟩;exact((eT d i).setCell (p:=(aj (w.heap.size+1) 0)) (bH _) _).setCell (p:=(aj (w.heap.size+1) 1)) (bH _) _
structure Fo (f:eW):Prop where
 key:f.form=4->mX f.key=dX (jM f.key)/\(jM f.key).size<=2000
 ty:f.type.1.size<=2000
theorem DD (w:aw)(b n:Nat)(mp:an)(f:eW)(a:Fo f)(H:gr w b n mp)(c:BOK w):
  Vq 110 #[.map (some b),.agg (FC f)] w λe w'=>Kj w mp f e w'/\ak w w':=by
 unfold Kj;by_cases hf:f.form=4
 .refine(vT w b n mp f hf H (a.key hf).1 (a.key hf).2 a.ty c).V λe w' h=> ?_
  rw[dR hf];exact h
 .refine(vU w b n mp f hf H a.ty c).V λe w' h=> ?_
  rw[dQ hf];exact h
end
def Tryz.info3:(prog.info? 3).map (λi=>(i.zero,i.size,i.bytes))=some (some (.int .i64 0),1,8):=VA
def BG (f:eW):Prop:=lq f.num.1/\jd f.num.1<=536870911
def xG (f:eW)(l:List eW):List Int:=(l.filter λo=>decide (jE o≠jE f)).map jE
def IX (f o:eW)(l:List eW):xG f (l++ [o])=xG f l++(if jE o=jE f then []else [jE o]):=by
 unfold xG;by_cases h:jE o=jE f<;>simp[h]
def Kk (w:World)(p:fK)(f:eW)(fa:Option Addr)(fc:Nat)(S:Nat->Prop)(m:eP w S 211 13 (.slice fa p.fields.length fc) p.fields.length (p.fields.flatMap sH))(hlen:p.fields.length<=2001)
  (U:BG f) (E:∀o∈p.fields,BG o) (a:GOK w):
  Calls prog 111 #[.agg #[.int .i64 (mX p.oneof),.string (jM p.oneof),.int .i64 (nU p.oneof),.slice fa p.fields.length fc],.agg (FC f)] w λe w'=>∃v,e= .returned v/\w'.ownsRow w.heap.size 3 1 v (qf p f).length (gE (qf p f))/\Below w.heap.size w w':=by
 have⟨i0,Wn,Wo,Wp,Wq⟩:=info_parts Tryz.info3;have X:=((Vs w).alloc (aE _) (Obj.cells #[.int .i64 (mX p.oneof),.string (jM p.oneof),.int .i64 (nU p.oneof),.slice fa p.fields.length fc] 208)).alloc Vw (FO f);have Wb:dZ ((w.Vn #[.int .i64 (mX p.oneof),.string (jM p.oneof),.int .i64 (nU p.oneof),.slice fa p.fields.length fc] 208).alloc (FO f)) (w.heap.size+1) (FC f) 211:=(by have:=dZ.new (w.Vn #[.int .i64 (mX p.oneof),.string (jM p.oneof),.int .i64 (nU p.oneof),.slice fa p.fields.length fc] 208) (FC f) 211;simpa using this);have e0:qf p f=xG f p.fields:=rfl;rw[e0];go_in
 go_wp2;go_loopw [5,11] (λv i wr=>∃(k:Nat),k<=p.fields.length/\i= .int .i64 k/\wr.ownsRow w.heap.size 3 1 v (xG f (p.fields.take k)).length (gE (xG f (p.fields.take k)))/\dZ wr (w.heap.size+1) (FC f) 211/\v.ownBlock≠some (w.heap.size+1)/\Below w.heap.size w wr) (λ_ i _=>p.fields.length-(intOf i).toNat)
 case atStart=>exact⟨0,aP _,rfl,br _ _ _ _,Wb,(by intro h;cases h),X⟩
 case round=>
  obtain⟨k,hk,rfl,b,H,B,n⟩:=hrel;by_cases hlt:k<p.fields.length
  .have⟨o,s⟩:=gx hlt;have J:o∈p.fields:=aL s;have O:p.fields.take (k+1)=p.fields.take k++ [o]:=by rw[bT,s];rfl
   obtain⟨gf,rfl,_,VZ,N⟩:=eJ m.1 Vv;have K:=N wr (n.block gf VZ);have⟨t0,t1,t2,t3,t4,t5,t6,t7,t8,t9,Ws,Wu,Wv⟩:=xz s K;have q:=E o J;have I:=dZ.new wr (FC o) 211;have t:=n.alloc n.size (FO o);have Wd:=H.alloc (FO o);have P:=b.alloc (FO o);have y:Hid (xG f (p.fields.take (k+1))=xG f (p.fields.take k)++(if jE o=jE f then []else [jE o])):=by rw[O];exact IX f o _
   have We:(xG f (p.fields.take k)).length<=2001:=(by unfold xG;rw[bO];exact aM (bZ _ _) (by rw[bN];omega));generalize xG f (p.fields.take k)=L at b P y We;clear N K s J O b H;go_upto_region 5 with fail
   clear t0 t1 t2 t3 t4 t5 t6 t7 t8 t9 Ws Wu Wv;generalize hw1:wr.alloc (FO o)=w1 at*;have zo:wr.heap.size<w1.heap.size:=I.lt;clear hw1;have Wf:Hid (Vq 109 #[.agg (FC o)] w1.drew (λe w'=>e= .returned (.int .i64 (jE o))/\Below w1.drew.heap.size w1.drew w')):=sQ _ o q.1 q.2 (a.O (t.block _ a.lt));have Wh:Hid (∀w2:World,Below w1.drew.heap.size w1.drew w2->Vq 109 #[.agg (FC f)] w2 (λe w'=>e= .returned (.int .i64 (jE f))/\Below w2.heap.size w2 w')):=λw2 h2=>sQ w2 f U.1 U.2 (a.O ((eT t.drew h2).block _ a.lt))
   have Wk:Hid (∀w3:World,Below w.heap.size w w3->Vq 109 #[.agg (FC o)] w3 (λe w'=>e= .returned (.int .i64 (jE o))/\Below w3.heap.size w3 w')):=λw3 h3=>sQ w3 o q.1 q.2 (a.O (h3.block _ a.lt))
   have Wl:Below w.heap.size w w1.drew:=t.drew;have z:=I.drew;have d:=Wd.drew;have Z:w1.drew.ownsRow w.heap.size 3 1 u5 L.length (gE L):=P;have⟨F,G⟩:=z.I;have⟨f1,f2⟩:=d.I;go_cut [11,19]from 11 to 25 (λi c wx=>i= .int .i64 (k:Int)/\c= .bool (!(jE o==jE f))/\Below w1.drew.heap.size w1.drew wx)
   case first=>
    go_region_with (first|(go_at_call 109;refine(Wh.o w2 C).V ?_;rintro e w3 ⟨rfl,b3⟩)|(go_at_call 109;refine Wf.o.V ?_;rintro e w2 ⟨rfl,C⟩;have⟨q1,q2⟩:=(d.G C d.lt).I))
    all_goals
     go_wp2;go_meet
     case rel=>exact⟨rfl,rfl,eT C b3⟩
   case rest=>
    obtain⟨rfl,rfl,r⟩:=hcut;have x:=eT Wl r;have Q:=eZ r Z;have Wm:=z.G r z.lt;have A:=d.G r d.lt;clear F G f1 f2;have⟨F,G⟩:=Wm.I;cases hq:(jE o==jE f)
    .have VX:¬jE o=jE f:=by simpa using hq
     have g:=y.o;rw[dQ VX]at g;go_wp2_with fail;refine(Wk.o wc x).V ?_;rintro e w4 ⟨rfl,D⟩;have l:=eT x D;have R:=eZ D Q;have M:=A.G D A.lt;clear F G;go_wp2_with (first|(at_builtin;refine wpList_append_own_at _ rfl _ _ 35 rfl w.heap.size 3 i0 _ 1 8 underlying35 Wn Wo Wp Wq rfl Vy u5 _ _ rfl (R.alloc _) _ 1 1 [_] rfl rfl (cell_one_new _ _ _) ?h1 ?h63 ?hby ?hba ?_;rotate_right;intro v' w5 VT T V Y))
     case h1=>intro u W;simp at W;subst W;rfl
     case h63=>unfold maxLen;omega
     case hby=>omega
     case hba=>have:=l.size;simp;omega
     refine⟨⟨k+1,Vv,by go_num,?_,?_,?_,?_⟩,by simp[intOf];omega⟩;.rw[g];simpa [gE]using VT
     .exact(M.alloc _).grown T (λe=>B e.sy)
     .intro e;rcases Y with h|h;.exact B (h.sy.J e)
      .rw[h]at e;have e2:=Option.some.inj e;have:=M.lt;simp at e2;omega
     .exact(l.alloc l.size _).grown T (by have:=l.size;simp;omega) (λj hj=>(R.lt j hj).1)
    .have g:=y.o;rw[dR (by simpa using hq),bV]at g;go_wp2;go_roundw
     case rel=>exact⟨k+1,Vv,rfl,by rw[g];exact Q,A,B,x⟩
     case measure=>simp[intOf];omega
  .have hli:decide ((k:Int)<(p.fields.length:Int))=false:=Vx;obtain rfl:k=p.fields.length:=Vv;rw[bB]at b;go_wp2;go_ret;exact⟨_,rfl,b,n⟩
end
section
open VH
section
variable {w:aw} {P:ax} {mp:an}
def lG (x y:Int):Int:=if x<y then-1 else if y<x then 1 else 0
theorem nW (x y:Int):lG x y<0<->x<y:=by
 unfold lG;by_cases h:x<y;.simp[h]
 .by_cases h2:y<x<;>simp[h,h2]
theorem BH (x:Int)(w:aw):Calls prog 170 #[aa x] w λe w'=>e= .returned (.bool false)/\w'=w:=by
 go_in
 go_wp2;go_ret;exact⟨rfl,rfl⟩
theorem qS (x y:Int)(w:aw):Calls prog 114 #[aa x,aa y] w λe w'=>e= .returned (aa (lG x y))/\w'=w:=by
 unfold lG;by_cases h:x<y
 .rw[dR h];go_in
  go_wp2_with (first|(go_at_call 170;refine(BH _ _).V ?_;rintro e w' ⟨rfl,rfl⟩))
  go_ret;exact⟨rfl,rfl⟩
 .have b:decide (x<y)=false:=by simp[h]
  rw[dQ h];by_cases h2:y<x
  .rw[dR h2];go_in
   go_wp2_with (first|(go_at_call 170;refine(BH _ _).V ?_;rintro e w' ⟨rfl,rfl⟩))
   go_ret;exact⟨rfl,rfl⟩
  .have a:decide (y<x)=false:=by simp[h2]
   rw[dQ h2];go_in
   go_wp2_with (first|(go_at_call 170;refine(BH _ _).V ?_;rintro e w' ⟨rfl,rfl⟩))
   go_ret;exact⟨rfl,rfl⟩
theorem fi.cell0 {g:GF}{fb:Nat}(h:fi w P mp g fb):w.cell? (aj fb 0)=some (aa g.f.num)/\P fb:=by
 unfold fi at h;split at h;.obtain⟨c,d,a,b,_⟩:=h;exact⟨a.cell 0,b⟩
 .obtain⟨c,a,b,_⟩:=h;exact⟨a.cell 0,b⟩
theorem gq.zip:∀{gs:List GF} {l:aB},gq w P mp gs l->∃z:List (GF×Nat),z.map (·.1)=gs/\z.map (·.2)=l/\∀x∈z,fi w P mp x.1 x.2
 | [],_,h=>⟨[],rfl,h.sy,Vw⟩
 |g::gs,_,⟨b,r,h1,h2,h3⟩=>by
  have⟨z,c,d,e⟩:=gq.zip h3;refine⟨(g,b)::z,by simp[c],by simp[d,h1],?_⟩;intro x a;rcases aR.1 a with rfl|a;.exact h2
  .exact e x a
theorem gq.of_zip:∀{z:List (GF×Nat)},(∀x∈z,fi w P mp x.1 x.2)->gq w P mp (z.map (·.1)) (z.map (·.2))
 | [],_=>rfl
 |x::z,h=>⟨x.2,z.map (·.2),rfl,h x aZ,gq.of_zip (λy a=>h y (aY _ a))⟩
end
def ei (w:aw)(rb:Nat)(s:au)(a:Nat)(deep:Int):Prop:=dZ w rb #[ag s,aa a,aa deep] 244
def Ks (w:aw)(s:au):Calls prog 84 #[ag s] w λe w'=>e= .returned (ah w.heap.size)/\w'=w.alloc (.cells #[ag s,aa 0,aa 1] 244):=by
 go_in
 go_wp2;go_ret;exact⟨rfl,rfl⟩
def si (w:aw)(rb:Nat)(s:au)(a:Nat)(deep:Int)(h:ei w rb s a deep):Calls prog 129 #[ah rb] w λe w'=>e= .returned (.bool (decide (a<s.size)))/\∃q,w'=w.drewN q:=by
 have b:decide (a<s.size)=decide ((a:Int)<(s.size:Int)):=by rw[cH];simp
 rw[b];have⟨c,d⟩:=dZ.I h;go_in
 go_wp2;go_quiet (fail);go_wp2;go_ret;exact⟨rfl,nq,rfl⟩
def SH (w:aw)(rb:Nat)(s:au)(a:Nat)(deep:Int)(h:ei w rb s a deep):Calls prog 130 #[ah rb] w λe w'=>e= .returned (aa a)/\w'=w:=by
 have⟨b,c⟩:=dZ.I h;go_in
 go_wp2;go_ret;exact⟨rfl,rfl⟩
def wG (w:aw)(rb:Nat)(s:au)(a:Nat)(deep:Int)(st:Nat)(h:ei w rb s a deep)(h1:st<=a)(b:a<=s.size):
  Calls prog 136 #[ah rb,aa st] w λe w'=>e= .returned (ag (s.extract st a))/\∃q,w'=w.drewN q:=by
 have⟨c,d⟩:=dZ.I h;go_in
 go_wp2;go_quiet (fail);go_wp2;go_ret;exact⟨rfl,nq,rfl⟩
def Fr (w:aw)(rb:Nat)(s:au)(a:Nat)(deep:Int)(h:ei w rb s a deep)(b:a<=s.size):
  Calls prog 272 #[ah rb] w λe w'=>e= .returned (ag (s.extract a s.size))/\∃q,w'=w.drewN q:=by
 have⟨c,d⟩:=dZ.I h;go_in
 go_wp2;go_quiet (fail);go_wp2;go_ret;exact⟨rfl,nq,rfl⟩
end
abbrev LV:=Int×au
def wN (v:LV):Value:= .agg #[.int .u64 v.1,ag v.2,ai,Vp]

end Go.Proofs.YtfebdimolnobaaaGreatDoor
