import Derived.Test.YtfebdimolnobaaaGreatDoorReadA
import Derived.Shelf.SlSortCmp.Whole1
import Derived.Shelf.SlSortCmp.NoneTotal
set_option maxRecDepth 100000
set_option maxHeartbeats 8000000
set_option linter.all false
namespace Go.Proofs.YtfebdimolnobaaaGreatDoor
open Go.RowKit
section
open Go.Maps
attribute [local go_sem↓] Go.wp_at_zero Go.wp_at_succ
def BOK (w:an):Prop:=∀i v,(yx.map Value.string)[i]?=some v->w.cell? (ai 0 i)=some v
theorem BOK.lt {w:an}(h:BOK w):0<w.heap.size:=aN _ _ (h 0 _ rfl)
theorem BOK.keep {w w':an}(h:BOK w)(hb:w'.heap[0]?=w.heap[0]?):BOK w':=by
 intro i v hv;rw[<-h i v hv];unfold World.cell?;rw[hb]
def m8 (s:am):Nat->Nat
 |0=>0
 |k+1=>if((yx.getD k eS).toList==s.toList)then k else m8 s k
theorem Ep (k:Nat)(x:am)(h:yx[k]?=some x)(w:an):(Instr.index 427 (.agg #[ae ⟨#[105,110,116,51,50]⟩,ae ⟨#[105,110,116,54,52]⟩,ae ⟨#[117,105,110,116,51,50]⟩,ae ⟨#[117,105,110,116,54,52]⟩,ae ⟨#[115,105,110,116,51,50]⟩,ae ⟨#[115,105,110,116,54,52]⟩,ae ⟨#[98,111,111,108]⟩,ae ⟨#[102,105,120,101,100,51,50]⟩,ae ⟨#[102,105,120,101,100,54,52]⟩,ae ⟨#[115,102,105,120,101,100,51,50]⟩,ae ⟨#[115,102,105,120,101,100,54,52]⟩,ae ⟨#[102,108,111,97,116]⟩,ae ⟨#[100,111,117,98,108,101]⟩,ae ⟨#[115,116,114,105,110,103]⟩,ae ⟨#[98,121,116,101,115]⟩]) (aa (k:Int))).run Tryz.prog w= .ok (ae x) w:=by
 have hk:k<15:=by
  by_cases h':k<15
  ·exact h'
  ·rw[aQ (by show 15<=k;omega)]at h;cases h
 rcases(show k=0\/k=1\/k=2\/k=3\/k=4\/k=5\/k=6\/k=7\/k=8\/k=9\/k=10\/k=11\/k=12\/k=13\/k=14 from by omega)with rfl|rfl|rfl|rfl|rfl|rfl|rfl|rfl|rfl|rfl|rfl|rfl|rfl|rfl|rfl
 all_goals
  obtain rfl:=Option.some.inj h;change _=_
  kernel_rfl
theorem Er (w:an)(s:am)(hb:BOK w):
  Calls Tryz.prog 245 #[ae s] w fun e w'=>e= .returned (aa (m8 s 15))/\w'=w:=by
 have c0:=hb 0 _ rfl;have c1:=hb 1 _ rfl;have c2:=hb 2 _ rfl;have c3:=hb 3 _ rfl;have c4:=hb 4 _ rfl;have c5:=hb 5 _ rfl;have c6:=hb 6 _ rfl;have c7:=hb 7 _ rfl;have c8:=hb 8 _ rfl;have c9:=hb 9 _ rfl;have c10:=hb 10 _ rfl;have N2:=hb 11 _ rfl;have N3:=hb 12 _ rfl;have Io:=hb 13 _ rfl;have Im:=hb 14 _ rfl;go_enter Tryz.func245,Tryz.ntmps245
 go_wp2;clear c0 c1 c2 c3 c4 c5 c6 c7 c8 c9 c10 N2 N3 Io Im;go_loopw [3,7] (fun v i wr=>∃(k:Nat),k<=15/\i=aa k/\v=aa (m8 s k)/\w=wr) (fun _ i _=>15-(intOf i).toNat)
 case atStart=>exact⟨0,aM _,rfl,rfl,rfl⟩
 case round=>
  obtain⟨k,hk,rfl,rfl,rfl⟩:=hrel
  by_cases hlt:k<15
  ·obtain⟨x,hx⟩:=gx (l:=yx) (show k<yx.length from hlt);have e:m8 s (k+1)=if x.toList==s.toList then k else m8 s k:=by rw[m8,bK,hx];rfl
   have hi:=Ep k x hx;have N7:(k:Int)<15:=by omega
   clear hx
   cases hc:(x.toList==s.toList)
   ·rw[hc,if_neg (by simp)]at e;go_wp2;go_roundw
    case rel=>exact⟨k+1,by omega,rfl,by rw[e],trivial⟩
    case measure=>simp[intOf];omega
   ·rw[hc,if_pos rfl]at e;go_wp2;go_roundw
    case rel=>exact⟨k+1,by omega,rfl,by rw[e],trivial⟩
    case measure=>simp[intOf];omega
  ·have N7:decide ((k:Int)<15)=false:=by simp;omega
   obtain rfl:k=15:=by omega
   go_wp2;go_ret;exact⟨rfl,rfl⟩
def BO (l:List UInt8):Nat->Nat
 |0=>0
 |k+1=>if(kW.getD k []==l)then k else BO l k
theorem Hm (k:Nat):(yx.getD k eS).toList=kW.getD k []:=by
 unfold yx;rw[bK,bK,aO]
 cases kW[k]? with
 |none=>simp[eS,ByteArray.toList_eq]
 |some l=>simp[ByteArray.toList_eq]
theorem yB (s:am):∀k,m8 s k=BO s.toList k
 |0=>rfl
 |k+1=>by rw[m8,BO,yB s k,Hm]
theorem Es:∀l∈kW,BO l 15=(yA kW l 0).getD 0:=by decide
theorem Et {s:am}(h:g9 s.toList=true):m8 s 15=o8 s:=by
 have hm:s.toList∈kW:=by simpa [g9]using h
 rw[yB];exact Es _ hm
theorem lJ {s:am}(h:cZ s=3):g9 s.toList=true:=by
 unfold cZ gZ at h
 split at h
 ·cases h
 ·split at h
  ·cases h
  ·split at h
   ·cases h
   ·split at h
    ·assumption
    ·cases h
theorem Eu (w:an):(zeroValue 105).run Tryz.prog w= .ok (.pointer none) w:=by kernel_rfl
theorem eI.look {w:an}{b n:Nat}{mp:am->Option Nat}(h:eI w b n mp)(s:am)(hs:s.size<=maxLen):
  (Instr.lookup 145 (.map (some b)) (ae s) false).run Tryz.prog w= .ok (ft (mp s)) w:=by
 obtain⟨D,h1,h2⟩:=h;obtain⟨v,ps,N3,hR⟩:=h1.lookup CV Tryz.underlying145 (Eu w) (jk none) (CX s hs);have e:=h2 s;unfold lI at e;rw[e]at hR;rw[N3,mZ hR]
def pM (mp:am->Option Nat)(s:am):Value:= .agg #[aa (gQ mp s),ft (uK mp s)]
theorem yC (w:an)(b:Nat)(mp:am->Option Nat)(s:am)(p:Nat)(hk:cZ s=3)(hb:BOK w):
  Calls Tryz.prog 167 #[.map (some b),.agg #[aa 3,ae s,aa p]] w fun e w'=>e= .returned (pM mp s)/\aj w w':=by
 have B0:=((Below.refl w.heap.size w).alloc (ay _) (ak #[aa 3,ae s,aa p] 148)).alloc (by simp) (ak #[aa 0,.pointer none] 216);have N7:BOK ((w.alloc (ak #[aa 3,ae s,aa p] 148)).alloc (ak #[aa 0,.pointer none] 216)):=hb.keep (B0.block _ hb.lt)
 have K1:∀x y,de ((w.alloc (ak #[aa 3,ae s,aa p] 148)).alloc (ak #[x,y] 216)) (w.heap.size+1) #[x,y] 216:=fun x y=>by
  have:=de.new (w.alloc (ak #[aa 3,ae s,aa p] 148)) #[x,y] 216;simpa using this
 have B1:∀o,aj w ((w.alloc (ak #[aa 3,ae s,aa p] 148)).alloc o):=fun o=>((Below.refl w.heap.size w).alloc (ay _) _).alloc (by simp) o
 have e3:m8 s 15=o8 s:=Et (lJ hk)
 have hT:pM mp s= .agg #[aa (m8 s 15),.pointer none]:=by
  unfold pM gQ uK;rw[if_pos hk,if_pos hk,e3];rfl
 rw[hT];clear hk e3 hT;go_enter Tryz.func167,Tryz.ntmps167
 go_wp2_with fail
 refine(Er _ s N7).mono ?_;rintro e w1 ⟨rfl,rfl⟩;go_wp2;exact bodyPost_ret (dw Tryz.results167 _ _ rfl (K1 _ _) Tryz.underlying216 (by kernel_rfl)) rfl ⟨rfl,B1 _⟩
theorem yD (w:an)(b n:Nat)(mp:am->Option Nat)(k:Int)(s:am)(p:Nat)(H:eI w b n mp)(hs:s.size<=2000)(hk:k=cZ s)(hk3:¬cZ s=3):
  Calls Tryz.prog 167 #[.map (some b),.agg #[aa k,ae s,aa p]] w fun e w'=>e= .returned (pM mp s)/\aj w w':=by
 have B0:=((Below.refl w.heap.size w).alloc (ay _) (ak #[aa k,ae s,aa p] 148)).alloc (by simp) (ak #[aa 0,.pointer none] 216);have H0:eI ((w.alloc (ak #[aa k,ae s,aa p] 148)).alloc (ak #[aa 0,.pointer none] 216)) b n mp:=H.keep (B0.block _ H.lt)
 have K1:∀x y,de ((w.alloc (ak #[aa k,ae s,aa p] 148)).alloc (ak #[x,y] 216)) (w.heap.size+1) #[x,y] 216:=fun x y=>by
  have:=de.new (w.alloc (ak #[aa k,ae s,aa p] 148)) #[x,y] 216;simpa using this
 have B1:∀o,aj w ((w.alloc (ak #[aa k,ae s,aa p] 148)).alloc o):=fun o=>((Below.refl w.heap.size w).alloc (ay _) _).alloc (by simp) o
 have N2:=H0.look s (by unfold maxLen;omega);have hd:(k==3)=false:=by rw[hk];simp[hk3]
 have hd2:¬k=3:=by rw[hk];exact hk3
 unfold pM gQ uK;rw[if_neg hk3,if_neg hk3];clear hk hk3 H0
 cases hm:mp s with
 |none=>
  rw[hm]at N2;unfold ft at N2⊢;go_enter Tryz.func167,Tryz.ntmps167
  go_wp2;exact bodyPost_ret (dw Tryz.results167 _ _ rfl (K1 _ _) Tryz.underlying216 (by kernel_rfl)) rfl ⟨rfl,B1 _⟩
 |some x=>
  rw[hm]at N2;unfold ft at N2⊢;go_enter Tryz.func167,Tryz.ntmps167
  go_wp2;exact bodyPost_ret (dw Tryz.results167 _ _ rfl (K1 _ _) Tryz.underlying216 (by kernel_rfl)) rfl ⟨rfl,B1 _⟩
theorem sP (w:an)(b n:Nat)(mp:am->Option Nat)(s:am)(p:Nat)(H:eI w b n mp)(hs:s.size<=2000)(hb:BOK w):
  Calls Tryz.prog 167 #[.map (some b),.agg #[aa (cZ s),ae s,aa p]] w fun e w'=>e= .returned (pM mp s)/\aj w w':=by
 by_cases hk:cZ s=3
 ·have:=yC w b mp s p hk hb;rw[hk];exact this
 ·exact yD w b n mp _ s p H hs rfl hk
theorem Az {w:an}{P:ap}{g n k:Nat}{T:TypeId}{cs:Array Value}(h:de w g cs T)(hp:P g)(hs:cs.size=n*k)(hm:n<=maxLen):dJ w P T k (.slice (some (ai g 0)) n n) n cs.toList:=by
 refine⟨⟨by simpa using hs,.inr ⟨g,n,cs,rfl,aM _,h,ay _,hm,hs,?_⟩⟩,fun b hb=> ?_⟩
 ·rw[bY];simp[hs]
 ·cases hb
  exact hp
theorem dH {a b c:an}(h:Below a.heap.size a b)(k:Below b.heap.size b c):Below a.heap.size a c:=
 h.trans ⟨k.os,k.tape,k.output,k.size,fun i hi=>k.block i (aC hi h.size)⟩
theorem dJ.nil0 (w:an)(Z:ap)(T:TypeId)(k:Nat):dJ w Z T k (ah) 0 []:=⟨aX _ _ _ _,fun b hb=>by cases hb⟩
theorem de.newAt {w:an}{n:Nat}(h:n=w.heap.size)(cs:Array Value)(T:TypeId):de (w.alloc (.cells cs T)) n cs T:=h▸de.new w cs T
def kr (w:an)(P:ap)(kb vb:Int)(kp vp:Value)(eb:Nat):Prop:=
 ∃fv b1 b2,de w eb #[ae eS,fv] 108/\P eb/\dJ w P 212 1 fv 2 (dV [b1,b2])/\
  (de w b1 #[aa 1,aa 1,aa kb,kp,ah] 220/\P b1)/\(de w b2 #[aa 2,aa 1,aa vb,vp,ah] 220/\P b2)
theorem kr.ent {w:an}{P:ap}{mp:am->Option Nat}{k v:am}{eb:Nat}(h:kr w P (gQ mp k) (gQ mp v) (ft (uK mp k)) (ft (uK mp v)) eb):jQ w P mp k v eb:=by
 obtain⟨fv,b1,b2,h1,h2,h3,h4,h5⟩:=h;exact⟨fv,b1,b2,h1,h2,h3,⟨_,h4.1,h4.2,dJ.nil0 _ _ _ _⟩,⟨_,h5.1,h5.2,dJ.nil0 _ _ _ _⟩⟩
theorem kr.keep {w w':an}{P:ap}(hk:∀b,P b->b<w.heap.size->w'.heap[b]?=w.heap[b]?){kb vb:Int}{kp vp:Value}{eb:Nat}(h:kr w P kb vb kp vp eb):kr w' P kb vb kp vp eb:=by
 obtain⟨fv,b1,b2,h1,h2,h3,h4,h5⟩:=h;exact⟨fv,b1,b2,(hk _ h2 h1.lt).trans h1,h2,h3.keep hk,⟨(hk _ h4.2 h4.1.lt).trans h4.1,h4.2⟩,⟨(hk _ h5.2 h5.1.lt).trans h5.1,h5.2⟩⟩
theorem kr.mono {w:an}{P Q:ap}(hs:∀b,P b->Q b){kb vb:Int}{kp vp:Value}{eb:Nat}(h:kr w P kb vb kp vp eb):kr w Q kb vb kp vp eb:=by
 obtain⟨fv,b1,b2,h1,h2,h3,h4,h5⟩:=h;exact⟨fv,b1,b2,h1,hs _ h2,h3.mono (fun b hb _=>hs b hb),⟨h4.1,hs _ h4.2⟩,⟨h5.1,hs _ h5.2⟩⟩
theorem Ev {w:an}{c o1 o2:Nat}{v1 v2:Value}{b:Nat}(h:c≠b):((w.setCell (ai c o1) v1).setCell (ai c o2) v2).heap[b]?=w.heap[b]?:=by
 rw[dd,if_neg h,dd,if_neg h]
theorem Hn (w:an)(kb vb:Int)(kp vp:Value):
  Calls Tryz.prog 166 #[.agg #[aa kb,kp],.agg #[aa vb,vp]] w fun e w'=>∃eb,e= .returned (ag eb)/\kr w' (fun b=>w.heap.size<=b) kb vb kp vp eb/\aj w w':=by
 go_enter Tryz.func166,Tryz.ntmps166
 go_wp2;go_ret;have z:∀(u:an) (o:Obj),(u.alloc o).heap.size=u.heap.size+1:=fun u o=>by simp
 refine⟨_,rfl,⟨_,w.heap.size+1+1,w.heap.size+1+1+1,de.newAt (by simp only[z]) _ _,by omega,Az ((de.newAt (by simp only[z]) _ _).alloc _) (by omega) rfl (by unfold maxLen;omega),
  ⟨(((de.newAt (by simp only[z]) _ _).alloc _).alloc _).alloc _,by omega⟩,⟨((de.newAt (by simp only[z]) _ _).alloc _).alloc _,by omega⟩⟩,?_⟩
 exact((((((Below.refl w.heap.size w).alloc (ay _) _).alloc (by simp only[z];omega) _).alloc (by simp only[z];omega) _).alloc (by simp only[z];omega) _).alloc (by simp only[z];omega) _).alloc (by simp only[z];omega) _
def Ew (w:an)(mp:am->Option Nat)(f:dM)(e:Ending)(w':an):Prop:=
 if f.form=4 then∃eb,e= .returned (.agg #[aa 16,ag eb])/\jQ w' (fun b=>w.heap.size<=b) mp (iz f.key) f.type.1 eb
 else e= .returned (pM mp f.type.1)
theorem rL (w:an)(b n:Nat)(mp:am->Option Nat)(f:dM)(hf:f.form=4)(H:eI w b n mp)(hk:kS f.key=cZ (iz f.key))(hks:(iz f.key).size<=2000)(hts:f.type.1.size<=2000)(hb:BOK w):
  Calls Tryz.prog 110 #[.map (some b),.agg (FC f)] w fun e w'=>(∃eb,e= .returned (.agg #[aa 16,ag eb])/\jQ w' (fun b=>w.heap.size<=b) mp (iz f.key) f.type.1 eb)/\aj w w':=by
 obtain⟨form,key,ty,nm,nu⟩:=f;dsimp only[FC]at hf hk hks hts⊢;subst hf;rw[hk];generalize hks':iz key=ks at*;obtain⟨ts,tp⟩:=ty;have B0:=((Below.refl w.heap.size w).alloc (ay _) (ak #[aa 4,aa (cZ ks),ae ks,aa (kM key),aa (cZ ts),ae ts,aa tp,aa (cZ nm.1),ae nm.1,aa nm.2,aa (cZ nu.1),ae nu.1,aa nu.2] 211)).alloc (by simp) (ak #[aa 0,.pointer none] 216);have K0:=(de.new w #[aa 4,aa (cZ ks),ae ks,aa (kM key),aa (cZ ts),ae ts,aa tp,aa (cZ nm.1),ae nm.1,aa nm.2,aa (cZ nu.1),ae nu.1,aa nu.2] 211).alloc (ak #[aa 0,.pointer none] 216);have K1:de ((w.alloc (ak #[aa 4,aa (cZ ks),ae ks,aa (kM key),aa (cZ ts),ae ts,aa tp,aa (cZ nm.1),ae nm.1,aa nm.2,aa (cZ nu.1),ae nu.1,aa nu.2] 211)).alloc (ak #[aa 0,.pointer none] 216)) (w.heap.size+1) #[aa 0,.pointer none] 216:=de.newAt (by simp) _ _;go_enter Tryz.func110,Tryz.ntmps110
 go_wp2_with fail
 generalize((w.alloc (ak #[aa 4,aa (cZ ks),ae ks,aa (kM key),aa (cZ ts),ae ts,aa tp,aa (cZ nm.1),ae nm.1,aa nm.2,aa (cZ nu.1),ae nu.1,aa nu.2] 211)).alloc (ak #[aa 0,.pointer none] 216))=w1 at*;have B1:aj w w1.drew:=B0.drew;have KA:=K0.drew;have KB:=K1.drew;have z1:=K1.lt
 have N2:Hid (Calls Tryz.prog 167 #[.map (some b),.agg #[aa (cZ ks),ae ks,aa (kM key)]] w1.drew (fun e w'=>e= .returned (.agg #[aa (gQ mp ks),ft (uK mp ks)])/\Below w1.drew.heap.size w1.drew w')):=
  sP _ b n mp ks (kM key) (H.keep (B1.block _ H.lt)) hks (hb.keep (B1.block _ hb.lt))
 have N3:Hid (∀w2:an,Below w1.drew.heap.size w1.drew w2->Calls Tryz.prog 167 #[.map (some b),.agg #[aa (cZ ts),ae ts,aa tp]] w2 (fun e w'=>e= .returned (.agg #[aa (gQ mp ts),ft (uK mp ts)])/\aj w2 w')):=
  fun w2 h2=>sP w2 b n mp ts tp (H.keep ((dH B1 h2).block _ H.lt)) hts (hb.keep ((dH B1 h2).block _ hb.lt))
 have HE:Hid (∀(w':an) (eb:Nat),kr w' (fun b=>w.heap.size<=b) (gQ mp ks) (gQ mp ts) (ft (uK mp ks)) (ft (uK mp ts)) eb->jQ w' (fun b=>w.heap.size<=b) mp ks ts eb):=fun w' eb h=>h.ent
 generalize(gQ mp ks:Int)=k1 at N2 N3 HE;generalize(gQ mp ts:Int)=k2 at N2 N3 HE;generalize ft (uK mp ks)=p1 at N2 N3 HE;generalize ft (uK mp ts)=p2 at N2 N3 HE
 have N7:Hid (∀w3:an,Calls Tryz.prog 166 #[.agg #[aa k1,p1],.agg #[aa k2,p2]] w3 (fun e w'=>∃eb,e= .returned (ag eb)/\kr w' (fun b=>w3.heap.size<=b) k1 k2 p1 p2 eb/\aj w3 w')):=
  fun w3=>Hn w3 k1 k2 p1 p2
 clear H hb hk hks hts B0;generalize(cZ ks)=q1 at*;generalize(cZ ts)=q2 at*;generalize(kM key:Int)=q3 at*;generalize(tp:Int)=q4 at*;clear hks';have a0:w1.drew.cell? (ai w.heap.size 1)=some (aa q1)/\w1.drew.cell? (ai w.heap.size 2)=some (ae ks)/\w1.drew.cell? (ai w.heap.size 3)=some (aa q3)/\w1.drew.cell? (ai w.heap.size 4)=some (aa q2)/\w1.drew.cell? (ai w.heap.size 5)=some (ae ts)/\w1.drew.cell? (ai w.heap.size 6)=some (aa q4):=⟨KA.cell 1,KA.cell 2,KA.cell 3,KA.cell 4,KA.cell 5,KA.cell 6⟩
 have HS:Hid (∀(u v:an),Below u.heap.size u v->w.heap.size<u.heap.size->u.cell? (ai w.heap.size 1)=some (aa q1)/\u.cell? (ai w.heap.size 2)=some (ae ks)/\u.cell? (ai w.heap.size 3)=some (aa q3)/\u.cell? (ai w.heap.size 4)=some (aa q2)/\u.cell? (ai w.heap.size 5)=some (ae ts)/\u.cell? (ai w.heap.size 6)=some (aa q4)->
   v.cell? (ai w.heap.size 1)=some (aa q1)/\v.cell? (ai w.heap.size 2)=some (ae ks)/\v.cell? (ai w.heap.size 3)=some (aa q3)/\v.cell? (ai w.heap.size 4)=some (aa q2)/\v.cell? (ai w.heap.size 5)=some (ae ts)/\v.cell? (ai w.heap.size 6)=some (aa q4)):=
  fun u v h hl ⟨h1,h2,h3,h4,h5,h6⟩=>⟨(h.cell (p:=(ai w.heap.size 1)) hl).trans h1,(h.cell (p:=(ai w.heap.size 2)) hl).trans h2,(h.cell (p:=(ai w.heap.size 3)) hl).trans h3,(h.cell (p:=(ai w.heap.size 4)) hl).trans h4,(h.cell (p:=(ai w.heap.size 5)) hl).trans h5,(h.cell (p:=(ai w.heap.size 6)) hl).trans h6⟩
 clear KA K0 K1;obtain⟨i1,i2,i3,i4,i5,i6⟩:=a0;have zd:w.heap.size<w1.drew.heap.size:=Nat.lt_of_succ_lt KB.lt;go_region_with (first|(go_at_call 167;refine(N3.out w2 b2).mono ?_;rintro e w3 ⟨rfl,b3⟩;have J3:=J2.below b3 J2.lt)|(go_at_call 167;refine N2.out.mono ?_;rintro e w2 ⟨rfl,b2⟩;have J2:=KB.below b2 KB.lt;obtain⟨j1,j2,j3,j4,j5,j6⟩:=HS.out _ _ b2 zd ⟨i1,i2,i3,i4,i5,i6⟩)|(go_at_call 166;refine(N7.out w3).mono ?_;rintro e w4 ⟨eb,rfl,hE,b4⟩;have J4:=J3.below b4 J3.lt;obtain⟨y7,y8⟩:=J4.rules))
 all_goals
  go_wp2;refine bodyPost_ret (dw Tryz.results110 _ _ rfl ((J4.set 0 _).set 1 _) Tryz.underlying216 (by kernel_rfl)) rfl ⟨⟨eb,rfl,HE.out _ _ ?_⟩,?_⟩
  ·exact((hE.keep (fun b hb _=>Ev (by have:=J3.lt;omega))).mono (fun b hb=>by have:=J3.lt;omega))
  ·exact((dH (dH (dH B1 b2) b3) b4).setCell (p:=(ai (w.heap.size+1) 0)) (bE _) _).setCell (p:=(ai (w.heap.size+1) 1)) (bE _) _
theorem rM (w:an)(b n:Nat)(mp:am->Option Nat)(f:dM)(hf:¬f.form=4)(H:eI w b n mp)(hts:f.type.1.size<=2000)(hb:BOK w):
  Calls Tryz.prog 110 #[.map (some b),.agg (FC f)] w fun e w'=>e= .returned (pM mp f.type.1)/\aj w w':=by
 have hd:(f.form==4)=false:=by simp[hf]
 have B0:=((Below.refl w.heap.size w).alloc (ay _) (FO f)).alloc (by simp) (ak #[aa 0,.pointer none] 216);have K1:de ((w.alloc (FO f)).alloc (ak #[aa 0,.pointer none] 216)) (w.heap.size+1) #[aa 0,.pointer none] 216:=de.newAt (by simp) _ _
 have HC:Hid (∀w1:an,aj w w1->Calls Tryz.prog 167 #[.map (some b),.agg #[aa (cZ f.type.1),ae f.type.1,aa f.type.2]] w1 (fun e w'=>e= .returned (.agg #[aa (gQ mp f.type.1),ft (uK mp f.type.1)])/\aj w1 w')):=
  fun w1 h1=>sP w1 b n mp f.type.1 f.type.2 (H.keep (h1.block _ H.lt)) hts (hb.keep (h1.block _ hb.lt))
 unfold pM;generalize uK mp f.type.1=o at HC⊢;generalize(gQ mp f.type.1:Int)=q at HC⊢
 cases o
 all_goals
  unfold ft at HC⊢;go_enter Tryz.func110,Tryz.ntmps110
  go_wp2_with fail
  generalize((w.alloc (FO f)).alloc (ak #[aa 0,.pointer none] 216))=w1 at*;refine(HC.out w1 B0).mono ?_;rintro e w2 ⟨rfl,b2⟩;have J2:=K1.below b2 K1.lt;obtain⟨y7,y8⟩:=J2.rules;go_wp2;refine bodyPost_ret (dw Tryz.results110 _ _ rfl ((J2.set 0 _).set 1 _) Tryz.underlying216 (by kernel_rfl)) rfl ⟨rfl,?_⟩;exact((dH B0 b2).setCell (p:=(ai (w.heap.size+1) 0)) (bE _) _).setCell (p:=(ai (w.heap.size+1) 1)) (bE _) _
structure AB (f:dM):Prop where
 key:f.form=4->kS f.key=cZ (iz f.key)/\(iz f.key).size<=2000
 ty:f.type.1.size<=2000
theorem yE (w:an)(b n:Nat)(mp:am->Option Nat)(f:dM)(hg:AB f)(H:eI w b n mp)(hb:BOK w):
  Calls Tryz.prog 110 #[.map (some b),.agg (FC f)] w fun e w'=>Ew w mp f e w'/\aj w w':=by
 unfold Ew
 by_cases hf:f.form=4
 ·refine(rL w b n mp f hf H (hg.key hf).1 (hg.key hf).2 hg.ty hb).mono fun e w' h=> ?_
  rw[if_pos hf];exact h
 ·refine(rM w b n mp f hf H hg.ty hb).mono fun e w' h=> ?_
  rw[if_neg hf];exact h
theorem Tryz.info3:(Tryz.prog.info? 3).map (fun i=>(i.zero,i.size,i.bytes))=some (some (.int .i64 0),1,8):=by kernel_rfl
def wT (f:dM):Prop:=gT f.num.1/\fy f.num.1<=536870911
def sQ (f:dM)(l:List dM):List Int:=(l.filter fun o=>decide (gV o≠gV f)).map gV
theorem Da (f o:dM)(l:List dM):sQ f (l++ [o])=sQ f l++(if gV o=gV f then []else [gV o]):=by
 unfold sQ
 by_cases h:gV o=gV f<;>simp[h]
theorem Ex (w:World)(p:er)(f:dM)(fa:Option Addr)(fc:Nat)(S:Nat->Prop)(hrow:dJ w S 211 13 (.slice fa p.fields.length fc) p.fields.length (p.fields.flatMap ox))(hlen:p.fields.length<=2001)
  (hf:wT f) (hps:∀o∈p.fields,wT o) (hg:GOK w):
  Calls Tryz.prog 111 #[.agg #[.int .i64 (kS p.oneof),.string (iz p.oneof),.int .i64 (kM p.oneof),.slice fa p.fields.length fc],.agg (FC f)] w fun e w'=>∃v,e= .returned v/\w'.ownsRow w.heap.size 3 1 v (mY p f).length (eL (mY p f))/\Below w.heap.size w w':=by
 obtain⟨i0,OE,OF,OG,OH⟩:=info_parts Tryz.info3;have B0:=((Below.refl w.heap.size w).alloc (ay _) (Obj.cells #[.int .i64 (kS p.oneof),.string (iz p.oneof),.int .i64 (kM p.oneof),.slice fa p.fields.length fc] 208)).alloc (by simp) (FO f)
 have Ow:de ((w.alloc (Obj.cells #[.int .i64 (kS p.oneof),.string (iz p.oneof),.int .i64 (kM p.oneof),.slice fa p.fields.length fc] 208)).alloc (FO f)) (w.heap.size+1) (FC f) 211:=by
  have:=de.new (w.alloc (Obj.cells #[.int .i64 (kS p.oneof),.string (iz p.oneof),.int .i64 (kM p.oneof),.slice fa p.fields.length fc] 208)) (FC f) 211;simpa using this
 have e0:mY p f=sQ f p.fields:=rfl;rw[e0];go_enter Tryz.func111,Tryz.ntmps111
 go_wp2;go_loopw [5,11] (fun v i wr=>∃(k:Nat),k<=p.fields.length/\i= .int .i64 k/\wr.ownsRow w.heap.size 3 1 v (sQ f (p.fields.take k)).length (eL (sQ f (p.fields.take k)))/\de wr (w.heap.size+1) (FC f) 211/\v.ownBlock≠some (w.heap.size+1)/\Below w.heap.size w wr) (fun _ i _=>p.fields.length-(intOf i).toNat)
 case atStart=>exact⟨0,aM _,rfl,aX _ _ _ _,Ow,(by intro h;cases h),B0⟩
 case round=>
  obtain⟨k,hk,rfl,N2,KF,Om,CW⟩:=hrel
  by_cases hlt:k<p.fields.length
  ·obtain⟨o,ho⟩:=gx hlt;have Ot:o∈p.fields:=aI ho;have N7:p.fields.take (k+1)=p.fields.take k++ [o]:=by rw[bu,ho];rfl
   obtain⟨gf,rfl,_,Oo,N3⟩:=dE hrow.1 (by omega);have Ou:=N3 wr (CW.block gf Oo);obtain⟨t0,t1,t2,t3,t4,t5,t6,t7,t8,t9,OI,OJ,OL⟩:=pH ho Ou;have Oi:=hps o Ot;have KO:=de.new wr (FC o) 211;have CA:=CW.alloc CW.size (FO o);have Ox:=KF.alloc (FO o);have N8:=N2.alloc (FO o);have Od:Hid (sQ f (p.fields.take (k+1))=sQ f (p.fields.take k)++(if gV o=gV f then []else [gV o])):=by rw[N7];exact Da f o _
   have Oy:(sQ f (p.fields.take k)).length<=2001:=by
    unfold sQ;rw[aV];exact aG (bI _ _) (by rw[be];omega)
   generalize sQ f (p.fields.take k)=L at N2 N8 Od Oy;clear N3 Ou ho Ot N7 N2 KF;go_upto_region 5 with fail
   clear t0 t1 t2 t3 t4 t5 t6 t7 t8 t9 OI OJ OL;generalize hw1:wr.alloc (FO o)=w1 at*;have zo:wr.heap.size<w1.heap.size:=KO.lt;clear hw1;have Oz:Hid (Calls Tryz.prog 109 #[.agg (FC o)] w1.drew (fun e w'=>e= .returned (.int .i64 (gV o))/\Below w1.drew.heap.size w1.drew w')):=pL _ o Oi.1 Oi.2 (hg.keep (CA.block _ hg.lt));have OA:Hid (∀w2:World,Below w1.drew.heap.size w1.drew w2->Calls Tryz.prog 109 #[.agg (FC f)] w2 (fun e w'=>e= .returned (.int .i64 (gV f))/\Below w2.heap.size w2 w')):=fun w2 h2=>pL w2 f hf.1 hf.2 (hg.keep ((dH CA.drew h2).block _ hg.lt))
   have OB:Hid (∀w3:World,Below w.heap.size w w3->Calls Tryz.prog 109 #[.agg (FC o)] w3 (fun e w'=>e= .returned (.int .i64 (gV o))/\Below w3.heap.size w3 w')):=fun w3 h3=>pL w3 o Oi.1 Oi.2 (hg.keep (h3.block _ hg.lt))
   have OC:Below w.heap.size w w1.drew:=CA.drew;have Oj:=KO.drew;have Oe:=Ox.drew;have Of:w1.drew.ownsRow w.heap.size 3 1 u5 L.length (eL L):=N8;obtain⟨o1,o2⟩:=Oj.rules;obtain⟨f1,f2⟩:=Oe.rules;go_cut [11,19]from 11 to 25 (fun i c wx=>i= .int .i64 (k:Int)/\c= .bool (!(gV o==gV f))/\Below w1.drew.heap.size w1.drew wx)
   case first=>
    go_region_with (first|(go_at_call 109;refine(OA.out w2 b2).mono ?_;rintro e w3 ⟨rfl,b3⟩)|(go_at_call 109;refine Oz.out.mono ?_;rintro e w2 ⟨rfl,b2⟩;obtain⟨q1,q2⟩:=(Oe.below b2 Oe.lt).rules))
    all_goals
     go_wp2;go_meet
     case rel=>exact⟨rfl,rfl,dH b2 b3⟩
   case rest=>
    obtain⟨rfl,rfl,bc⟩:=hcut;have CC:=dH OC bc;have Oa:=dO bc Of;have OD:=Oj.below bc Oj.lt;have Ok:=Oe.below bc Oe.lt;clear o1 o2 f1 f2;obtain⟨o1,o2⟩:=OD.rules
    cases hq:(gV o==gV f)
    ·have Ol:¬gV o=gV f:=by simpa using hq
     have Og:=Od.out;rw[if_neg Ol]at Og;go_wp2_with fail
     refine(OB.out wc CC).mono ?_;rintro e w4 ⟨rfl,b4⟩;have C4:=dH CC b4;have Ob:=dO b4 Oa;have Ov:=Ok.below b4 Ok.lt;clear o1 o2;go_wp2_with (first|(at_builtin;refine wpList_append_own_at _ rfl _ _ 35 rfl w.heap.size 3 i0 _ 1 8 Tryz.underlying35 OE OF OG OH rfl (by decide) u5 _ _ rfl (Ob.alloc _) _ 1 1 [_] rfl rfl (cell_one_new _ _ _) ?h1 ?h63 ?hby ?hba ?_;rotate_right;intro v' w5 Oh Oc hnil Oq))
     case h1=>intro u hu;simp at hu;subst hu;rfl
     case h63=>unfold maxLen;omega
     case hby=>omega
     case hba=>have:=C4.size;simp;omega
     refine⟨⟨k+1,by omega,by go_num,?_,?_,?_,?_⟩,by simp[intOf];omega⟩
     ·rw[Og];simpa [eL]using Oh
     ·exact(Ov.alloc _).grown Oc (fun e=>Om e.symm)
     ·intro e
      rcases Oq with h|h
      ·exact Om (h.symm.trans e)
      ·rw[h]at e;have e2:=Option.some.inj e;have:=Ov.lt;simp at e2;omega
     ·exact(C4.alloc C4.size _).grown Oc (by have:=C4.size;simp;omega) (fun j hj=>(Ob.lt j hj).1)
    ·have Og:=Od.out;rw[if_pos (by simpa using hq),bT]at Og;go_wp2;go_roundw
     case rel=>exact⟨k+1,by omega,rfl,by rw[Og];exact Oa,Ok,Om,CC⟩
     case measure=>simp[intOf];omega
  ·have hli:decide ((k:Int)<(p.fields.length:Int))=false:=by simp;omega
   obtain rfl:k=p.fields.length:=by omega
   rw[aY]at N2;go_wp2;go_ret;exact⟨_,rfl,N2,CW⟩
end
section
attribute [local go_sem↓] Go.wp_at_zero Go.wp_at_succ
def iS (x y:Int):Int:=if x<y then-1 else if y<x then 1 else 0
theorem kZ (x y:Int):iS x y<0<->x<y:=by
 unfold iS
 by_cases h:x<y
 ·simp[h]
 ·by_cases h2:y<x<;>simp[h,h2]
theorem wU (x:Int)(w:an):Calls Tryz.prog 170 #[aa x] w fun e w'=>e= .returned (.bool false)/\w'=w:=by
 go_enter Tryz.func170,Tryz.ntmps170
 go_wp2;go_ret;exact⟨rfl,rfl⟩
theorem nY (x y:Int)(w:an):Calls Tryz.prog 114 #[aa x,aa y] w fun e w'=>e= .returned (aa (iS x y))/\w'=w:=by
 unfold iS
 by_cases h:x<y
 ·rw[if_pos h];go_enter Tryz.func114,Tryz.ntmps114
  go_wp2_with (first|(go_at_call 170;refine(wU _ _).mono ?_;rintro e w' ⟨rfl,rfl⟩))
  go_ret;exact⟨rfl,rfl⟩
 ·have hd:decide (x<y)=false:=by simp[h]
  rw[if_neg h]
  by_cases h2:y<x
  ·rw[if_pos h2];go_enter Tryz.func114,Tryz.ntmps114
   go_wp2_with (first|(go_at_call 170;refine(wU _ _).mono ?_;rintro e w' ⟨rfl,rfl⟩))
   go_ret;exact⟨rfl,rfl⟩
  ·have hd2:decide (y<x)=false:=by simp[h2]
   rw[if_neg h2];go_enter Tryz.func114,Tryz.ntmps114
   go_wp2_with (first|(go_at_call 170;refine(wU _ _).mono ?_;rintro e w' ⟨rfl,rfl⟩))
   go_ret;exact⟨rfl,rfl⟩
theorem dP.cell0 {w:an}{P:ap}{mp:am->Option Nat}{g:GF}{fb:Nat}(h:dP w P mp g fb):w.cell? (ai fb 0)=some (aa g.f.num)/\P fb:=by
 unfold dP at h
 split at h
 ·obtain⟨rv,eb,h1,h2,_⟩:=h;exact⟨h1.cell 0,h2⟩
 ·obtain⟨rv,h1,h2,_⟩:=h;exact⟨h1.cell 0,h2⟩
theorem eH.zip {w:an}{P:ap}{mp:am->Option Nat}:∀{gs:List GF} {l:au},eH w P mp gs l->∃z:List (GF×Nat),z.map (·.1)=gs/\z.map (·.2)=l/\∀x∈z,dP w P mp x.1 x.2
 | [],_,h=>⟨[],rfl,h.symm,by simp⟩
 |g::gs,_,⟨b,r,h1,h2,h3⟩=>by
  obtain⟨z,e1,e2,e3⟩:=eH.zip h3;refine⟨(g,b)::z,by simp[e1],by simp[e2,h1],?_⟩;intro x hx
  rcases aL.1 hx with rfl|hx
  ·exact h2
  ·exact e3 x hx
theorem eH.of_zip {w:an}{P:ap}{mp:am->Option Nat}:∀{z:List (GF×Nat)},(∀x∈z,dP w P mp x.1 x.2)->eH w P mp (z.map (·.1)) (z.map (·.2))
 | [],_=>rfl
 |x::z,h=>⟨x.2,z.map (·.2),rfl,h x bg,eH.of_zip (fun y hy=>h y (bF _ hy))⟩
end
end Go.Proofs.YtfebdimolnobaaaGreatDoor
namespace Go.Proofs
open Go.Shelf
def Tryz.sortF_ren:Go.Shelf.Ren:=⟨fun|6=>112|15=>169|14=>168|28=>254|29=>255|20=>246|21=>247|22=>248|23=>249|24=>250|25=>251|26=>252|27=>253|46=>331|47=>332|48=>333|49=>334|50=>335|57=>400|n=>n,fun|22=>106|24=>212|25=>222|3=>3|39=>295|0=>0|53=>164|55=>53|4=>4|46=>367|45=>366|50=>331|5=>5|9=>9|66=>428|70=>431|76=>468|77=>469|n=>n,fun|n=>n⟩
theorem Tryz.sortF:Go.Proofs.SlLaysF.n6 Tryz.prog Tryz.sortF_ren:={
 mixed:=by kernel_rfl
 f6:=⟨Tryz.f112.name,by decide,Tryz.func112.trans (congrArg some (by kernel_rfl))⟩
 f14:=⟨Tryz.f168.name,by decide,Tryz.func168.trans (congrArg some (by kernel_rfl))⟩
 f15:=Tryz.func169.trans (congrArg some (by kernel_rfl))
 f20:=⟨Tryz.f246.name,by decide,Tryz.func246.trans (congrArg some (by kernel_rfl))⟩
 f21:=⟨Tryz.f247.name,by decide,Tryz.func247.trans (congrArg some (by kernel_rfl))⟩
 f22:=⟨Tryz.f248.name,by decide,Tryz.func248.trans (congrArg some (by kernel_rfl))⟩
 f23:=⟨Tryz.f249.name,by decide,Tryz.func249.trans (congrArg some (by kernel_rfl))⟩
 f24:=⟨Tryz.f250.name,by decide,Tryz.func250.trans (congrArg some (by kernel_rfl))⟩
 f25:=⟨Tryz.f251.name,by decide,Tryz.func251.trans (congrArg some (by kernel_rfl))⟩
 f26:=⟨Tryz.f252.name,by decide,Tryz.func252.trans (congrArg some (by kernel_rfl))⟩
 f27:=⟨Tryz.f253.name,by decide,Tryz.func253.trans (congrArg some (by kernel_rfl))⟩
 f28:=Tryz.func254.trans (congrArg some (by kernel_rfl))
 f29:=Tryz.func255.trans (congrArg some (by kernel_rfl))
 f46:=⟨Tryz.f331.name,by decide,Tryz.func331.trans (congrArg some (by kernel_rfl))⟩
 f47:=Tryz.func332.trans (congrArg some (by kernel_rfl))
 f48:=Tryz.func333.trans (congrArg some (by kernel_rfl))
 f49:=⟨Tryz.f334.name,by decide,Tryz.func334.trans (congrArg some (by kernel_rfl))⟩
 f50:=⟨Tryz.f335.name,by decide,Tryz.func335.trans (congrArg some (by kernel_rfl))⟩
 f57:=⟨Tryz.f400.name,by decide,Tryz.func400.trans (congrArg some (by kernel_rfl))⟩
 t0:=Tryz.underlying0
 a0:=Tryz.isAgg0
 z0:=Tryz.sizeOf0
 v0:=Tryz.zeroValue0
 t3:=Tryz.underlying3
 a3:=Tryz.isAgg3
 z3:=Tryz.sizeOf3
 v3:=Tryz.zeroValue3
 t4:=Tryz.underlying4
 a4:=Tryz.isAgg4
 z4:=Tryz.sizeOf4
 v4:=Tryz.zeroValue4
 t5:=Tryz.underlying5
 a5:=Tryz.isAgg5
 z5:=Tryz.sizeOf5
 v5:=Tryz.zeroValue5
 t9:=Tryz.underlying9
 a9:=Tryz.isAgg9
 z9:=Tryz.sizeOf9
 v9:=Tryz.zeroValue9
 t22:=Tryz.underlying106
 a22:=Tryz.isAgg106
 z22:=Tryz.sizeOf106
 v22:=Tryz.zeroValue106
 a24:=Tryz.isAgg212
 z24:=Tryz.sizeOf212
 t25:=Tryz.underlying222
 a25:=Tryz.isAgg222
 z25:=Tryz.sizeOf222
 v25:=Tryz.zeroValue222
 t39:=Tryz.underlying295
 a39:=Tryz.isAgg295
 z39:=Tryz.sizeOf295
 v39:=Tryz.zeroValue295
 t45:=Tryz.underlying366
 a45:=Tryz.isAgg366
 z45:=Tryz.sizeOf366
 v45:=Tryz.zeroValue366
 t46:=Tryz.underlying367
 a46:=Tryz.isAgg367
 z46:=Tryz.sizeOf367
 v46:=Tryz.zeroValue367
 t50:=Tryz.underlying331
 a50:=Tryz.isAgg331
 z50:=Tryz.sizeOf331
 v50:=Tryz.zeroValue331
 t53:=Tryz.underlying164
 a53:=Tryz.isAgg164
 z53:=Tryz.sizeOf164
 v53:=Tryz.zeroValue164
 t55:=Tryz.underlying53
 a55:=Tryz.isAgg53
 z55:=Tryz.sizeOf53
 v55:=Tryz.zeroValue53
 t66:=Tryz.underlying428
 a66:=Tryz.isAgg428
 z66:=Tryz.sizeOf428
 v66:=Tryz.zeroValue428
 t70:=Tryz.underlying431
 a70:=Tryz.isAgg431
 z70:=Tryz.sizeOf431
 v70:=Tryz.zeroValue431
 t76:=Tryz.underlying468
 a76:=Tryz.isAgg468
 z76:=Tryz.sizeOf468
 v76:=Tryz.zeroValue468
 t77:=Tryz.underlying469
 a77:=Tryz.isAgg469
 z77:=Tryz.sizeOf469
 v77:=Tryz.zeroValue469}
end Go.Proofs
namespace Go.Proofs.YtfebdimolnobaaaGreatDoor
open Go.RowKit
section
open Go.Maps Go.Sort
attribute [local go_sem↓] Go.wp_at_zero Go.wp_at_succ
theorem Jt (a b:Nat)(x y:Int)(w:an)(ha:w.cell? (ai a 0)=some (aa x))(hb:w.cell? (ai b 0)=some (aa y)):
  Calls Tryz.prog 113 #[ag a,ag b] w fun e w'=>e= .returned (aa (iS x y))/\∃q,w'=w.drewN q:=by
 have hC:=nY x y;generalize iS x y=c at hC⊢;have hda:w.drew.cell? (ai a 0)=some (aa x):=ha;have hdb:w.drew.cell? (ai b 0)=some (aa y):=hb;go_enter Tryz.func113,Tryz.ntmps113
 go_wp2_with fail
 go_region_with (first|(go_at_call 114;refine(hC _).mono ?_;rintro e w' ⟨rfl,rfl⟩))
 all_goals
  go_wp2;go_ret;exact⟨rfl,1,rfl⟩
end
section
open Go.Maps Go.Sort
section
variable {α:Type} [Inhabited α] {enc:α->Value}
theorem yF {w:an}{g n:Nat}{os:Array Obj}{N2:Array Value}{e:TypeId}{fr:Nat×Nat}(d:Array α)(hb:w.heap[g]?=some (.cells N2 e fr)):
  (sortWorld enc w g 0 n d os).heap[g]?=some (.cells (putCells enc 0 d N2) e fr):=by
 have hg:g<w.heap.size:=(Array.getElem?_eq_some_iff.1 hb).1;unfold sortWorld;rw[heap_grow_old _ _ (by simpa using hg)];simp[putRow,mapBlock,Sort.ahead,Array.getElem?_modify,hb,onCells]
theorem qz {w:an}{g n:Nat}{os:Array Obj}(d:Array α):w.grownBy (sortWorld enc w g 0 n d os) (some g):=by
 refine⟨rfl,rfl,rfl,by simp[sortWorld],fun k hk Oe=> ?_⟩;unfold sortWorld;rw[heap_grow_old _ _ (by simpa using hk)];have:g≠k:=fun e=>Oe (by rw[e])
 simp[putRow,mapBlock,Sort.ahead,Array.getElem?_modify,this]
theorem yG (N2:Array Value)(ts:List α)(h:ts.length<=N2.size):(putCells enc 0 ts.toArray N2).toList.take ts.length=ts.map enc:=by
 apply List.ext_getElem?;intro j
 by_cases hj:j<ts.length
 ·rw[bO hj,bi];simp[putCells,hj,show j<N2.size by omega]
 ·rw[List.getElem?_take_eq_none (by omega),aQ (by simp;omega)]
theorem yH {w:an}{base g cap n m:Nat}{e:TypeId}{os:Array Obj}{N2:Array Value}{ts:List α}(hl:ts.length=m)(hbase:base<=g)(hb:w.heap[g]?=some (.cells N2 e (0,0)))
  (h1:m<=cap) (h2:cap<=maxLen) (h3:N2.size=cap*1):
  (sortWorld enc w g 0 n ts.toArray os).ownsRow base e 1 (.slice (some (ai g 0)) m cap) m (ts.map enc):=
 ⟨by simp[hl],.inr ⟨g,cap,_,rfl,hbase,yF _ hb,h1,h2,by simp[putCells,h3],by rw[Nat.mul_one,<-hl];exact yG N2 ts (by omega)⟩⟩
theorem vj {w:an}{g:Nat}{N2:Array Value}{e:TypeId}{ss:List α}(hb:w.heap[g]?=some (.cells N2 e (0,0)))(ht:N2.toList.take ss.length=ss.map enc):Holds enc w g 0 ss.toArray:=by
 intro j hj;have Oc:j<ss.length:=by simpa using hj
 refine⟨?_,by simp[World.frozen?,hb]⟩;have h1:(N2.toList.take ss.length)[j]?=(ss.map enc)[j]?:=by rw[ht]
 rw[bO Oc]at h1;simp only[World.cell?,hb,Nat.zero_add];simp only[Option.isSome_none,aK,if_false];rw[<-bi,h1];simp[Oc]
end
theorem vk {β:Type}{p:β->Prop}:∀l:List β,(∀x∈l,p x)->∃D:List {x:β//p x},D.map (·.1)=l
 | [],_=>⟨[],rfl⟩
 |x::l,h=>by
  obtain⟨D,hD⟩:=vk l (fun y hy=>h y (bF _ hy));exact⟨⟨x,h x bg⟩::D,by simp[hD]⟩
def i8 (w:an)(g:Nat):Type:={x:Int×Nat//w.cell? (ai x.2 0)=some (aa x.1)/\x.2≠g}
def i8.enc {w:an}{g:Nat}(x:i8 w g):Value:=ft (some x.1.2)
def i8.cf {w:an}{g:Nat}(x y:i8 w g):Int:=iS x.1.1 y.1.1
theorem i8.lt {w:an}{g:Nat}(x y:i8 w g):ltOf (i8.cf (w:=w) (g:=g)) x y=decide (x.1.1<y.1.1):=by
 unfold ltOf i8.cf;rw[b8];simp[kZ]
theorem i8.swo (w:an)(g:Nat):SWO (ltOf (i8.cf (w:=w) (g:=g)))where
 irrefl x:=by rw[i8.lt];simp
 trans x y z h1 h2:=by rw[i8.lt]at*;simp at*;omega
 ntrans x y z h1 h2:=by rw[i8.lt]at*;simp at*;omega
def Ju (w:an)(lo:Nat)(v:Value)(l:List (Int×Nat))(e:Ending)(w':an):Prop:=
 e= .returned (.tuple #[])/\∃l':List (Int×Nat),l'.Perm l/\l'.Pairwise (fun a b=>a.1<=b.1)/\w'.ownsRow lo 212 1 v l.length (dV (l'.map (·.2)))/\w.grownBy w' v.ownBlock
theorem Jv (w:an)(lo:Nat)(v:Value)(l:List (Int×Nat))(hrow:w.ownsRow lo 212 1 v l.length (dV (l.map (·.2))))(hc:∀x∈l,w.cell? (ai x.2 0)=some (aa x.1))(Oe:∀x∈l,v.ownBlock≠some x.2)(hl:l.length<=2001):
  Calls Tryz.prog 112 #[v,.func (.func 113) #[] #[]] w (Ju w lo v l):=by
 by_cases h0:l= []
 ·subst h0;obtain⟨a,c,rfl⟩:=gS hrow;refine(AnyF.slices_SortFunc_none (P:=Tryz.prog) (ρ:=Tryz.sortF_ren) {Tryz.sortF with} a c _ w).mono ?_;rintro e w' ⟨rfl,rfl⟩;exact⟨rfl,[],List.Perm.refl _,List.Pairwise.nil,hrow,⟨rfl,rfl,rfl,ay _,fun _ _ _=>rfl⟩⟩
 ·rcases hrow.2 with⟨rfl,h1⟩|⟨g,cap,N2,rfl,hg,hb,hn,hm,hs,ht⟩
  ·exact absurd (bt h1) h0
  ·have Og:g<w.heap.size:=de.lt hb;have hp:∀x∈l,w.cell? (ai x.2 0)=some (aa x.1)/\x.2≠g:=fun x hx=>⟨hc x hx,fun e=>Oe x hx (by rw[e];rfl)⟩
   obtain⟨x0,Oj⟩:=List.exists_mem_of_ne_nil l h0;haveI:Inhabited (i8 w g):=⟨⟨x0,hp x0 Oj⟩⟩;obtain⟨D,hD⟩:∃D:List (i8 w g),D.map (·.1)=l:=vk l hp;have Of:D.length=l.length:=by rw[<-hD];simp
   have N8:dV (l.map (·.2))=D.map i8.enc:=by
    rw[<-hD];unfold dV;rw[bz,bz];rfl
   have eg:∀args w,(callFunc 113 args).run Tryz.prog w= .ok (.enter 113 args) w:=enters_of Tryz.func113 (by kernel_rfl) rfl
   have Od:CmpLays1 Tryz.prog 113 #[] (i8.enc (w:=w) (g:=g)) i8.cf g 0 D.toArray.size w:=by
    intro m os dk hsz x y
    have N3:∀z:i8 w g,(sortWorld i8.enc w g 0 m dk os).cell? (ai z.1.2 0)=some (aa z.1.1):=fun z=>by
     have hz:=aN _ _ z.2.1;have Oh:=(qz (enc:=i8.enc) (w:=w) (g:=g) (n:=m) (os:=os) dk).block z.1.2 hz (fun e=>z.2.2 (Option.some.inj e));exact(aZ (a:=(ai z.1.2 0)) Oh).trans z.2.1
    refine(Jt x.1.2 y.1.2 x.1.1 y.1.1 _ (N3 x) (N3 y)).mono ?_;rintro e w' ⟨rfl,q,rfl⟩;exact⟨rfl,q,#[],by rw[grow_empty]⟩
   have hH:Holds i8.enc w g 0 D.toArray:=vj hb (by rw[Of,<-N8];simpa using ht);have Oa:=Any.slices_SortFunc Tryz.sortF i8.enc (fun _=>rfl) i8.cf (i8.swo w g) 113 #[] g 0 cap D.toArray w eg Od hH Og (by simp;omega);have e1:(D.toArray.size)=l.length:=by simpa using Of
   rw[e1]at Oa;refine Oa.mono ?_;rintro e w' ⟨rfl,d',n,os,N7,Ob,rfl⟩;have hsz:d'.size=l.length:=by rw[N7.1];exact e1
   refine⟨rfl,d'.toList.map (·.1),?_,?_,?_,qz d'⟩
   ·have h2:=N7.2.2;rw[<-e1]at h2;rw[cU,show D.toArray.size=d'.size from by rw[hsz];exact e1,cU]at h2;rw[<-hD];exact List.Perm.map _ (by simpa using h2)
   ·rw[bJ,bC];intro i j hi hj Ok;have Oi:i<d'.size:=by simpa using hi
    have Oc:j<d'.size:=by simpa using hj
    have h2:=Ob i j (aM _) Ok (by omega);rw[i8.lt,getElem!_pos d' i Oi,getElem!_pos d' j Oc]at h2;simp at h2⊢;exact h2
   ·have e2:dV ((d'.toList.map (·.1)).map (·.2))=d'.toList.map i8.enc:=by
     unfold dV;rw[bz,bz];rfl
    rw[e2];have:=yH (enc:=i8.enc) (n:=n) (os:=os) (ts:=d'.toList) (m:=l.length) (by simpa using hsz) hg hb hn hm hs;simpa using this
end
end Go.Proofs.YtfebdimolnobaaaGreatDoor
