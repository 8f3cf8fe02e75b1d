import Derived.Test.YtfebdimolnobaaaGreatDoorItE
import Derived.Test.YtfebdimolnobaaaGreatDoorRfM
set_option maxRecDepth 100000
set_option maxHeartbeats 8000000
set_option linter.all false
namespace Go.Proofs.YtfebdimolnobaaaGreatDoor
open Go.RowKit Go.Proofs.Tryz
section
variable {a xb k:Nat} {w wx:World} {d:MT} {fv mv:Value} {u b:ByteArray}
theorem QQ.ok {t:ByteArray}{v:PV}(h:QQ a t v)(b:a<=268435456):Ij v:=⟨h.key,h.ky.lo,h.ky.hi,by have:=h.len;omega⟩
structure MB (w wx:World)(d:MT)(fv:Value)(mv:Value)(u:ByteArray):Prop where
 b0:dP wx w.heap.size #[.string d.name,fv] 111
 b1:dP wx (w.heap.size+1) #[mv,.string u] 49
 b2:dP wx (w.heap.size+1+1) #[.slice none 0 0,.string ⟨#[]⟩] 49
theorem MB.on {wy:World}(h:MB w wx d fv mv u)(a:Below wx.heap.size wx wy):MB w wy d fv mv u:=
 ⟨h.b0.G a h.b0.lt,h.b1.G a h.b1.lt,h.b2.G a h.b2.lt⟩
theorem MB.kept {wy:World}(h:MB w wx d fv mv u)(a:dY [xb] wx wy)(b:xb<w.heap.size):MB w wy d fv mv u:=
 ⟨h.b0.kept a Tg,h.b1.kept a Tg,h.b2.kept a Tg⟩
theorem MB.sets (h:MB w wx d fv mv u)(Uc:Value)(u2:ByteArray):MB w ((wx.setCell ⟨w.heap.size+1,0,none⟩ Uc).setCell ⟨w.heap.size+1,1,none⟩ (.string u2)) d fv Uc u2:=
 ⟨(h.b0.other 0 Uc Te).other 1 _ Te,(h.b1.set 0 Uc).set 1 (.string u2),(h.b2.other 0 Uc Te).other 1 _ Te⟩
theorem MB.setU (h:MB w wx d fv mv u)(u2:ByteArray):MB w (wx.setCell ⟨w.heap.size+1,1,none⟩ (.string u2)) d fv mv u2:=
 ⟨h.b0.other 1 _ Te,h.b1.set 1 (.string u2),h.b2.other 1 _ Te⟩
theorem MB.size (h:MB w wx d fv mv u):w.heap.size+3<=wx.heap.size:=by
 have:=h.b2.lt;omega
theorem MB.start (w:World)(d:MT)(fv mv:Value)(u:ByteArray):
  MB w (((w.alloc (Obj.cells #[.string d.name,fv] 111)).alloc (Obj.cells #[mv,.string u] 49)).alloc (Obj.cells #[.slice none 0 0,.string ⟨#[]⟩] 49)) d fv mv u:=
 ⟨((dP.new w _ _).alloc _).alloc _,(dP.new1 w _ _ _).alloc _,dP.new2 w _ _ _ _⟩
structure E4 (S:eE)(b:ByteArray)(w wr:World)(Y:Nat->Prop)(d:MT)(fv mv:Value)(m:PM)(k F a e deep:Nat)(R:Fx PM):Prop where
 mb:MB w wr d fv mv m.unk
 bl:Below w.heap.size w wr
 mi:gQ (k+2) wr Y mv m
 wm:WM S a d m
 le:a<=e
 fu:e-a<F
 res:Hid (R=fj S b F d m a e deep)
theorem E4.on {S:eE}{wr wy:World}{Y:Nat->Prop}{m:PM}{F e deep:Nat}{R:Fx PM}(h:E4 S b w wr Y d fv mv m k F a e deep R)(c:Below wr.heap.size wr wy):E4 S b w wy Y d fv mv m k F a e deep R:=
 ⟨h.mb.on c,dL h.bl c,h.mi.G c (aD _),h.wm,h.le,h.fu,h.res⟩
structure Ls (w wr:World)(xb:Nat)(b:ByteArray)(d:MT)(fv mv:Value)(u:ByteArray)(c p:Int)(R:Fx PM):Prop where
 mb:MB w wr d fv mv u
 kx:kr wr xb b c p
 ne:c≠0
 kp:dY [xb] w wr
 fm:∃a n c,mv= .slice a n c
 res:Hid (R= .error (c,p))
structure Ro (w8:World)(xb:Nat)(b:ByteArray)(k:Nat)(Z:Nat->Prop)(r:Fx (List PV))(lv:Value)(l:List PV)(w':World):Prop where
 vs:fk (gQ (k+1) w' Z) w' Z lv l
 kp:dY [xb] w8 w'
 ok:∀l',r= .ok l'->l'=l/\Below w8.heap.size w8 w'
 er:∀c p,r= .error (c,p)->kr w' xb b c p/\c≠0
theorem Ai.all {w8 w':World}{Z:Nat->Prop}{r:Fx (List PV)}{en:Ending}(h:Ai w xb b k Z r en w')(g:Below w8.heap.size w8 w):∃lv l,en= .returned lv/\Ro w8 xb b k Z r lv l w'/\dY [xb] w w':=by
 rcases r with⟨c,p⟩|l;.obtain⟨i,l,d,f,a,m,j⟩:=h;exact⟨i,l,d,⟨f,(dY.oB g).J j,nofun,λn q e=>by cases e;exact⟨a,m⟩⟩,j⟩
 .obtain⟨i,d,f,a⟩:=h;exact⟨i,l,d,⟨f,(dY.oB g).J (dY.oB a),λo e=>by cases e;exact⟨rfl,dL g a⟩,nofun⟩,dY.oB a⟩
inductive Sh (w w8:World)(xb sb kK FF k c1:Nat)(a1:Option Addr)(b:ByteArray)(Y:Nat->Prop)(d:MT)(fv:Value)(m:PM)(f:fB)(r:pO)(q:Fx (List PV))(mkA:Value->Value->Value->Value->Value->Value->Value->Value->Value->Value->Value->Value->Value->Act)(W:World):Array Bool->Act->Prop where
 |mk {l0 l1 l2 l3 l4 l5 l6 l7 l8 l9 l10 T7 T8 TP:Bool} {TC TD TE TF TG TH TI TJ TK Tz TL Tu TM:Value} (f0:l0=true->TC= .agg #[.slice a1 m.fs.length c1,.string m.unk]) (f1:l1=true->TD= .pointer (some ⟨FF,4,none⟩)) (f2:l2=true->TE= .int .i64 f.num) (f3:l3=true->TF= .pointer (some ⟨xb,0,none⟩)) (f4:l4=true->TG= .pointer (some ⟨sb,0,none⟩)) (f5:l5=true->TH= .agg #[.string f.name,.string f.ty,.string f.key,.string f.how,.int .i64 f.num]) (f6:l6=true->TI= .agg #[.slice a1 m.fs.length c1,.string m.unk]) (f7:l7=true->TJ= .pointer (some ⟨FF,4,none⟩)) (f8:l8=true->TK= .int .i64 f.num) (TA:l10=true->TL= .agg #[.int .i64 r.num,.int .i64 2,.int .i64 r.a,.int .i64 r.fr,.int .i64 r.e,.int .u64 r.n]) (K6:dP W kK #[.int .i64 r.num,.int .i64 2,.int .i64 r.a,.int .i64 r.fr,.int .i64 r.e,.int .u64 r.n] 339) (K7:dP W FF #[.string f.name,.string f.ty,.string f.key,.string f.how,.int .i64 f.num] 178) (F:Hid (TP=false->MB w W d fv (.slice a1 m.fs.length c1) m.unk)) (g0:TP=true->l0=true) (g6:TP=true->l6=true) (Tx:T7=true->l9=true) (Tv:T8=true->T7=true) (Tw:TP=true->T8=true) (pA:Hid (l9=false->W=w8)) (pB:Hid (l9=true->T7=false->fk (gQ (k+1) w8 Y) w8 Y Tz (m.get f.num)/\Below w8.heap.size w8 W)) (pC:Hid (T7=true->T8=false->∃l,Ro w8 xb b k Y q Tu l W)) (pD:Hid (T8=true->TP=false->∃Ts lv l mv,Ro w8 xb b k Y q lv l Ts/\TM= .agg #[mv,.string m.unk]/\gQ (k+2) W Y mv (m.put f.num l)/\Below Ts.heap.size Ts W)) (pE:Hid (TP=true->∃Ts lv l TT a2 c2,Ro w8 xb b k Y q lv l Ts/\gQ (k+2) TT Y (.slice a2 (m.put f.num l).fs.length c2) (m.put f.num l)/\Below Ts.heap.size Ts TT/\MB w TT d fv (.slice a1 m.fs.length c1) m.unk/\dP TT kK #[.int .i64 r.num,.int .i64 2,.int .i64 r.a,.int .i64 r.fr,.int .i64 r.e,.int .u64 r.n] 339/\W=(TT.setCell ⟨w.heap.size+1,0,none⟩ (.slice a2 (m.put f.num l).fs.length c2)).setCell ⟨w.heap.size+1,1,none⟩ (.string m.unk))):Sh w w8 xb sb kK FF k c1 a1 b Y d fv m f r q mkA W #[l0,l1,l2,l3,l4,l5,l6,l7,l8,l9,l10,T7,T8,TP] (mkA TC TD TE TF TG TH TI TJ TK Tz TL Tu TM)
theorem Iq (xb sb:Nat)(b:ByteArray)(P:Nat->Prop)(S:eE)(hE:Bo S)(hle:S.es.length<=4000)(hlm:S.ms.length<=4000)(hS:uC S)(hD:∀d∈S.ms,d.fs.length<=4000/\gP d.name eS=false)(hsz:b.size<=268435456):∀(F:Nat) (w:World) (p0:Int) (Z:Nat->Prop) (d:MT) (m:PM) (a e deep k:Nat) (fv mv:Value)
  (_:kr w xb b 0 p0) (_:iE w P sb S) (_:∀b,w.heap.size<=b->P b) (_:kB w P fv d.fs) (_:d.fs.length<=4000) (_:gP d.name eS=true->2<=d.fs.length) (_:kM S d) (_:gQ (k+1) w Z mv m) (_:∀b,w.heap.size<=b->Z b) (_:¬Z xb)
  (_:a<=e) (_:e<=b.size) (_:e-a<F) (_:k+deep=9) (_:WM S a d m),
  Calls prog 149 #[.pointer (some ⟨xb,0,none⟩),.pointer (some ⟨sb,0,none⟩),.agg #[.string d.name,fv],.agg #[mv,.string m.unk],.int .i64 a,.int .i64 e,.int .i64 deep] w (oA w xb b (k+1) Z (pz S b F d m a e deep)):=by
 intro F
 induction F using Nat.strongRecOn with
 |_ F ih=>
 intro w p0 Z d m a e deep k fv mv KX HS hP Uw U4 Vi U5 h hZ Vj ha he hF hkd Vk;obtain⟨ma,mc,rfl⟩:=h.form;obtain⟨I,J,rfl⟩:=Uw.form;have T9:xb<w.heap.size:=dP.lt KX;have F0:=MB.start w d (.slice I d.fs.length J) (.slice ma m.fs.length mc) m.unk
 have B0:Below w.heap.size w (((w.alloc (Obj.cells #[.string d.name,.slice I d.fs.length J] 111)).alloc (Obj.cells #[.slice ma m.fs.length mc,.string m.unk] 49)).alloc (Obj.cells #[.slice none 0 0,.string ⟨#[]⟩] 49)):=
  ((Tc w _).alloc Tf _).alloc Tg _
 obtain⟨R,hR⟩:=Td (pz S b F d m a e deep);rw[hR];have HR:Hid (pz S b F d m a e deep=R):=hR;clear hR;go_in
 go_upto_region 1 with fail
 generalize((w.alloc (Obj.cells #[.string d.name,.slice I d.fs.length J] 111)).alloc (Obj.cells #[.slice ma m.fs.length mc,.string m.unk] 49)).alloc (Obj.cells #[.slice none 0 0,.string ⟨#[]⟩] 49)=w1 at*;have⟨D,E⟩:=F0.b0.I;go_wp2_with fail;refine(Q7 w1 P sb S d _ deep (HS.G B0) hlm (Uw.G B0) Vi).V ?_;rintro en w2 ⟨rfl,B2⟩;have F2:=F0.on B2;have B3:=dL B0 B2;clear D E F0
 cases hfar:ng S d deep with
 |true=>
  have Uy:Hid (R= .error (11,(a:Int))):=(by have:=HR.o;unfold pz at this;rw[dH hfar]at this;exact this.sy);clear HR;go_wp2_with fail;refine(ku w2 xb b 0 p0 11 a (KX.G B3 T9) rfl).V ?_;rintro en w3 ⟨rfl,U6,K3⟩;have F3:=F2.kept K3 T9;have T0:dP w3 xb #[.string b,.int .i64 11,.int .i64 a] 279:=U6;have⟨x1,x2⟩:=T0.I;have⟨D,E⟩:=F3.b1.I;have⟨B,C⟩:=F3.b2.I;go_wp2;go_loopw [4] (λav wr=>av= .int .i64 a/\wr=w3) (λ_ _=>0)
  case atStart=>exact⟨rfl,rfl⟩
  case round=>
   obtain⟨rfl,rfl⟩:=hrel;have Tt:Hid (oA w xb b (k+1) Z R (.returned (.agg #[.slice ma m.fs.length mc,.string m.unk])) (wr.setCells (w.heap.size+1+1) 0 [.slice ma m.fs.length mc,.string m.unk])):=(by show oA w xb b (k+1) Z R _ _;rw[Uy.o];exact⟨⟨_,_,_,_,rfl⟩,dP.sets_other U6 Te [_,_] 0,Th,(dY.J (dY.oB B3) K3).sets (.inr Te) [_,_] 0⟩);by_cases hlt:a<e;.go_wp2;refine dJ (dW results149 _ _ rfl (F3.b2.sets_all [_,_] rfl) underlying49 Tj) rfl ?_;exact Tt.o
   .go_wp2;refine dJ (dW results149 _ _ rfl (F3.b2.sets_all [_,_] rfl) underlying49 Tj) rfl ?_
    exact Tt.o
 |false=>
  have hd8:=Pc hfar;obtain⟨o,rfl⟩:∃o,k=o+1:=⟨k-1,Te⟩;have Uy:Hid (R=fj S b F d m a e deep):=(by have:=HR.o;unfold pz at this;rw[dG (by rw[hfar];simp)]at this;exact this.sy);clear HR;obtain⟨Y,Ul⟩:∃Y:Nat->Prop,Y=λx=>Z x/\(x<w.heap.size\/w.heap.size+3<=x):=⟨_,rfl⟩
  have UW:∀x,Y x->Z x:=λx n=>by rw[Ul]at n;exact n.1
  have Uz:∀x,w.heap.size+3<=x->Y x:=λx n=>by rw[Ul];exact⟨hZ x Te,.inr n⟩
  have Ua:∀x,w.heap.size<=x->x<w.heap.size+3->¬Y x:=λx h1 M n=>by
   rw[Ul]at n;rcases n.2 with q|q<;>omega
  have UA:¬Y xb:=λq=>Vj (UW xb q)
  have U8:gQ (o+2) w2 Y (.slice ma m.fs.length mc) m:=(h.V (λx n hl=>by rw[Ul];exact⟨n,.inl hl⟩)).G B3 (aD _);clear Ul;go_wp2;go_loopw [4] (λav wr=>∃(a':Nat) (Ub:Value),av= .int .i64 a'/\((∃F' g,F'<=F/\E4 S b w wr Y d (.slice I d.fs.length J) Ub g o F' a' e deep R)\/∃u c p,Ls w wr xb b d (.slice I d.fs.length J) Ub u c p R)) (λav _=>((e:Int)-intOf av).toNat)
  case atStart=>exact⟨a,_,rfl,.inl ⟨F,m,aD _,F2,B3,U8,Vk,ha,hF,Uy⟩⟩
  case round=>
   obtain⟨a',Ub,rfl,Vl⟩:=hrel;rcases Vl with⟨F',g,hFF,i⟩|⟨u,c,p,TS⟩
   .obtain⟨O,Q,rfl⟩:=i.mi.form;have Us:kr wr xb b 0 p0:=KX.G i.bl T9;have T0:dP wr xb #[.string b,.int .i64 0,.int .i64 p0] 279:=Us;have⟨x1,x2⟩:=T0.I;have⟨D,E⟩:=i.mb.b1.I;have⟨B,C⟩:=i.mb.b2.I;by_cases hlt:a'<e
    .have UB:=Lm wr xb b p0 Us a' e hsz he i.le;obtain⟨q,hq⟩:=Td (jj b a' e);rw[hq]at UB;have HQ:Hid (jj b a' e=q):=hq;clear hq;obtain⟨z,rfl⟩:∃z,F'=z+1:=⟨F'-1,by have:=i.fu;omega⟩;go_wp2_with fail;refine UB.V ?_;clear UB;rcases q with⟨c,p⟩|r
     .rintro en w4 ⟨⟨v0,v1,v2,v3,v4,v5,rfl⟩,Vm,K4⟩;have F4:=i.mb.kept K4 T9;have Ud:dP w4 xb #[.string b,.int .i64 c,.int .i64 p] 279:=Vm;have hc:=Jv HQ.o;have U9:(c==0)=false:=by simpa using hc
      have A4:=(Tb w4).alloc (aD _) (Obj.cells #[.int .i64 v0,.int .i64 v1,.int .i64 v2,.int .i64 v3,.int .i64 v4,.int .u64 v5] 339);have F5:=F4.on A4;have TV:=Ud.G A4 Ud.lt;have K5:dY [xb] w _:=((dY.oB i.bl).J K4).J (dY.oB A4);clear x1 x2 D E B C;have⟨x1,x2⟩:=TV.I;have⟨D,E⟩:=F5.b1.I;have⟨B,C⟩:=F5.b2.I;have Tt:Hid (oA w xb b (o+1+1) Z R (.returned (.agg #[.slice O g.fs.length Q,.string g.unk])) ((w4.alloc (Obj.cells #[.int .i64 v0,.int .i64 v1,.int .i64 v2,.int .i64 v3,.int .i64 v4,.int .u64 v5] 339)).setCells (w.heap.size+1+1) 0 [.slice O g.fs.length Q,.string g.unk])):=(by show oA w xb b (o+1+1) Z R _ _;rw[i.res.o,qE hlt HQ.o];exact⟨⟨_,_,_,_,rfl⟩,dP.sets_other TV Te [_,_] 0,hc,K5.sets (.inr Te) [_,_] 0⟩);go_wp2;refine dJ (dW results149 _ _ rfl (F5.b2.sets_all [_,_] rfl) underlying49 Tj) rfl ?_;exact Tt.o
     .rintro en w4 ⟨rfl,B4⟩;unfold kF;have⟨r1,r2,r3,r4,r5,r6,r7,r8,r9⟩:=sU HQ.o;have UC:Hid (r.a=a'):=r1;clear r1;have⟨A4,Um⟩:=eY w4 #[.int .i64 r.num,.int .i64 r.kind,.int .i64 r.a,.int .i64 r.fr,.int .i64 r.e,.int .u64 r.n] 339;have F5:=i.mb.on (dL B4 A4);have B5:=dL i.bl (dL B4 A4);have UX:=i.mi.G (dL B4 A4) (aD _);have TV:=T0.G (dL B4 A4) T0.lt;clear x1 x2 D E B C;have⟨x1,x2⟩:=TV.I;have⟨D,E⟩:=F5.b0.I;have⟨B,C⟩:=Um.I;have hc16:w.heap.size+3<=w4.heap.size:=(i.mb.on B4).size;go_upto_region 8 with fail
      generalize w4.alloc (Obj.cells #[.int .i64 r.num,.int .i64 r.kind,.int .i64 r.a,.int .i64 r.fr,.int .i64 r.e,.int .u64 r.n] 339)=w5 at*;generalize w4.heap.size=kK at*;go_wp2_with fail;refine(Pz w5 P _ d.name d.fs r.num (Uw.G B5) U4).V ?_
      have TW:Hid (∀wx:World,MB w wx d (.slice I d.fs.length J) (.slice O g.fs.length Q) g.unk->Below w.heap.size w wx->gQ (o+2) wx Y (.slice O g.fs.length Q) g->(∀f,ei d.fs r.num=some f->r.kind≠ff S f/\¬(r.kind=2/\f.isRep=true))->
        E4 S b w (wx.setCell ⟨w.heap.size+1,1,none⟩ (.string (g.unk++b.extract r.a r.e))) Y d (.slice I d.fs.length J) (.slice O g.fs.length Q) (g.O (b.extract r.a r.e)) o z r.e e deep R):=by
       intro wx Vn Vo Vp Uv;have UY:=i.fu;refine⟨Vn.setU _,Vo.setCell (p:=⟨w.heap.size+1,1,none⟩) Tf _,?_,i.wm.O _ (by rw[aU,UC.o];omega),r5,Te,?_⟩;.exact Vp.O (λx n _=>Below.heap_setCell _ _ _ _ (λq=>Ua (w.heap.size+1) Te Te (by have q2:x=w.heap.size+1:=q;rw[<-q2];exact n)))
       .show R=_;rw[i.res.o,xj hlt HQ.o Uv]
      have hul:=i.wm.len.2.1
      cases hfd2:ei d.fs r.num with
      |none=>
       have HF:Hid (ei d.fs r.num=none):=hfd2;clear hfd2;rintro en w6 ⟨rfl,B6⟩;have⟨A6,Un⟩:=eY w6 #[.string ⟨#[]⟩,.string ⟨#[]⟩,.string ⟨#[]⟩,.string ⟨#[]⟩,.int .i64 0] 178;have F7:=F5.on (dL B6 A6);have B7:=dL B5 (dL B6 A6);have UD:=UX.G (dL B6 A6) (aD _);have TR:=Um.G (dL B6 A6) Um.lt;have Ue:=TV.G (dL B6 A6) TV.lt;clear x1 x2 D E B C;have⟨z1,z2⟩:=Un.I;go_upto_region 9 with fail
       generalize w6.alloc (Obj.cells #[.string ⟨#[]⟩,.string ⟨#[]⟩,.string ⟨#[]⟩,.string ⟨#[]⟩,.int .i64 0] 178)=w7 at*;generalize w6.heap.size=FF at*;go_wp2_with fail;refine(Du w7 P sb S ⟨⟨#[]⟩,⟨#[]⟩,⟨#[]⟩,⟨#[]⟩,0⟩ (HS.G B7) hE hle).V ?_;rintro en s ⟨rfl,B8⟩;have F8:=F7.on B8;have B9:=dL B7 B8;have Uf:=UD.G B8 (aD _);have Tr:=TR.G B8 TR.lt;have TX:=Ue.G B8 Ue.lt;clear z1 z2;have⟨x1,x2⟩:=TX.I;have⟨D,E⟩:=F8.b1.I;have⟨B,C⟩:=Tr.I;have Ut:=TW.o s F8 B9 Uf (λf hf=>by rw[HF.o]at hf;cases hf);have Va:r.a<=r.e:=by rw[UC.o];omega
       have UE:r.e<=b.size:=Te;have UF:g.unk.size+(b.extract r.a r.e).size<=maxLen:=by rw[aU];unfold maxLen;omega
       go_upto_region 11 with fail
       go_region
       all_goals
        go_wp2;go_roundw
        case rel=>exact⟨r.e,_,rfl,.inl ⟨z,g.O (b.extract r.a r.e),Te,Ut.on (Below.refl _ _).drew⟩⟩
        case measure=>simp[intOf];omega
      |some f=>
       have HF:Hid (ei d.fs r.num=some f):=hfd2;clear hfd2;have UZ:=gZ HF.o;have Vb:Hid (f.num=r.num):=UZ.1;clear UZ;rintro en w6 ⟨rfl,B6⟩;unfold fI;have⟨A6,Un⟩:=eY w6 #[.string f.name,.string f.ty,.string f.key,.string f.how,.int .i64 f.num] 178;have F7:=F5.on (dL B6 A6);have B7:=dL B5 (dL B6 A6);have UD:=UX.G (dL B6 A6) (aD _);have TR:=Um.G (dL B6 A6) Um.lt;have Ue:=TV.G (dL B6 A6) TV.lt;clear x1 x2 D E B C;have⟨z1,z2⟩:=Un.I;have hc17:w.heap.size+3<=w6.heap.size:=(F5.on B6).size;go_upto_region 9 with fail
       generalize w6.alloc (Obj.cells #[.string f.name,.string f.ty,.string f.key,.string f.how,.int .i64 f.num] 178)=w7 at*;generalize w6.heap.size=FF at*;go_wp2_with fail;refine(Du w7 P sb S f (HS.G B7) hE hle).V ?_;rintro en s ⟨rfl,B8⟩;have F8:=F7.on B8;have B9:=dL B7 B8;have Uf:=UD.G B8 (aD _);have Tr:=TR.G B8 TR.lt;have T4:=Un.G B8 Un.lt;have TX:=Ue.G B8 Ue.lt;clear z1 z2;have⟨x1,x2⟩:=TX.I;have⟨D,E⟩:=F8.b1.I;have⟨B,C⟩:=Tr.I;have⟨y5,y6⟩:=T4.I;have⟨y7,y8⟩:=F8.b0.I;by_cases hk:r.kind=ff S f
       .have HK:Hid (r.kind=ff S f):=hk;have U0:((r.kind:Int)==(ff S f:Int))=true:=by rw[hk];simp
        clear hk
        have Uu:Hid (S9 224 #[.pointer (some ⟨xb,0,none⟩),.pointer (some ⟨sb,0,none⟩),.agg #[.string d.name,.slice I d.fs.length J],.agg (fI f).toArray,.agg #[.slice O g.fs.length Q,.string g.unk],.agg (kF r),.int .i64 deep] s (oA s xb b (o+2) Y (rj S b z d f g r deep))):=by
         refine NB s xb sb b p0 P Y S d f g r o deep z _ _ TX (HS.G B9) (λx n=>hP x (by have:=B9.size;omega)) hE hle hlm (Uw.G B9) U4 Uf (λx n=>Uz x (by have:=F8.size;omega)) UA hsz r4 Te r6 r7 Te (by have:=i.wm.len.1;omega) (by have:=i.wm.len.2.2 f.num;omega) ?_ ?_ ?_;.intro hm x n;rw[Vb.o]at n;exact((i.wm.vals r.num).hm f HF.o hm x n).ok Te
         .intro hm sub sm TB Ux;unfold pz at Ux;split at Ux;.cases Ux
          .have U1:=jM hS hsz z sub _ r.fr r.e (deep+1) sm Ux (hS.sub TB) r4 Te ((jB i.wm HF.o TB).2.V Te);have Vc:sub=eX f:=(by unfold fS at TB;rw[dH hm]at TB;exact(Option.some.inj TB).sy);subst Vc;have Vd:=vS (U5 f (gZ HF.o).2 hm) U1;have⟨⟨t1,t2⟩,_⟩:=jB i.wm HF.o TB;rw[t1,t2];exact⟨Vd.ok Te,by have:=U1.len.1;omega⟩
         .intro w1 Y1 sub sv Vq TB Us Vr Vs UM Vt Vu UN
          have Ug:sub.fs.length<=4000/\(gP sub.name eS=true->2<=sub.fs.length):=by
           unfold fS at TB;split at TB;.cases TB;exact⟨by simp[eX],λ_=>by simp[eX]⟩
           .have:=hD sub (jV TB);exact⟨this.1,λq=>by rw[this.2]at q;cases q⟩
          have TY:=ih z Te w1 p0 Y1 sub (eP f g).2.2 r.fr r.e (deep+1) o sv Vq Us Vr Vs UM Ug.1 Ug.2 (hS.sub TB) Vt Vu UN r4 Te (by have:=i.fu;omega) Te ((jB i.wm HF.o TB).2.V Te);rw[Int.natCast_succ]at TY;exact TY
        have HG:Hid (R=Ju S b z d r.e e deep (rj S b z d f g r deep)):=(by show R=_;rw[i.res.o,zK hlt HQ.o HF.o HK.o]);have HW:Hid (∀m2,rj S b z d f g r deep= .ok m2->WM S r.e d m2):=λm2 M=>FU hS hsz U5 i.wm HQ.o he HF.o HK.o M
        have UY:=i.fu;unfold fI kF at Uu;obtain⟨q,hq⟩:=Td (rj S b z d f g r deep);rw[hq]at Uu HG HW;clear hq;have T5:=Uu.o;clear Uu;by_cases M:r.kind=2
        all_goals
         first
          |(
            have e1:(r.kind:Int)=2:=by rw[M];rfl
            have e2:(ff S f:Int)=2:=by rw[<-HK.o,M];rfl
            clear U0 M
            rw[e1]at T5)
          |(
            have e1:((r.kind:Int)==2)=false:=Tg
            clear M)
         go_wp2_with fail;refine T5.V ?_;clear T5;rcases q with⟨c,p⟩|m2
         .rintro en w9 ⟨⟨b1,n1,c2,u2,rfl⟩,Vv,Vw,K9⟩;have F9:=F8.kept K9 T9;have T6:=Tr.kept K9 Tg;clear x1 x2 D E B C y5 y6 y7 y8;have⟨D,E⟩:=F9.b1.I;have⟨B,C⟩:=T6.I
          have UG:Hid (Ls w ((w9.setCell ⟨w.heap.size+1,0,none⟩ (.slice b1 n1 c2)).setCell ⟨w.heap.size+1,1,none⟩ (.string u2)) xb b d (.slice I d.fs.length J) (.slice b1 n1 c2) u2 c p R):=
           ⟨F9.sets _ _,dP.other (dP.other Vv 0 _ Te) 1 _ Te,Vw,(((dY.oB B9).J K9).fresh Te 0 _).fresh Te 1 _,⟨_,_,_,rfl⟩,HG⟩
          go_wp2;go_roundw
          case rel=>exact⟨r.e,_,rfl,.inr ⟨u2,c,p,UG.o⟩⟩
          case measure=>simp[intOf];omega
         .rintro en w9 ⟨Uc,rfl,h9,UO⟩;obtain⟨b1,c2,rfl⟩:=h9.form;have F9:=F8.on UO;have T6:=Tr.G UO Tr.lt;clear x1 x2 D E B C y5 y6 y7 y8;have⟨D,E⟩:=F9.b1.I;have⟨B,C⟩:=T6.I
          have UH:Hid (E4 S b w ((w9.setCell ⟨w.heap.size+1,0,none⟩ (.slice b1 m2.fs.length c2)).setCell ⟨w.heap.size+1,1,none⟩ (.string m2.unk)) Y d (.slice I d.fs.length J) (.slice b1 m2.fs.length c2) m2 o z r.e e deep R):=
           ⟨F9.sets _ _,((dL B9 UO).setCell (p:=⟨w.heap.size+1,0,none⟩) Tf _).setCell (p:=⟨w.heap.size+1,1,none⟩) Tf _,
            h9.O (λx n _=>(Below.heap_setCell _ _ _ _ (λq=>Ua (w.heap.size+1) Te Te (by have q2:x=w.heap.size+1:=q;rw[<-q2];exact n))).J (Below.heap_setCell _ _ _ _ (λq=>Ua (w.heap.size+1) Te Te (by have q2:x=w.heap.size+1:=q;rw[<-q2];exact n)))),
            HW.o m2 rfl,r5,Te,HG⟩
          go_wp2;go_roundw
          case rel=>exact⟨r.e,_,rfl,.inl ⟨z,m2,Te,UH.o⟩⟩
          case measure=>simp[intOf];omega
       .have HK:Hid (r.kind≠ff S f):=hk;have U0:((r.kind:Int)==(ff S f:Int))=false:=Tg;clear hk;by_cases hp:r.kind=2/\f.isRep=true
        .obtain⟨M,Uo⟩:=hp;have e1:(r.kind:Int)=2:=by rw[M];rfl
         have e2:((ff S f:Int)==2)=false:=by rw[<-e1,bN];simp;have:=HK.o;omega
         have e3:(f.how.toList== [114,101,112,101,97,116,101,100])=true:=by rw[<-mh];exact Uo
         have HG:Hid (R=Ju S b z d r.e e deep (match ln S b f (g.get f.num) r.fr r.e with| .error x=> .error x| .ok l=> .ok (g.put f.num l))):=(by show R=_;rw[i.res.o,xi hlt HQ.o HF.o HK.o M Uo];cases ln S b f (g.get f.num) r.fr r.e<;>rfl);have HW:Hid (∀l,ln S b f (g.get f.num) r.fr r.e= .ok l->WM S r.e d (g.put f.num l)):=λl hl=>(FV hS i.wm HQ.o HF.o HK.o M hl).1
         have UY:=i.fu;have hgl:=i.wm.len.2.2 f.num;have hml:=i.wm.len.1;have D8:Below s.heap.size s s.drew:=(Tb s).drew;have Uh:=Uf.G D8 (aD _);have Ve:Hid (S9 227 #[.agg #[.slice O g.fs.length Q,.string g.unk],.int .i64 f.num] s.drew λe w'=>∃vv,e= .returned vv/\fk (gQ (o+1) s.drew Y) s.drew Y vv (g.get f.num)/\Below s.drew.heap.size s.drew w'):=FY s.drew s.drew (Below.refl _ _) (o+1) Y _ g g.unk f.num Uh Te
         have UI:∀w9 TZ,fk (gQ (o+1) s.drew Y) s.drew Y TZ (g.get f.num)->Below s.drew.heap.size s.drew w9->S9 226 #[.pointer (some ⟨xb,0,none⟩),.pointer (some ⟨sb,0,none⟩),.agg #[.string f.name,.string f.ty,.string f.key,.string f.how,.int .i64 f.num],TZ,.agg #[.int .i64 r.num,.int .i64 r.kind,.int .i64 r.a,.int .i64 r.fr,.int .i64 r.e,.int .u64 r.n]] w9 (Ai w9 xb b o Y (ln S b f (g.get f.num) r.fr r.e)):=
          λw9 TZ Vx b9=>Lp w9 xb sb b p0 P Y S f o TZ (g.get f.num) r (dP.G (dP.G TX D8 TX.lt) b9 (dP.lt (dP.G TX D8 TX.lt))) ((HS.G (dL B9 D8)).G b9) hE hle (Vx.G b9 (aD _)) (λx n=>Uz x (by have:=F8.size;have:=D8.size;have:=b9.size;omega)) UA hsz Te r4 Te
         rw[e1]at UI;have U2:Hid (∀w9 TZ,fk (gQ (o+1) s.drew Y) s.drew Y TZ (g.get f.num)->Below s.drew.heap.size s.drew w9->S9 226 #[.pointer (some ⟨xb,0,none⟩),.pointer (some ⟨sb,0,none⟩),.agg #[.string f.name,.string f.ty,.string f.key,.string f.how,.int .i64 f.num],TZ,.agg #[.int .i64 r.num,.int .i64 2,.int .i64 r.a,.int .i64 r.fr,.int .i64 r.e,.int .u64 r.n]] w9 (Ai w9 xb b o Y (ln S b f (g.get f.num) r.fr r.e))):=UI;clear UI
         have UJ:Hid (∀Ts Ty l,gQ (o+2) Ts Y (.slice O g.fs.length Q) g->fk (gQ (o+1) Ts Y) Ts Y Ty l->s.heap.size<=Ts.heap.size->S9 225 #[.agg #[.slice O g.fs.length Q,.string g.unk],.int .i64 f.num,Ty] Ts λe w'=>∃Ub,e= .returned (.agg #[Ub,.string g.unk])/\gQ (o+2) w' Y Ub (g.put f.num l)/\Below Ts.heap.size Ts w'):=
          λTs Ty l UP UQ hs10=>xZ Ts (o+1) Y _ _ g f.num l UP UQ Te (λx n=>Uz x (by have:=F8.size;omega))
         have U3:=F8.on D8;rw[e1]at Tr;have Ui:=Tr.G D8 Tr.lt;have Uj:=T4.G D8 T4.lt;clear B C;have⟨B,C⟩:=Tr.I;obtain⟨q,hq⟩:=Td (ln S b f (g.get f.num) r.fr r.e);rw[hq]at U2 HG HW;clear hq;have hx16:kK≠w.heap.size+1:=Te;have hx17:FF≠w.heap.size+1:=Te;have⟨t7,t8⟩:=U3.b1.I;have UK:¬(2:Int)=(ff S f:Int):=by have:=HK.o;omega
         have Vf:¬(ff S f:Int)=2:=Te;have Vg:¬2=ff S f:=Te;have Vh:¬ff S f=2:=Te;have UL:((2:Int)==(ff S f:Int))=false:=by simpa using UK
         go_upto_region 15 with fail
         clear D E y5 y6 y7 y8 x1 x2;generalize((ff S f:Int) !=2)=vq;refine li (λL a W=>Sh w s.drew xb sb kK FF o Q O b Y d (.slice I d.fs.length J) g f r q (λTC TD TE TF TG TH TI TJ TK Tz TL Tu TM=>(⟨#[.pointer (some ⟨xb,0,none⟩),.pointer (some ⟨sb,0,none⟩),.agg #[.string d.name,.slice I d.fs.length J],.agg #[.slice ma m.fs.length mc,.string m.unk],.int .i64 ↑a',.int .i64 ↑e,.int .i64 ↑deep,undef,undef,.pointer (some ⟨w.heap.size,0,none⟩),.pointer (some ⟨w.heap.size+1,0,none⟩),undef,undef,undef,.pointer (some ⟨w.heap.size+1+1,0,none⟩),.bool false,.pointer (some ⟨kK,0,none⟩),.pointer (some ⟨FF,0,none⟩),.bool true,.int .i64 ↑(ff S f),.bool vq,.pointer (some ⟨sb,0,none⟩),.agg #[.string d.name,.slice I d.fs.length J],.int .i64 ↑deep,.bool false,.bool false,undef,undef,undef,.int .i64 ↑a',.int .i64 ↑e,.bool true,.bool true,.pointer (some ⟨xb,0,none⟩),.pointer (some ⟨xb,0,none⟩),.pointer (some ⟨xb,1,none⟩),.pointer (some ⟨xb,1,none⟩),.int .i64 0,.bool true,.bool true,.pointer (some ⟨xb,0,none⟩),.int .i64 ↑a',.int .i64 ↑e,.agg #[.int .i64 r.num,.int .i64 2,.int .i64 ↑r.a,.int .i64 ↑r.fr,.int .i64 ↑r.e,.int .u64 r.n],.pointer (some ⟨xb,0,none⟩),.pointer (some ⟨xb,0,none⟩),.pointer (some ⟨xb,1,none⟩),.pointer (some ⟨xb,1,none⟩),.int .i64 0,.bool false,u50,.tuple #[.agg #[.string f.name,.string f.ty,.string f.key,.string f.how,.int .i64 f.num],.bool true],.agg #[.string d.name,.slice I d.fs.length J],.pointer (some ⟨kK,0,none⟩),.int .i64 r.num,.tuple #[.agg #[.string f.name,.string f.ty,.string f.key,.string f.how,.int .i64 f.num],.bool true],.agg #[.string f.name,.string f.ty,.string f.key,.string f.how,.int .i64 f.num],.bool true,.pointer (some ⟨sb,0,none⟩),.agg #[.string f.name,.string f.ty,.string f.key,.string f.how,.int .i64 f.num],.int .i64 ↑(ff S f),.bool true,.bool true,.pointer (some ⟨kK,1,none⟩),.int .i64 2,.bool true,.bool true,.bool true,.int .i64 ↑(ff S f),.bool vq,.bool vq,.bool vq,.pointer (some ⟨FF,3,none⟩),.string f.how,.bool true,.bool vq,u76,u77,u78,u79,u80,u81,u82,u83,u84,u85,u86,u87,u88,.bool false,.bool true,.bool true,.pointer (some ⟨kK,1,none⟩),.int .i64 2,.int .i64 ↑(ff S f),.bool false,.bool false,u97,u98,u99,u100,u101,u102,u103,u104,.bool vq,.bool vq,TC,TD,TE,TF,TG,TH,TI,TJ,TK,Tz,TL,Tu,TM,u120,u121,undef],[]⟩:Act)) W L a) Tj ⟨nofun,nofun,nofun,nofun,nofun,nofun,nofun,nofun,nofun,nofun,Ui,Uj,(λ_=>U3),nofun,nofun,nofun,nofun,nofun,(λ_=>rfl),(λh=>by cases h),(λh=>by cases h),(λh=>by cases h),(λh=>by cases h)⟩ Tj ?_ ?_
         .rintro L a W @⟨l0,l1,l2,l3,l4,l5,l6,l7,l8,l9,t,T7,T8,TP,TC,TD,TE,TF,TG,TH,TI,TJ,TK,Tz,TL,Tu,TM,U,f1,f2,f3,V,f5,X,f7,f8,T,A,y,F,g0,g6,N,G,H,pA,pB,pC,pD,pE⟩ UR;obtain rfl:TP=true:=UR 13 Th;obtain⟨Ts,Ty,t,TT,TN,TO,TQ,US,v,Uk,Up,rfl⟩:=pE.o rfl;have⟨t9,t10⟩:=Up.I;rcases q with⟨c,p⟩|l
          .have⟨Uq,UT⟩:=TQ.er c p rfl
           have UG:Hid (Ls w ((TT.setCell ⟨w.heap.size+1,0,none⟩ (.slice TN (g.put f.num t).fs.length TO)).setCell ⟨w.heap.size+1,1,none⟩ (.string g.unk)) xb b d (.slice I d.fs.length J) (.slice TN (g.put f.num t).fs.length TO) g.unk c p R):=
            ⟨Uk.sets _ _,dP.other (dP.other (dP.G Uq v (dP.lt Uq)) 0 _ Te) 1 _ Te,UT,(((((dY.oB B9).J (dY.oB D8)).J TQ.kp).J (dY.oB v)).fresh Te 0 _).fresh Te 1 _,⟨_,_,_,rfl⟩,HG⟩
           go_wp2;go_roundw
           case rel=>exact⟨r.e,_,rfl,.inr ⟨g.unk,c,p,UG.o⟩⟩
           case measure=>simp[intOf];omega
          .obtain⟨rfl,bk⟩:=TQ.ok l rfl
           have UH:Hid (E4 S b w ((TT.setCell ⟨w.heap.size+1,0,none⟩ (.slice TN (g.put f.num l).fs.length TO)).setCell ⟨w.heap.size+1,1,none⟩ (.string g.unk)) Y d (.slice I d.fs.length J) (.slice TN (g.put f.num l).fs.length TO) (g.put f.num l) o z r.e e deep R):=
            ⟨Uk.sets _ _,((dL B9 (dL D8 (dL bk v))).setCell (p:=⟨w.heap.size+1,0,none⟩) Tf _).setCell (p:=⟨w.heap.size+1,1,none⟩) Tf _,
             US.O (λx n _=>(Below.heap_setCell _ _ _ _ (λq=>Ua (w.heap.size+1) Te Te (by have q2:x=w.heap.size+1:=q;rw[<-q2];exact n))).J (Below.heap_setCell _ _ _ _ (λq=>Ua (w.heap.size+1) Te Te (by have q2:x=w.heap.size+1:=q;rw[<-q2];exact n)))),
             HW.o l rfl,r5,Te,HG⟩
           go_wp2;go_roundw
           case rel=>exact⟨r.e,_,rfl,.inl ⟨z,g.put f.num l,Te,UH.o⟩⟩
           case measure=>simp[intOf];omega
         refine .cons ?_ (.cons ?_ (.cons ?_ (.cons ?_ (.cons ?_ (.cons ?_ (.cons ?_ (.cons ?_ (.cons ?_ (.cons ?_ (.cons ?_ (.cons ?_ (.cons ?_ (.cons ?_ .nil)))))))))))))
         all_goals
          rintro L a W @⟨l0,l1,l2,l3,l4,l5,l6,l7,l8,l9,t,T7,T8,TP,TC,TD,TE,TF,TG,TH,TI,TJ,TK,Tz,TL,Tu,TM,U,f1,f2,f3,V,f5,X,f7,f8,T,A,y,F,g0,g6,N,G,H,pA,pB,pC,pD,pE⟩ h0 j K hK;subst h0
         .obtain rfl:TP=false:=bN.2 (λe=>by cases g0 e);have⟨k1,k2⟩:=(F.o rfl).b1.I;clear j;go_simp;refine hK.out _ _ ?_;simp only[S7];exact⟨λ_=>rfl,f1,f2,f3,V,f5,X,f7,f8,T,A,y,F,(λ_=>rfl),g6,N,G,H,pA,pB,pC,pD,pE⟩
         .clear j;go_simp;refine hK.out _ _ ?_;simp only[S7];exact⟨U,λ_=>rfl,f2,f3,V,f5,X,f7,f8,T,A,y,F,g0,g6,N,G,H,pA,pB,pC,pD,pE⟩
         .obtain rfl:=eH (k:=1) j Tj;obtain rfl:=f1 rfl;have⟨k1,k2⟩:=y.I;clear j;go_simp;refine hK.out _ _ ?_;simp only[S7];exact⟨U,λ_=>rfl,λ_=>rfl,f3,V,f5,X,f7,f8,T,A,y,F,g0,g6,N,G,H,pA,pB,pC,pD,pE⟩
         .clear j;go_simp;refine hK.out _ _ ?_;simp only[S7];exact⟨U,f1,f2,λ_=>rfl,V,f5,X,f7,f8,T,A,y,F,g0,g6,N,G,H,pA,pB,pC,pD,pE⟩
         .clear j;go_simp;refine hK.out _ _ ?_;simp only[S7];exact⟨U,f1,f2,f3,λ_=>rfl,f5,X,f7,f8,T,A,y,F,g0,g6,N,G,H,pA,pB,pC,pD,pE⟩
         .have⟨k1,k2⟩:=y.I;clear j;go_simp;refine hK.out _ _ ?_;simp only[S7];exact⟨U,f1,f2,f3,V,λ_=>rfl,X,f7,f8,T,A,y,F,g0,g6,N,G,H,pA,pB,pC,pD,pE⟩
         .obtain rfl:TP=false:=bN.2 (λe=>by cases g6 e);have⟨k1,k2⟩:=(F.o rfl).b1.I;clear j;go_simp;refine hK.out _ _ ?_;simp only[S7];exact⟨U,f1,f2,f3,V,f5,λ_=>rfl,f7,f8,T,A,y,F,g0,(λ_=>rfl),N,G,H,pA,pB,pC,pD,pE⟩
         .clear j;go_simp;refine hK.out _ _ ?_;simp only[S7];exact⟨U,f1,f2,f3,V,f5,X,λ_=>rfl,f8,T,A,y,F,g0,g6,N,G,H,pA,pB,pC,pD,pE⟩
         .obtain rfl:=eH (k:=7) j Tj;obtain rfl:=f7 rfl;have⟨k1,k2⟩:=y.I;clear j;go_simp;refine hK.out _ _ ?_;simp only[S7];exact⟨U,f1,f2,f3,V,f5,X,λ_=>rfl,λ_=>rfl,T,A,y,F,g0,g6,N,G,H,pA,pB,pC,pD,pE⟩
         .obtain rfl:=eH (k:=6) j Tj;obtain rfl:=eH (k:=8) j Tj;obtain rfl:=X rfl;obtain rfl:=f8 rfl;obtain rfl:=pA.o rfl;clear j;go_simp;go_wp2_with (first|(go_at_call 227;refine Ve.o.V ?_;rintro e w9 ⟨TZ,rfl,UU,b9⟩))
          refine hK.out _ _ ?_;simp only[S7];exact⟨U,f1,f2,f3,V,f5,λ_=>rfl,f7,λ_=>rfl,T,(A.G b9 A.lt),(y.G b9 y.lt),(λe=>(F.o e).on b9),g0,(λ_=>rfl),(λ_=>rfl),G,H,(λh=>by cases h),(λ_ _=>⟨UU,b9⟩),(λe=>by cases N e),(λe=>by cases N (G e)),(λe=>by cases N (G (H e)))⟩
         .have⟨k1,k2⟩:=A.I;clear j;go_simp;refine hK.out _ _ ?_;simp only[S7];exact⟨U,f1,f2,f3,V,f5,X,f7,f8,λ_=>rfl,A,y,F,g0,g6,N,G,H,pA,pB,pC,pD,pE⟩
         .obtain rfl:=eH (k:=3) j Tj;obtain rfl:=eH (k:=4) j Tj;obtain rfl:=eH (k:=5) j Tj;obtain rfl:=eH (k:=9) j Tj;obtain rfl:=eH (k:=10) j Tj;obtain rfl:=f3 rfl;obtain rfl:=V rfl;obtain rfl:=f5 rfl;obtain rfl:=T rfl;have⟨UU,b9⟩:=pB.o rfl rfl;clear j;go_simp;go_wp2_with (first|(go_at_call 226;refine(U2.o W Tz UU b9).V ?_;intro e Ts hq;obtain⟨Ty,t,rfl,TQ,UV⟩:=Ai.all hq b9))
          refine hK.out _ _ ?_;simp only[S7];exact⟨U,f1,f2,λ_=>rfl,λ_=>rfl,λ_=>rfl,X,f7,f8,λ_=>rfl,(A.kept UV Tg),(y.kept UV Tg),(λe=>(F.o e).kept UV T9),g0,g6,(λ_=>rfl),(λ_=>rfl),H,(λh=>by cases h),(λ_ h=>by cases h),(λ_ _=>⟨t,TQ⟩),(λe=>by cases G e),(λe=>by cases G (H e))⟩
         .obtain rfl:=eH (k:=0) j Tj;obtain rfl:=eH (k:=2) j Tj;obtain rfl:=eH (k:=11) j Tj;obtain rfl:=U rfl;obtain rfl:=f2 rfl;obtain rfl:=N rfl;have⟨t,TQ⟩:=pC.o rfl rfl;clear j;go_simp;go_wp2_with (first|(go_at_call 225;refine(UJ.o W Tu t (Uh.O (λx n hl=>TQ.kp.block x hl (by simp;intro e;subst e;exact UA n))) TQ.vs (by have h9:=TQ.kp.size;simp at h9;omega)).V ?_;rintro e TT ⟨Ur,rfl,TU,v⟩))
          refine hK.out _ _ ?_;simp only[S7];exact⟨λ_=>rfl,f1,λ_=>rfl,f3,V,f5,X,f7,f8,T,(A.G v A.lt),(y.G v y.lt),(λe=>(F.o e).on v),(λ_=>rfl),g6,(λ_=>rfl),(λ_=>rfl),(λ_=>rfl),(λh=>by cases h),(λ_ h=>by cases h),(λ_ h=>by cases h),(λ_ _=>⟨W,Tu,t,Ur,TQ,rfl,TU,v⟩),(λe=>by cases H e)⟩
         .obtain rfl:=eH (k:=0) j Tj;obtain rfl:=eH (k:=6) j Tj;obtain rfl:=eH (k:=9) j Tj;obtain rfl:=eH (k:=11) j Tj;obtain rfl:=eH (k:=12) j Tj;obtain rfl:=U rfl;obtain rfl:=X rfl;obtain⟨Ts,Ty,t,Ur,TQ,rfl,TU,v⟩:=pD.o rfl rfl;obtain⟨TN,TO,rfl⟩:=TU.form;have Uk:=F.o rfl;have⟨k1,k2⟩:=Uk.b1.I;clear j;go_simp;refine hK.out _ _ ?_;simp only[S7];exact⟨λ_=>rfl,f1,f2,f3,V,f5,λ_=>rfl,f7,f8,T,((A.other (c:=w.heap.size+1) 0 _ Te).other (c:=w.heap.size+1) 1 _ Te),((y.other (c:=w.heap.size+1) 0 _ Te).other (c:=w.heap.size+1) 1 _ Te),(λh=>by cases h),(λ_=>rfl),(λ_=>rfl),(λ_=>rfl),(λ_=>rfl),(λ_=>rfl),(λh=>by cases h),(λ_ h=>by cases h),(λ_ h=>by cases h),(λ_ h=>by cases h),(λ_=>⟨Ts,Ty,t,W,TN,TO,TQ,TU,v,Uk,A,rfl⟩)⟩
        .have Uv:∀f',ei d.fs r.num=some f'->r.kind≠ff S f'/\¬(r.kind=2/\f'.isRep=true):=λf' U7=>by
          rw[HF.o]at U7;cases U7;exact⟨HK.o,hp⟩
         have Ut:Hid _:=TW.o s F8 B9 Uf Uv;have Va:r.a<=r.e:=by rw[UC.o];omega
         have UE:r.e<=b.size:=Te;have UF:g.unk.size+(b.extract r.a r.e).size<=maxLen:=by rw[aU];unfold maxLen;omega
         have HP:Hid (¬(r.kind=2/\f.isRep=true)):=hp;clear Uv hp;by_cases M:r.kind=2
         .have e1:(r.kind:Int)=2:=by rw[M];rfl
          have e2:((ff S f:Int)==2)=false:=by rw[<-e1,bN];simp;have:=HK.o;omega
          have e3:(f.how.toList== [114,101,112,101,97,116,101,100])=false:=by rw[<-mh];exact bN.2 (λq=>HP.o ⟨M,q⟩)
          rw[e1]at Tr;have UK:¬(2:Int)=(ff S f:Int):=by have:=HK.o;omega
          have Vf:¬(ff S f:Int)=2:=Te;have Vg:¬2=ff S f:=Te;have Vh:¬ff S f=2:=Te;have UL:((2:Int)==(ff S f:Int))=false:=by simpa using UK
          clear B C M;have⟨B,C⟩:=Tr.I;go_upto_region 11 with fail
          go_region
          all_goals
           go_wp2;go_roundw
           case rel=>exact⟨r.e,_,rfl,.inl ⟨z,g.O (b.extract r.a r.e),Te,Ut.o.on (Below.refl _ _).drew⟩⟩
           case measure=>simp[intOf];omega
         .have e1:((r.kind:Int)==2)=false:=Tg;clear M;go_upto_region 11 with fail
          go_region
          all_goals
           go_wp2;go_roundw
           case rel=>exact⟨r.e,_,rfl,.inl ⟨z,g.O (b.extract r.a r.e),Te,Ut.o.on (Below.refl _ _).drew⟩⟩
           case measure=>simp[intOf];omega
    .have Tt:Hid (oA w xb b (o+1+1) Z R (.returned (.agg #[.slice O g.fs.length Q,.string g.unk])) (wr.setCells (w.heap.size+1+1) 0 [.slice O g.fs.length Q,.string g.unk])):=(by show oA w xb b (o+1+1) Z R _ _;rw[i.res.o,tS hlt];refine⟨_,rfl,?_,fH Te [_,_] 0 i.bl⟩;exact(i.mi.O (λx n _=>eI (c:=w.heap.size+1+1) _ x (λe=>Ua (w.heap.size+1+1) Te Te (by rw[e];exact n)) [_,_] 0)).V (λx n _=>UW x n));go_wp2;refine dJ (dW results149 _ _ rfl (i.mb.b2.sets_all [_,_] rfl) underlying49 Tj) rfl ?_;exact Tt.o
   .obtain⟨O,n1,Q,rfl⟩:=TS.fm;have hc:=TS.ne;have T0:dP wr xb #[.string b,.int .i64 c,.int .i64 p] 279:=TS.kx;have⟨x1,x2⟩:=T0.I;have⟨D,E⟩:=TS.mb.b1.I;have⟨B,C⟩:=TS.mb.b2.I;have Tt:Hid (oA w xb b (o+1+1) Z R (.returned (.agg #[.slice O n1 Q,.string u])) (wr.setCells (w.heap.size+1+1) 0 [.slice O n1 Q,.string u])):=(by show oA w xb b (o+1+1) Z R _ _;rw[TS.res.o];exact⟨⟨_,_,_,_,rfl⟩,dP.sets_other TS.kx Te [_,_] 0,hc,TS.kp.sets (.inr Te) [_,_] 0⟩);have U9:(c==0)=false:=by simpa using hc
    by_cases hlt:a'<e;.go_wp2;refine dJ (dW results149 _ _ rfl (TS.mb.b2.sets_all [_,_] rfl) underlying49 Tj) rfl ?_;exact Tt.o
    .go_wp2;refine dJ (dW results149 _ _ rfl (TS.mb.b2.sets_all [_,_] rfl) underlying49 Tj) rfl ?_;exact Tt.o
end
end Go.Proofs.YtfebdimolnobaaaGreatDoor
