import Derived.Test.YtfebdimolnobaaaGreatDoorMnE
import Derived.Test.YtfebdimolnobaaaGreatDoorFcG
import Derived.LaidMore
import Derived.OpenShut
import Derived.SizedLaws
import Derived.Carry
import Derived.Stop.Joined
import Derived.Stop.LaidErr
import Derived.Lib.LaidU8T
import Derived.Deep.DeepHandedRow
import Derived.Deep.DeepWitnessRowRef
set_option maxRecDepth 100000
set_option maxHeartbeats 8000000
set_option linter.all false
namespace Go.Proofs.YtfebdimolnobaaaGreatDoor
open Go.RowKit Go.Proofs.Tryz
def kG.get {α β:Type}{R:β->α->Prop}:∀{xs:List β} {l:List α},kG R xs l->∀{i:Nat} {x:β},xs[i]?=some x->∃y,l[i]?=some y/\R x y
 | [],[],_,i,x,h=>by simp at h
 |a::xs,b::l,h,0,x,hx=>⟨b,rfl,by cases hx;exact h.1⟩
 |a::xs,b::l,h,i+1,x,hx=>by simpa using kG.get h.2 (i:=i) (by simpa using hx)
 | [],b::l,h,_,_,_=>h.elim
 |a::xs,[],h,_,_,_=>h.elim
def kG.back {α β:Type}{R:β->α->Prop}:∀{xs:List β} {l:List α},kG R xs l->∀{y:α},y∈l->∃x∈xs,R x y
 | [],[],_,y,h=>by cases h
 |a::xs,b::l,h,y,hy=>by
  rcases aS.1 hy with rfl|hy;.exact⟨a,aZ,h.1⟩
  .have⟨x,hx,hr⟩:=kG.back h.2 hy
   exact⟨x,aY _ hx,hr⟩
 | [],b::l,h,_,_=>h.elim
 |a::xs,[],h,_,_=>h.elim
def kG.fore {α β:Type}{R:β->α->Prop}{xs:List β}{l:List α}(h:kG R xs l){x:β}(hx:x∈xs):∃y∈l,R x y:=by
 have⟨i,hi⟩:=bY.1 hx;have⟨y,h1,h2⟩:=h.get hi;exact⟨y,aL h1,h2⟩
section
variable {fs:List F3} {ps:List fI}
def Db {k:Nat}{x:F3}:(k,x)∈zG fs fs.length<->fs[k]?=some x:=by
 unfold zG;rw[aR];constructor;.rintro⟨j,hj,e⟩;rw[List.mem_range]at hj;cases e;rw[aO hj];rfl
 .intro h;exact⟨k,List.mem_range.2 (bn.1 h).1,by rw[h];rfl⟩
def RT (k:Nat)(x:F3)(f:fo):Prop:=∃o r,f=gW o r/\((x.2.1≠3/\o=none/\wi k x (vK x.2.1) r)\/(x.2.1=3/\(∃q,o=some (bl [111],q))/\wi k x 3 r))
def PJ (h:kG (Da fs) (iF fs) ps){k:Nat}{x:F3}(hx:fs[k]?=some x):∃f∈ps.flatMap (λp=>p.fields.map (gW p.oneof)),RT k x f:=by
 by_cases h3:x.2.1=3;.have Vs:(k,x)∈ones fs:=bA.2 ⟨Db.2 hx,by simp[sE,h3]⟩;have hi:none∈iF fs:=aW.2 (.inr (by rw[dO (λe=>by rw[e]at Vs;cases Vs)];simp));obtain⟨p,hp,o,rs,rfl,hr⟩:=h.fore hi;have⟨r,VI,VJ⟩:=hr.fore Vs;exact⟨_,List.mem_flatMap.2 ⟨_,hp,aR.2 ⟨r,VI,rfl⟩⟩,_,_,rfl,.inr ⟨h3,⟨o,rfl⟩,VJ⟩⟩
 .have hi:some (k,x)∈iF fs:=aW.2 (.inl (aR.2 ⟨_,bA.2 ⟨Db.2 hx,by simp[sE,h3]⟩,rfl⟩));obtain⟨p,hp,r,rfl,hr⟩:=h.fore hi;exact⟨_,List.mem_flatMap.2 ⟨_,hp,aR.2 ⟨r,ba.2 rfl,rfl⟩⟩,_,_,rfl,.inl ⟨h3,rfl,hr⟩⟩
def IG (h:kG (Da fs) (iF fs) ps){f:fo}(hf:f∈ps.flatMap (λp=>p.fields.map (gW p.oneof))):∃k x,fs[k]?=some x/\RT k x f:=by
 have⟨p,hp,hf⟩:=List.mem_flatMap.1 hf;obtain⟨r,hr,rfl⟩:=aR.1 hf;have⟨it,hit,hR⟩:=h.back hp;rcases aW.1 hit with hit|hit;.obtain⟨⟨k,x⟩,hx,rfl⟩:=aR.1 hit;have⟨hx1,Vz⟩:=bA.1 hx;obtain⟨r',rfl,Vt⟩:=hR;obtain rfl:=ba.1 hr;exact⟨k,x,Db.1 hx1,_,_,rfl,.inl ⟨by simpa [sE]using Vz,rfl,Vt⟩⟩
 .split at hit;.cases hit
  .obtain rfl:=ba.1 hit;obtain⟨o,rs,rfl,VK⟩:=hR;have⟨⟨k,x⟩,hx,Vt⟩:=VK.back hr;have⟨hx1,Vz⟩:=bA.1 hx;exact⟨k,x,Db.1 hx1,_,_,rfl,.inr ⟨by simpa [sE]using Vz,⟨o,rfl⟩,Vt⟩⟩
end
def RU:∀k:Fin 7,jc (bl (gr (k.val+1)))=k.val+1:=Vg
def Nq:∀h:Fin 5,h.val≠3->gN (rH none (vK h.val)) xA=decide (h.val=4)/\gN (rH none (vK h.val)) Dt=decide (h.val=1)/\gN (rH none (vK h.val)) eS=decide (h.val=0)/\i8 (rH none (vK h.val))=false:=Vg
def PL:gN (oG (bl [111])) xA=false/\gN (oG (bl [111])) Dt=false/\gN (oG (bl [111])) eS=false/\i8 (oG (bl [111]))=true:=Vg
def EY {S:eD}(he:S.es= [bl [69]]):∀{t:Nat},t<19->S.base (bl (gG t))=if 15<t then 16 else t:=by
 intro t ht;have h:∀t:Fin 19,(match Df mZ (bl (gG t.val)).toList 0 with|some k=>k|none=>if fi [bl [69]] (bl (gG t.val))then 15 else 16)=if 15<t.val then 16 else t.val:=Vg;unfold eD.base;rw[he];exact h ⟨t,ht⟩
def Nr {S:eD}{M:Nat->MT}{k n:Nat}{x:F3}{f:fo}(he:S.es= [bl [69]])(hm:∀j,j<n->S.msg (bl (77::gr j))=some (M j))(hn:n<=3)(hx:x.1<16+n/\x.2.1<5/\x.2.2∈iu/\(x.2.1≠4->x.2.2=0))(hk:k<7)(h:RT k x f):
  RF S M x f/\f.num=((k+1:Nat):Int)/\i8 f.how=decide (x.2.1=3):=by
 obtain⟨o,r,rfl,hr⟩:=h;have Vt:wi k x r.form r:=by rcases hr with⟨_,_,h⟩|⟨_,_,h⟩<;>exact⟨rfl,by rw[h.form];exact h.key,h.type,h.name,h.num⟩
 have VD:(gW o r).ty=bl (gG x.1):=Vt.type;have Vx:(gW o r).num=((k+1:Nat):Int):=by show((jc r.num.1:Nat):Int)=_;rw[Vt.num,RU ⟨k,hk⟩]
 have Vq:gN (gW o r).how xA=decide (x.2.1=4)/\gN (gW o r).how Dt=decide (x.2.1=1)/\gN (gW o r).how eS=decide (x.2.1=0)/\i8 (gW o r).how=decide (x.2.1=3):=by
  rcases hr with⟨h3,rfl,h⟩|⟨h3,⟨q,rfl⟩,h⟩
  .have:=Nq ⟨x.2.1,hx.2.1⟩ h3;have e:(gW none r).how=rH none (vK x.2.1):=by show rH none r.form=_;rw[h.form]
   rw[e];exact⟨this.1,this.2.1,this.2.2.1,by rw[decide_eq_false h3];exact this.2.2.2⟩
  .obtain⟨a,b,c,d⟩:=PL;rw[h3];exact⟨a,b,c,d⟩
 refine⟨⟨by rw[VD];exact EY he Vc,λVE=> ?_,Vq.1,Vq.2.1,Vq.2.2.1,λh4=> ?_⟩,Vx,Vq.2.2.2⟩;.rw[VD];unfold gG;rw[dP VE];exact hm _ Vc
 .have VH:r.form=4:=by
   rcases hr with⟨_,_,h⟩|⟨h3,_⟩;.rw[h.form,h4];rfl
   .omega
  have:=Vt.key;rw[dP VH]at this;show S.base (jK r.key)=_
  cases hk:r.key with
  |none=>rw[hk]at this;cases this
  |some y=>
   rw[hk]at this;have e:y.1=bl (gG x.2.2):=by simpa using this
   have VE:x.2.2<14:=by have:=hx.2.2.1;simp[iu]at this;omega
   show S.base y.1=_;rw[e,EY he Vc,dO Vc]
def Bk {nm:au}:∀{l:List MT} {j:Nat} {m:MT},l[j]?=some m->gN m.name nm=true->(∀k a,k<j->l[k]?=some a->gN a.name nm=false)->lr l nm=some m
 | [],j,m,h,_,_=>by simp at h
 |a::l,0,m,h,hn,_=>by
  cases h
  rw[lr,dP hn]
 |a::l,j+1,m,h,hn,hk=>by
  rw[lr,dO (by rw[hk 0 a Vc rfl];decide)];exact Bk (by simpa using h) hn λk b hk' hb=>hk (k+1) b Vc (by simpa using hb)
def Qm:∀j k:Fin 3,gN (bl (77::gr j.val)) (bl (77::gr k.val))=decide (j=k):=Vg
def vL {n:Int}:∀{l:List fo},(∀f∈l,f.num≠n)->d9 l n=none
 | [],_=>rfl
 |f::l,h=>by rw[d9,dO (h f aZ)];exact vL λg hg=>h g (aY _ hg)
def RV {bs:List d7}{L:List (List F3)}(hsb:kh bs)(hD:CG L)(h:kG wj (NM L L.length) bs):∃M,ES (ei bs) L M/\(ei bs).msg (bl (77::gr 0))=some (M 0)/\M 0∈(ei bs).ms:=by
 have⟨_,hN⟩:=RK hsb
 obtain⟨e,ms,rfl,he,VG⟩:∃e ms,bs=e::ms/\wj none e/\kG wj ((List.range L.length).map λi=>some (i,(L[i]?).getD [])) ms:=by
  cases bs with
  |nil=>exact h.elim
  |cons e ms=>exact⟨e,ms,rfl,h.1,h.2⟩
 have hb:∀{i:Nat} {fs:List F3},L[i]?=some fs->∃b,ms[i]?=some b/\wj (some (i,fs)) b:=fun{i fs} hi=>by
  have hl:i<L.length:=(bn.1 hi).1;exact VG.get (by rw[aT,List.getElem?_range hl];simp[hi])
 have VF:∀b∈ms,b.enum=false:=λb hb=>by
  have⟨x,hx,hr⟩:=VG.back hb;obtain⟨i,_,rfl⟩:=aR.1 hx;obtain⟨p,ps,rfl,_⟩:=hr;rfl
 have Vy:e.enum=true/\e.name.1=bl [69]:=(by obtain⟨p,q,r,rfl⟩:=he;exact⟨rfl,rfl⟩);have h1:(ei (e::ms)).ms=ms.map lY:=(by show(List.filter (λb=> !b.enum) (e::ms)).map lY=_;rw[cl,dO (by rw[Vy.1];decide),cZ.2 λb hb=>by rw[VF b hb];rfl]);have h2:(ei (e::ms)).es= [bl [69]]:=(by show((e::ms).filter λb=>b.enum).map (λb=>b.name.1)=_;rw[cl,dP Vy.1,List.filter_eq_nil_iff.2 λb hb=>by rw[VF b hb];decide];simp[Vy.2])
 have hM:∀{i:Nat} {fs:List F3},L[i]?=some fs->∃ps,((ms.map lY)[i]?)=some ⟨bl (77::gr i),ps.flatMap λp=>p.fields.map (gW p.oneof)⟩/\kG (Da fs) (iF fs) ps:=fun{i fs} hi=>by
  obtain⟨b,VL,p,ps,rfl,Vp⟩:=hb hi;exact⟨ps,by rw[aT,VL];rfl,Vp⟩
 have Vr:∀j,j<L.length->(ei (e::ms)).msg (bl (77::gr j))=some (((ms.map lY)[j]?).getD ⟨eS,[]⟩):=λj hj=>by
  have⟨fs,Vu⟩:=gx hj;have⟨ps,Vp,_⟩:=hM Vu;have hL:=hD.few.2;unfold eD.msg;rw[h1,Vp];refine Bk Vp (by have:=Qm ⟨j,Vc⟩ ⟨j,Vc⟩;simpa using this) λk a hk ha=> ?_
  have⟨fs',VA⟩:=gx (show k<L.length by omega);have⟨ps',VB,_⟩:=hM VA;rw[VB]at ha;cases ha;have:=Qm ⟨k,Vc⟩ ⟨j,Vc⟩;simp only[Fin.mk.injEq]at this;rw[decide_eq_false Vc]at this;exact this
 have Vv:∀{i:Nat} {d:MT},(ms.map lY)[i]?=some d->d∈(ei (e::ms)).ms:=λhd=>by rw[h1];exact aL hd
 refine⟨λi=>((ms.map lY)[i]?).getD ⟨eS,[]⟩,⟨λi fs k x hi hx=> ?_,λi hi=> ?_⟩,Vr 0 (by have:=hD.few.1;omega),?_⟩
 .have⟨ps,Vp,hA⟩:=hM hi;have⟨_,h7,Vw⟩:=hD.fs fs (aL hi);have hk:k<fs.length:=(bn.1 hx).1;simp only[Vp,Option.getD_some];have⟨f,hf,VM⟩:=PJ hA hx;have⟨q1,q2,q3⟩:=Nr h2 Vr hD.few.2 (Vw x (aL hx)) Vc VM;refine⟨f,?_,q1,λn hn=> ?_⟩;.rw[<-q2];exact ry (hN _ (Vv Vp)) hf
  .have⟨o,ho,o1,o2,o3,_⟩:=tU.1 hn;have⟨j,y,hy,VC⟩:=IG hA ho;have hj:j<fs.length:=(bn.1 hy).1;have⟨_,p2,p3⟩:=Nr h2 Vr hD.few.2 (Vw y (aL hy)) Vc VC;rw[q3,dQ]at o3;refine⟨o3,j,y,by rw[<-o1,p2],hy,?_⟩;rw[o2,q3,o3]at p3;simpa using p3.sy
 .have⟨fs,Vu⟩:=gx hi;have⟨ps,Vp,hA⟩:=hM Vu;simp only[Vp,Option.getD_some];refine vL λf hf=> ?_
  have⟨j,y,hy,VC⟩:=IG hA hf;have⟨_,h7,Vw⟩:=hD.fs fs (aL Vu);have hj:j<fs.length:=(bn.1 hy).1;have⟨_,p2,_⟩:=Nr h2 Vr hD.few.2 (Vw y (aL hy)) Vc VC;rw[p2];omega
 .have⟨fs,Vu⟩:=gx (show 0<L.length by have:=hD.few.1;omega);have⟨ps,Vp,_⟩:=hM Vu;simp only[Vp,Option.getD_some];exact Vv Vp
def Ad {bs:List d7}{L:List (List F3)}{more:ar}{nm:au}(hnm:nm=bl (77::gr 0))(hsb:kh bs)(hD:CG L)(h:kG wj (NM L L.length) bs)(hm:more.length<=1048576):
  (gS more L 7 0 0).2<1099511627776/\pP 9 (gS more L 7 0 0).1/\wY 9 (gS more L 7 0 0).1<=251900000/\(kj (ei bs) nm (gS more L 7 0 0).1).2=0/\(kj (ei bs) nm (gS more L 7 0 0).1).1.size<=251900000/\iV (ei bs) nm (kj (ei bs) nm (gS more L 7 0 0).1).1= .ok (gS more L 7 0 0).1:=by
 have⟨M,hS,h1,h2⟩:=RV hsb hD h;have⟨hR,_⟩:=RK hsb;have hb:=(CU (raw:=more) hD 7 0 0).1;have hw:wK (9+1) (gS more L 7 0 0).1+4+8*0<=8*(gS more L 7 0 0).2:=Iy (raw:=more) hD 7 0 0;have hg:=CZ (raw:=more) hD 7 0 0;have hs:=tW (raw:=more) hS hD 7 0 0 (by have:=hD.few.1;omega);have ht:=M2 9 (gS more L 7 0 0).1;generalize gS more L 7 0 0=X at*;have hO:=M8 9 X.1 hg Vc;have hl:=qF (S:=ei bs) 8 9 (M 0) X.1 hO;subst hnm;have he:kj (ei bs) (bl (77::gr 0)) X.1=(bl (eG (ei bs) 8 (M 0) X.1),0):=(by unfold kj;rw[h1];simp only;rw[dP hs,dP hs];rfl);rw[he];refine⟨Vc,hO,Vc,rfl,?_,?_⟩;.show(bl (eG (ei bs) 8 (M 0) X.1)).size<=_;rw[fR];omega
 .rw[MC,h1];exact CP hR 8 1 (M 0) X.1 9 rfl (.inl h2) hs hO Vc
section
open Go.Maps
open Vo
def Sf:au:=⟨#[77,48]⟩
def RW (w:aw)(rv ov:Value)(raw more:ar)(hg:GOK w)(hbo:BOK w)(hu:UOK w)(hr:∀x∈raw,JC x)(hf:raw.length<1099511627776)(hrow:ix w (λb=>b<w.heap.size) rv raw.length (raw.map λx=>aa x))
  (hr2:∀x∈more,JC x) (hf2:more.length<=1048576) (hrow2:ix w (λb=>b<w.heap.size) ov more.length (more.map λx=>aa x)):
  Calls prog 7 #[rv,ov] w λe w'=>e= .returned (.bool true)/\ak w w':=by
 have HB:=Pd w hg hbo hu;have Vs:=MN raw;obtain⟨oa,oc,rfl⟩:=hrow2.form;go_in
 go_wp2_with fail;refine HB.V ?_;rintro e w1 ⟨rfl,b1⟩;have HP:=Ph w1 rv raw hr hf ((hrow.O λb _ l=>b1.block b l).V λb _ l=>l);generalize sD raw=L at*;clear HB hrow;go_wp2_with fail;refine HP.V ?_;rintro e w2 ⟨v,Y,vs,rfl,hv,VM,hY,b2⟩;have VV:=dU b1 b2;have⟨B3,N3⟩:=d8 w2 #[v] 68;have Vz:=hv.O (w':=w2.alloc (am #[v] 68)) λb _ l=>B3.block b l
 have Vp:=VM.O (w':=w2.alloc (am #[v] 68)) λb _ l=>B3.block b l
 have HT:=Rp (w2.alloc (am #[v] 68)) v Y vs L Vs Vz Vp;obtain⟨va,vc,rfl⟩:=hv.form;have⟨k1,k2⟩:=N3.I;clear HP;go_wp2_with fail;generalize w2.alloc (am #[.slice va L.length vc] 68)=w3 at*;refine HT.V ?_;rintro e w4 ⟨⟨rfl,hz⟩,b4⟩;have VW:=dU B3 b4;have Vw:=dU VV VW;have⟨bs,VD,VN⟩:=GL Vs hz;have Vu:=DR VD;have HP:=c5 w4 (qK L) Vc (hg.O (Vw.block _ hg.lt)) (hbo.O (Vw.block _ hbo.lt));rw[VD]at HP;clear HT k1 k2 VD;go_wp2_with fail;refine HP.V ?_;rintro e w5 ⟨⟨sb,kp,mk,rfl,hS⟩,b5⟩;have VA:=dU Vw b5;clear HP;have L5:=sG.new VA Vw.size b5.size hS Vu;have⟨Vv,hO,VO,he,VP,Vr⟩:=Ad (more:=more) (nm:=Sf) rfl Vu Vs VN hf2;have z0:=VA.size;have Vx:ak w3 w5:=dU b4 b5;have⟨B6,N6⟩:=d8 w5 #[.slice oa more.length oc,aa 0] 73;have K5:=N3.G Vx N3.lt;have hlt3:=Vx.size
 have C6:Cx (w5.alloc (am #[.slice oa more.length oc,aa 0] 73)) (w5.heap.size+1) w5.heap.size more 0 (.slice va L.length vc) vs L:=
  ⟨⟨hr2,Vc,⟨_,N6,((hrow2.O λb _ l=>VA.block b l).O λb q l=>B6.block b l).V λb q _=>⟨Vc,Vc⟩⟩,λh=>h.2 rfl⟩,
   (((Vz.V (Y:=λb=>b<w3.heap.size) λb _ l=>l).O λb _ l=>Vx.block b l).O λb _ l=>B6.block b l).V λb q _=>⟨Vc,Vc⟩,
   ⟨Vp.1,λp fs v h1 h2=>(((((Vp.2 p fs v h1 h2).V (Y:=λb=>b<w3.heap.size) λb _ l=>l).O λb _ l=>Vx.block b l).O λb _ l=>B6.block b l).V λb q _=>⟨Vc,Vc⟩)⟩,Vc,Vd⟩
 have HM:=ru (w5.heap.size+1) w5.heap.size more (.slice va L.length vc) vs L Vs 7 Vc _ 0 0 C6 (by have:=Vs.few.1;omega) Vv;have hE:Hid _:=Vr;have VF:=hO.ln;generalize gS more L 7 0 0=X at*;obtain⟨m,q7⟩:=X;simp only at hO VO he VP Vr hE VF HM;have⟨k1,k2⟩:=(K5.G B6 (by have:=N3.lt;omega)).I;clear Vv Vr VN VM Vp hv Vz Vs hrow2;go_wp2_with fail;refine HM.V ?_;rintro e w8 ⟨mv,rfl,hm,g8,k8⟩;simp only at hm;obtain⟨ma,mc,rfl⟩:=hm.form;have e6:(w5.alloc (am #[.slice oa more.length oc,aa 0] 73)).heap.size=w5.heap.size+1:=Vd;have Bx:ak w5 w8:=B6.J (k8.to_below Vc λx hx=>by simp at hx;omega);have⟨L8,S8⟩:=L5.on Bx;have z8:=k8.size;have⟨B9,N9⟩:=d8 w8 #[.slice ma m.fs.length mc,ag m.unk] 49;have⟨L9,S9⟩:=L8.on B9;have VG:gP 9 _ (λb=>w5.heap.size<=b/\b<w8.heap.size) (.slice ma m.fs.length mc) m:=(hm.V (Y:=λb=>w5.heap.size<=b/\b<w8.heap.size) λb q l=>⟨Vc,l⟩).G B9 (aE _);have VB:=λR W (h:sG w sb kp mk bs R W) (way:Int) hw Z mv (hM:gP 9 W Z mv m) hZ=>h.enc Vu hu Sf way hw hM hZ hO Vc
 have VC:=λR W (h:sG w sb kp mk bs R W) (way:Int) hw Z mv (hM:gP 9 W Z mv m) hZ=>h.siz Vu hu Sf way hw hM hZ hO Vc
 have Vy:=λR W (h:sG w sb kp mk bs R W) (way:Int) hw=>h.dec Vu hu Sf (kj (ei bs) Sf m).1 Vc way hw
 rw[hE.o]at Vy;rw[he]at VB VC;simp only[Gn,Gp]at Vy;generalize(kj (ei bs) Sf m).1=C at*;have HE:Hid _:=VB;have HZ:Hid _:=VC;have HD:Hid _:=Vy;clear VB VC Vy hE he VP VO hO k1 k2 HM C6 L5 L8 S8 S9 hm g8 k8 Bx B6 N6 K5 N3 hS e6;go_wp2_with fail;generalize w8.alloc (am #[.slice ma m.fs.length mc,ag m.unk] 49)=w9 at*;go_loopw [12] (λkv wr=>∃(k:Nat) (R:ax),1<=k/\k<=3/\kv=aa k/\sG w sb kp mk bs R wr/\R w8.heap.size/\(∀b,w5.heap.size<=b/\b<w8.heap.size->R b)/\dX wr w8.heap.size #[.slice ma m.fs.length mc,ag m.unk] 49/\gP 9 wr (λb=>w5.heap.size<=b/\b<w8.heap.size) (.slice ma m.fs.length mc) m) (λkv _=>3-(intOf kv).toNat)
 case atStart=>exact⟨1,_,aE _,Vc,rfl,L9,.inr ⟨aE _,N9.lt⟩,λb q=> .inl (.inr q),N9,VG⟩
 case round=>
  clear L9 N9 VG;obtain⟨k,R,hk1,hk3,rfl,hL,Vt,Vq,hN,hM⟩:=hrel;by_cases hk:k<3
  .have hkI:(k:Int)<3:=Vc;have VH:(k:Int)=1\/(k:Int)=2:=Vc;have VX:(3:Int)-k=1\/(3:Int)-k=2:=Vc;have HX:=HE.o _ _ hL k VH _ _ hM Vq;have⟨k1,k2⟩:=hN.I;go_wp2_with fail;refine HX.V ?_;rintro e w10 ⟨rfl,Wd,VQ⟩;have VI:=VQ.blk hN Vt;have VJ:=VQ.mrn hM Vq;have HX:=HZ.o _ _ Wd k VH _ _ VJ Vq;clear k1 k2;have⟨k1,k2⟩:=VI.I;go_wp2_with fail;refine HX.V ?_;rintro e w11 ⟨rfl,We,VR⟩;have VY:=VR.blk VI Vt;have VZ:=VR.mrn VJ Vq;have HX:=HD.o _ _ We (3-(k:Int)) VX;clear k1 k2;go_wp2_with fail;refine HX.V ?_;rintro e Wf ⟨v4,Z4,rfl,VS,Wh,VT⟩;obtain⟨a4,c4,rfl⟩:=VS.form;have V0:=VT.blk VY Vt;have V7:=VT.mrn VZ Vq;have⟨Wk,Wl⟩:=d8 Wf #[.slice a4 m.fs.length c4,ag m.unk] 49;have⟨Wm,VE⟩:=Wh.on Wk;have VK:=VE.blk V0 (.inl Vt);have VL:=VE.mrn V7 λb q=> .inl (Vq b q)
   have V8:=VE.mrn VS λb q=> .inr q
   have HX:=Mz 9 _ _ _ _ _ _ V8 VL VF;have⟨k1,k2⟩:=VK.I;have⟨k3,k4⟩:=Wl.I;clear HE HZ HD;go_wp2_with fail;refine HX.V ?_;rintro e w15 ⟨rfl,Wn⟩;clear k1 k2 k3 k4 HX;have⟨Wo,VU⟩:=Wm.on Wn;have V9:=VU.blk VK (.inl (.inl Vt));have Wb:=VU.mrn VL λb q=> .inl (.inl (Vq b q))
   go_wp2;go_roundw
   case rel=>exact⟨k+1,_,Vc,Vc,by go_num,Wo,.inl (.inl (.inl Vt)),λb q=> .inl (.inl (.inl (Vq b q))),V9,Wb⟩
   case measure=>simp[intOf];omega
  .obtain rfl:k=3:=Vc;have bel:=hL.bel;go_wp2;go_ret;exact⟨rfl,bel⟩
end
section
open Go.ChangeShapes Go.WideShapes Go.ChangeAt Go.RowKit
def own:ownKnob prog.godebug=none:=Vh
def Nu:prog.globalNamed "strconv.ErrRange" =some 5:=Vh
def PO:(prog.globals[5]?).map (·.type)=some 354:=Vh
def Nv:prog.globalNamed "twinwire/model.baseWords" =some 0:=Vh
def PP:(prog.globals[0]?).map (·.type)=some 427:=Vh
def RY:prog.cellsOf 493=1:=Vh
def RZ:prog.cellsOf 427=15:=Vh
def S3: "*" ++ "errors.errorString" = "*errors.errorString" :=Vf
def T8 (u:TypeId)(h:prog.typeName? 3 u=some "*errors.errorString"):u=491:=
 typeName_ptr_named (nm:= "errors.errorString") (by rw[S3];kernel_rfl) Vh Vf u (by rw[S3];exact h)
def GM:Rows.laid_unicode_utf8_first=Lib.firstData:=Vh
def E8:(Rows.laid_unicode_utf8_acceptRanges:DataW Unit)=Lib.acceptData:=Vh
def gj {H:Type}{enc:TypeId×Value->H}{P:Program}{w:aw}{base:Nat}{sp:Nat->Bool}{held:Bool}{fuel:Nat}{t:TypeId}{c:Value}{y:DataW H×List MemPlace}
  (ht:P.underlying t=some .string) (h:DataW.trod enc P w base sp held fuel t [c]=some y):∃s,c=ag s/\y=(.lit (.string s.data.toList),[]):=by
 have⟨s,h1,h2,_⟩:=DataW.trod_string ht h;exact⟨s,List.cons.inj h1|>.1,h2⟩
def Nw {W:aw}(h:Lib.VarReads prog W "twinwire/model.baseWords" Rows.laid_twinwire_model_baseWords):BOK W:=by
 obtain⟨g,t,cs,fuel,p,hg,ht,Vp,hd⟩:=h;obtain rfl:=Option.some.inj (Nv.sy.J hg);obtain rfl:=Option.some.inj (PP.sy.J ht)
 have hb:cs=(Fe.map Value.string).toArray:=by
  obtain⟨l⟩:=cs
  cases fuel with
  |zero=>simp[DataW.trod]at hd
  |succ fuel=>
   simp only[DataW.trod,underlying427,RZ,IH]at hd;split at hd
   .rename_i hl
    obtain⟨c0,c1,c2,c3,c4,c5,c6,c7,c8,c9,c10,Vq,Vr,Sc,Sb,rfl⟩:∃c0 c1 c2 c3 c4 c5 c6 c7 c8 c9 c10 Vq Vr Sc Sb,l= [c0,c1,c2,c3,c4,c5,c6,c7,c8,c9,c10,Vq,Vr,Sc,Sb]:=by
     match l,hl with
     | [a0,a1,a2,a3,a4,a5,a6,a7,a8,a9,a10,a11,a12,a13,a14],_=>exact⟨a0,a1,a2,a3,a4,a5,a6,a7,a8,a9,a10,a11,a12,a13,a14,rfl⟩
    have e:List.range 15= [0,1,2,3,4,5,6,7,8,9,10,11,12,13,14]:=rfl;rw[e]at hd;simp only[bi,List.mapM_cons,List.mapM_nil,Option.bind_eq_bind,Option.bind_eq_some_iff,Option.pure_def,Option.some.injEq]at hd;obtain⟨xs,⟨y0,h0,_,⟨y1,h1,_,⟨y2,h2,_,⟨y3,h3,_,⟨y4,h4,_,⟨y5,h5,_,⟨y6,h6,_,⟨y7,h7,_,⟨y8,h8,_,⟨y9,h9,_,⟨y10,Vs,_,⟨y11,Vt,_,⟨y12,Vu,_,⟨y13,Vv,_,⟨y14,Vw,_,rfl,rfl⟩,rfl⟩,rfl⟩,rfl⟩,rfl⟩,rfl⟩,rfl⟩,rfl⟩,rfl⟩,rfl⟩,rfl⟩,rfl⟩,rfl⟩,rfl⟩,rfl⟩,hx⟩:=hd;obtain⟨n0,rfl,rfl⟩:=gj underlying9 h0;obtain⟨n1,rfl,rfl⟩:=gj underlying9 h1;obtain⟨n2,rfl,rfl⟩:=gj underlying9 h2;obtain⟨n3,rfl,rfl⟩:=gj underlying9 h3;obtain⟨n4,rfl,rfl⟩:=gj underlying9 h4;obtain⟨n5,rfl,rfl⟩:=gj underlying9 h5;obtain⟨n6,rfl,rfl⟩:=gj underlying9 h6;obtain⟨n7,rfl,rfl⟩:=gj underlying9 h7;obtain⟨n8,rfl,rfl⟩:=gj underlying9 h8;obtain⟨n9,rfl,rfl⟩:=gj underlying9 h9;obtain⟨n10,rfl,rfl⟩:=gj underlying9 Vs;obtain⟨n11,rfl,rfl⟩:=gj underlying9 Vt;obtain⟨n12,rfl,rfl⟩:=gj underlying9 Vu;obtain⟨n13,rfl,rfl⟩:=gj underlying9 Vv;obtain⟨n14,rfl,rfl⟩:=gj underlying9 Vw;simp[Rows.laid_twinwire_model_baseWords]at hx;obtain⟨⟨x0,x1,x2,x3,x4,x5,x6,x7,x8,x9,x10,x11,x12,Vx,x14⟩,_⟩:=hx;rw[jA x0,jA x1,jA x2,jA x3,jA x4,jA x5,jA x6,jA x7,jA x8,jA x9,jA x10,jA x11,jA x12,jA Vx,jA x14];rfl
   .cases hd
 intro i v hi;rw[World.var?_cell Nv (hb▸Vp) i];simpa using hi
def E9 {W:aw}(h:laidMetH prog Rows.backUptoRow.laid W):GOK W/\BOK W/\UOK W:=by
 rw[MakeChecks.laidMetH_plain _ _ _ Vh]at h;have hr:∀n d,(n,d)∈Rows.backUptoRow.laid->Lib.VarReads prog W n d:=λn d hm=>Lib.laidMet.reads h hm
 have h4:laidMet prog [("strconv.ErrRange",Rows.laid_strconv_ErrRange), ("strconv.ErrSyntax",Rows.laid_strconv_ErrSyntax), ("twinwire/model.baseWords",Rows.laid_twinwire_model_baseWords), ("unicode/utf8.first",Rows.laid_unicode_utf8_first)] W:=h.tail.tail.tail.tail;have⟨a,s,hv,_⟩:=laid_sentinel h4 Nu PO underlying354 T8 underlying491 underlying493 rfl rfl underlying9 RY IH;refine⟨⟨_,by simpa using World.var?_cell Nu hv 0,.inr ⟨_,_,rfl⟩⟩,Nw (hr _ _ (by simp[Rows.backUptoRow])),?_⟩;have r1:=hr "unicode/utf8.first" _ (.tail _ (.tail _ (.tail _ (.tail _ (.tail _ (.tail _ (.tail _ (.head _))))))));have r2:=hr "unicode/utf8.acceptRanges" _ (.tail _ (.tail _ (.tail _ (.head _))));rw[GM]at r1;rw[E8]at r2;exact utf8Tabs_of_readsT (U8Types.of196 Tryz.laysVs) ⟨Vh,Vh,Vh,Vh,Vh,Vh,Vh⟩ r1 r2
end
end Go.Proofs.YtfebdimolnobaaaGreatDoor
