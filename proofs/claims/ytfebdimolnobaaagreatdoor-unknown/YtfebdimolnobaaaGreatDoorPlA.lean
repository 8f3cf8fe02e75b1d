import Derived.Test.YtfebdimolnobaaaGreatDoorFnA
import Derived.Test.YtfebdimolnobaaaGreatDoorItD
import Derived.ChangeSlices
set_option maxRecDepth 100000
set_option maxHeartbeats 8000000
set_option linter.all false
namespace Go.Proofs.YtfebdimolnobaaaGreatDoor
open Go.RowKit Go.Proofs.Tryz
section
open Vo
def Dh (f:Nat):Value:= .func (.func f) #[] #[]
def Hz (k:Nat):Nat:=if eJ k=0 then 182 else if eJ k=5 then 352 else 353
def Eg (k:Nat):Option Nat:=
 if k=0\/k=9\/k=15 then some 347 else if k=2 then some 348 else if k=4 then some 349 else if k=5 then some 350 else if k=6 then some 351 else none
def nD (w:aw)(Q:ax)(k:Nat)(v:Value):Prop:=
 (Eg k=none/\v=Dh (Hz k))\/∃t nb bb,Eg k=some t/\v= .func (.func 447) #[] #[ah nb,ah bb]/\dX w nb #[Dh t] 423/\dX w bb #[Dh (Hz k)] 489/\Q nb/\Q bb
def nD.O {w w':aw}{Q:ax}{k:Nat}{v:Value}(h:nD w Q k v)(hk:∀b,Q b->b<w.heap.size->w'.heap[b]?=w.heap[b]?):nD w' Q k v:=by
 rcases h with h|⟨t,nb,bb,h1,h2,h3,h4,h5,h6⟩;.exact .inl h
 .exact .inr ⟨t,nb,bb,h1,h2,(hk nb h5 h3.lt).J h3,(hk bb h6 h4.lt).J h4,h5,h6⟩
def LK (w:aw)(f t:Nat):Calls prog 444 #[Dh f,Dh t] w λe w'=>∃nb bb,e= .returned (.func (.func 447) #[] #[ah nb,ah bb])/\
  dX w' nb #[Dh t] 423/\dX w' bb #[Dh f] 489/\w.heap.size<=nb/\w.heap.size<=bb/\ak w w':=by
 have hmf:= @wo;unfold Dh;go_in
 go_wp2;go_ret;exact⟨_,_,rfl,dX.newAt Vd _ _,(dX.new w _ _).alloc _,Vc,aE _,((Below.refl _ _).alloc (aE _) _).alloc Vd _⟩
def Sz (w:aw)(k:Nat)(e:Ending)(w':aw):Prop:=∃v,e= .returned v/\nD w' (λb=>w.heap.size<=b) k v/\ak w w'
def F8 (w:aw)(k:Nat)(hn:fj k=true):Calls prog 437 #[aa k] w (Sz w k):=by
 have hk:k=0\/k=1\/k=2\/k=3\/k=4\/k=5\/k=6\/k=7\/k=8\/k=9\/k=10\/k=11\/k=12\/k=15:=(by unfold fj at hn;simp at hn;omega);clear hn;have hT:∀f t,U8 444 #[.func (.func f) #[] #[],.func (.func t) #[] #[]] w _:=LK w;rcases hk with rfl|rfl|rfl|rfl|rfl|rfl|rfl|rfl|rfl|rfl|rfl|rfl|rfl|rfl
 all_goals
  go_in
  go_wp2_with (first|(go_at_call 444;refine(hT _ _).V ?_;rintro e w' ⟨nb,bb,rfl,h1,h2,h3,h4,h5⟩))
  go_ret
  first
   |exact⟨_,rfl,.inl ⟨Vf,rfl⟩,Below.refl _ _⟩
   |exact⟨_,rfl,.inr ⟨_,nb,bb,rfl,rfl,h1,h2,h3,h4⟩,h5⟩
section
variable (w:aw) {s:au} {a k:Nat} {x:Int×Nat}
theorem ec.ofDrew {bs:aB}{w w':aw}(h:ec bs w.drew w'):ec bs w w':=⟨h.os,h.tape,h.output,h.size,h.block⟩
def mE (v:Value)(args:ay)(w:aw)(R:Ending->aw->Prop):Prop:=∃(f:Nat) (cap:ay),v= .func (.func f) #[] cap.toArray/\(∀args w,(callFunc f args).run prog w= .ok (.enter f args) w)/\U8 f (args++cap).toArray w R
def uJ (s:au)(a k:Nat):Fx (Int×Nat):=if eJ k=0 then iT s a s.size else if eJ k=5 then jt s a 4 else jt s a 8
theorem I9 {x:Int×Int}(h:uJ s a k= .error x):jE s a k= .error x:=by
 unfold jE;unfold uJ at h;rw[h]
theorem LM (h:uJ s a k= .ok x):jE s a k= .ok (lC k x.1,x.2):=by
 unfold jE;unfold uJ at h;rw[h]
theorem OL (h:iT s a s.size= .ok x):0<=x.1/\x.1<2^64:=by
 obtain⟨n,z⟩:=x;have⟨v0,v1,v2,v3⟩:=jj h;exact⟨Vm,Vm⟩
def TB (n:Int):Int:=if 0<n then 1 else 0
theorem LN (n:Int)(h0:0<=n):U8 351 #[.int .u64 n] w λe w'=>e= .returned (.int .u64 (TB n))/\w'=w:=wD w n h0
theorem F9 (rb:Nat)(s:au)(a:Nat)(deep:Int)(k t nb bb:Nat)(h:ee w rb s a deep)(ha:a<=s.size)(hs:s.size<=2^47)(ht:Eg k=some t)(hn:dX w nb #[Dh t] 423)(hb:dX w bb #[Dh (Hz k)] 489)(hnr:nb≠rb)(hbr:bb≠rb):
  Calls prog 447 #[ah rb,ah nb,ah bb] w (pS w rb s deep (jE s a k) (Value.int .u64)):=by
 have hk:k=0\/k=2\/k=4\/k=5\/k=6\/k=9\/k=15:=by
  unfold Eg at ht;by_cases h1:k=0\/k=9\/k=15;.omega
  .rw[dO h1]at ht;by_cases h2:k=2;.omega
   .rw[dO h2]at ht;by_cases h3:k=4;.omega
    .rw[dO h3]at ht;by_cases h4:k=5;.omega
     .rw[dO h4]at ht;by_cases h5:k=6;.omega
      .rw[dO h5]at ht;cases ht
 have hV:=nr w.drew rb s a deep h hs;have hF:=BH w.drew rb s a deep h ha hs;have Vq:=hn.drew;have Vr:=hb.drew;have n0:=Vq.cell 0;have b0:=Vr.cell 0;obtain⟨r,HR⟩:∃r,Hid (jE s a k=r):=⟨_,rfl⟩;have HE:Hid (∀x,uJ s a k= .error x->r= .error x):=λx hx=>HR.o.sy.J (I9 hx)
 have HO:Hid (∀x,uJ s a k= .ok x->r= .ok (lC k x.1,x.2)):=λx hx=>HR.o.sy.J (LM hx)
 rw[HR.o];obtain⟨fb,Vt⟩:=Y9 (Hz k);have Vs:fb=if k=9 then 352 else 182:=(by rw[<-Vt];rcases hk with rfl|rfl|rfl|rfl|rfl|rfl|rfl<;>decide);rw[Vt]at b0;unfold Dh at n0 b0;rcases hk with rfl|rfl|rfl|rfl|rfl|rfl|rfl
 all_goals
  cases ht;simp at Vs;subst Vs;clear Vt;go_in
  go_upto_region 1 with fail
  go_region_held2 (λW=>W.cell? (aj nb 0)=w.drew.cell? (aj nb 0)/\W.cell? (aj bb 0)=w.drew.cell? (aj bb 0))
   (first|exact a1|exact⟨rfl,rfl⟩)
   (first
    |(
      go_at_call 182;refine hV.V ?_;intro e w1 hq;rcases hq.part with⟨x,hx,rfl,Vp⟩|⟨x,hx,rfl,Vp,Vu⟩;.obtain rfl:=HE.o x hx;unfold dY;go_wp2;exact⟨rfl,Vp.ofDrew,rfl⟩
      obtain rfl:=HO.o x hx;have⟨v0,v1⟩:=OL hx
      have a1:w1.cell? (aj nb 0)=w.drew.cell? (aj nb 0)/\w1.cell? (aj bb 0)=w.drew.cell? (aj bb 0):=⟨((Vq.kept Vp (by simpa using hnr)).cell 0).J (Vq.cell 0).sy,((Vr.kept Vp (by simpa using hbr)).cell 0).J (Vr.cell 0).sy⟩)
    |(
      go_at_call 352;refine hF.V ?_;intro e w1 hq;rcases hq.part with⟨x,hx,rfl,Vp⟩|⟨x,hx,rfl,Vp,Vu⟩;.obtain rfl:=HE.o x hx;unfold dY;go_wp2;exact⟨rfl,Vp.ofDrew,rfl⟩
      obtain rfl:=HO.o x hx
      have a1:w1.cell? (aj nb 0)=w.drew.cell? (aj nb 0)/\w1.cell? (aj bb 0)=w.drew.cell? (aj bb 0):=⟨((Vq.kept Vp (by simpa using hnr)).cell 0).J (Vq.cell 0).sy,((Vr.kept Vp (by simpa using hbr)).cell 0).J (Vr.cell 0).sy⟩)
    |(go_at_call 347;refine(pp _ _).V ?_;rintro e w2 ⟨rfl,rfl⟩)
    |(go_at_call 348;refine(sV _ _).V ?_;rintro e w2 ⟨rfl,rfl⟩)
    |(go_at_call 349;refine(Ks _ _).V ?_;rintro e w2 ⟨rfl,rfl⟩)
    |(go_at_call 350;refine(Fp _ _ v0 v1).V ?_;rintro e w2 ⟨rfl,rfl⟩)
    |(go_at_call 351;refine(LN _ _ v0).V ?_;rintro e w2 ⟨rfl,rfl⟩))
  go_wp2;go_ret;exact⟨Vp.ofDrew,rfl,Vu⟩
theorem SA {w:aw}{Q:ax}{v:Value}(hv:nD w Q k v)(rb:Nat)(s:au)(a:Nat)(deep:Int)(h:ee w rb s a deep)(ha:a<=s.size)(hs:s.size<=2^47)(hQ:¬Q rb)(hn:fj k=true):
  mE v [ah rb] w (pS w rb s deep (jE s a k) (Value.int .u64)):=by
 rcases hv with⟨ht,rfl⟩|⟨t,nb,bb,ht,rfl,h1,h2,q1,q2⟩
 .have hk:k=1\/k=3\/k=7\/k=8\/k=10\/k=11\/k=12:=by
   have Vv:k<=15:=by unfold fj at hn;simp at hn;omega
   have:∀j:Nat,j<=15->fj j=true->Eg j=none->j=1\/j=3\/j=7\/j=8\/j=10\/j=11\/j=12:=Vf;exact this k Vv hn ht
  have e:∀(r:Fx (Int×Nat)),(match r with| .error x=> .error x| .ok x=> .ok (x.1,x.2):Fx (Int×Nat))=r:=λr=>by cases r<;>rfl
  rcases hk with rfl|rfl|rfl|rfl|rfl|rfl|rfl;.exact⟨182,[],rfl,enters_of func182 Vh rfl,by have:=nr w rb s a deep h hs;rw[<-e (iT s a s.size)]at this;exact this⟩
  .exact⟨182,[],rfl,enters_of func182 Vh rfl,by have:=nr w rb s a deep h hs;rw[<-e (iT s a s.size)]at this;exact this⟩
  .exact⟨352,[],rfl,enters_of func352 Vh rfl,by have:=BH w rb s a deep h ha hs;rw[<-e (jt s a 4)]at this;exact this⟩
  .exact⟨353,[],rfl,enters_of func353 Vh rfl,by have:=wC w rb s a deep h ha hs;rw[<-e (jt s a 8)]at this;exact this⟩
  .exact⟨353,[],rfl,enters_of func353 Vh rfl,by have:=wC w rb s a deep h ha hs;rw[<-e (jt s a 8)]at this;exact this⟩
  .exact⟨352,[],rfl,enters_of func352 Vh rfl,by have:=BH w rb s a deep h ha hs;rw[<-e (jt s a 4)]at this;exact this⟩
  .exact⟨353,[],rfl,enters_of func353 Vh rfl,by have:=wC w rb s a deep h ha hs;rw[<-e (jt s a 8)]at this;exact this⟩
 .exact⟨447,[_,_],rfl,enters_of func447 Vh rfl,F9 w rb s a deep k t nb bb h ha hs ht h1 h2 (λe=>hQ (e▸q1)) (λe=>hQ (e▸q2))⟩
end
section
variable {w:aw} {Q:ax} {k:Nat} {v:Value}
def nE (w:aw)(Q:ax)(k:Nat)(v:Value):Prop:=
 (k=13/\v=Dh 435)\/(k=14/\v=Dh 436)\/(fj k=true/\∃nb nv,v= .func (.func 438) #[] #[ah nb]/\dX w nb #[nv] 489/\Q nb/\nD w Q k nv)
theorem nE.O {w':aw}(h:nE w Q k v)(hk:∀b,Q b->b<w.heap.size->w'.heap[b]?=w.heap[b]?):nE w' Q k v:=by
 rcases h with h|h|⟨h0,nb,nv,h1,h2,h3,h4⟩;.exact .inl h
 .exact .inr (.inl h)
 .exact .inr (.inr ⟨h0,nb,nv,h1,(hk nb h3 h2.lt).J h2,h3,h4.O hk⟩)
theorem nD.form (h:nD w Q k v):∃f cap,v= .func (.func f) #[] cap:=by
 rcases h with⟨_,rfl⟩|⟨t,nb,bb,_,rfl,_⟩;.exact⟨_,_,rfl⟩
 .exact⟨_,_,rfl⟩
theorem nD.V {Q':ax}(h:nD w Q k v)(hq:∀b,Q b->Q' b):nD w Q' k v:=by
 rcases h with h|⟨t,nb,bb,h1,h2,h3,h4,h5,h6⟩;.exact .inl h
 .exact .inr ⟨t,nb,bb,h1,h2,h3,h4,hq _ h5,hq _ h6⟩
def SB (w:aw)(k:Nat)(e:Ending)(w':aw):Prop:=∃v,e= .returned v/\nE w' (λb=>w.heap.size<=b) k v/\ak w w'
theorem AK (w:aw)(k:Nat)(pv:Value)(hk:k<=15):Calls prog 420 #[.agg #[aa k,pv]] w (SB w k):=by
 have hmf:= @wo;have B0:∀o,ak w (w.alloc o):=λo=>(Va w).alloc (aE _) o
 have KT:=dX.new w #[aa k,pv] 216;have⟨k1,k2⟩:=KT.I;by_cases h13:k=13
 .subst h13;go_in
  go_wp2;go_ret;exact⟨_,rfl,.inl ⟨rfl,rfl⟩,B0 _⟩
 .by_cases h14:k=14
  .subst h14;go_in
   go_wp2;go_ret;exact⟨_,rfl,.inr (.inl ⟨rfl,rfl⟩),B0 _⟩
  .have hn:fj k=true:=(by have:∀j:Nat,j<=15->j≠13->j≠14->fj j=true:=Vf;exact this k hk h13 h14);have e13:((k:Int)==13)=false:=Ve;have e14:((k:Int)==14)=false:=Ve;have hN:=F8 (w.U5 #[aa k,pv] 216) k hn;go_in
   go_wp2_with fail;refine hN.V ?_;rintro e w1 ⟨nv,rfl,Vp,Vq⟩;obtain⟨nf,ncap,rfl⟩:=Vp.form;go_wp2;go_ret;have C1:=dU (B0 _) Vq;refine⟨_,rfl,.inr (.inr ⟨hn,_,_,rfl,dX.new w1 _ _,C1.size,?_⟩),C1.alloc C1.size _⟩;exact(Vp.V (λb hb=>by simp at hb;omega)).O λb _ hl=>Below.l _ _ b hl
end
def Mn (kind kd:Int)(pk:Bool):Bool:=decide (kind=kd)||(decide (kind=2)&&pk)
def Mo (w:aw)(g i:Nat)(kind kd:Int)(pk:Bool)(h1:w.cell? (aj g (i+1))=some (aa kd))(h2:w.cell? (aj g (i+2))=some (.bool pk)):
  Calls prog 142 #[.pointer (some (aj g i)),aa kind] w λe w'=>e= .returned (.bool (Mn kind kd pk))/\ak w w':=by
 unfold Mn;by_cases e1:kind=kd
 .have b1:(kind==kd)=true:=by simp[e1]
  simp only[e1,decide_true,dl];rw[e1]at b1;subst e1;go_in
  go_wp2;go_ret;exact⟨rfl,Below.refl _ _⟩
 .have b1:(kind==kd)=false:=by simp[e1]
  simp only[e1,decide_false,dy];by_cases e2:kind=2
  .have b2:(kind==2)=true:=by simp[e2]
   simp only[e2,decide_true,dd];subst e2;go_in
   go_wp2;go_ret;exact⟨rfl,Below.refl _ _⟩
  .have b2:(kind==2)=false:=by simp[e2]
   simp only[e2,decide_false,cT];go_in
   go_wp2;go_ret;exact⟨rfl,Below.refl _ _⟩
end
section
variable {f:fo} {n:Int} {S:eD} {k:Nat} {t d:MT} {ahead:List PF}
structure SW (S:eD):Prop where
 name:∀d∈S.ms,gN d.name eS=false
 num:∀d∈S.ms,∀n f,d9 d.fs n=some f->1<=n/\n<=536870911
 sub:∀d∈S.ms,∀f∈d.fs,S.base f.ty=16<->(S.msg f.ty).isSome=true
 key:∀d∈S.ms,∀f∈d.fs,f.isMap=true->S.msg f.key=none/\(fj (S.base f.key)=true\/S.base f.key=13)/\iJ (S.base f.key)=fi jm f.key
def vg (S:eD)(d:MT):Prop:=d∈S.ms\/∃d'∈S.ms,∃f∈d'.fs,f.isMap=true/\d=eP f
theorem nI {g:fo}(h:d9 (eP f).fs n=some g):(n=1/\g=mT f)\/(n=2/\g=pF f):=by
 simp only[eP,d9]at h;split at h;.cases h;exact .inl ⟨Vc,rfl⟩
 .split at h;.cases h;exact .inr ⟨Vc,rfl⟩
  .cases h
theorem iO (f:fo):(mT f).isMap=false/\(pF f).isMap=false/\(mT f).isRep=false/\(pF f).isRep=false:=⟨lU.1,lU.1,lU.2.1,lU.2.1⟩
theorem jO (h:f.isMap=false):fB S f=S.base f.ty:=by unfold fB;rw[h];rfl
theorem lB (h:f.isMap=false):fy S f=S.msg f.ty:=by unfold fy;rw[h];rfl
theorem kF (h:f.isMap=true):fy S f=some (eP f):=by unfold fy;rw[h];rfl
theorem Qe (h:fj k=true\/k=13):k≠16:=by
 rcases h with h|h;.unfold fj at h;grind
 .omega
section
variable {S:eD} (hS:SW S) {d:MT}
include hS
theorem vg.num (h:vg S d)(hf:d9 d.fs n=some f):1<=n/\n<=536870911:=by
 rcases h with h|⟨d',hd,g,hg,hm,rfl⟩;.exact hS.num d h n f hf
 .rcases nI hf with⟨rfl,_⟩|⟨rfl,_⟩<;>exact⟨Vc,Vc⟩
theorem vg.subF (h:vg S d)(hf:d9 d.fs n=some f):Pq S f:=by
 unfold Pq;rcases h with h|⟨d',hd,g,hg,hm,rfl⟩
 .cases hM:f.isMap with
  |true=>rw[zp hM,kF hM];simp
  |false=>rw[jO hM,lB hM];exact hS.sub d h f (fA hf).2
 .rcases nI hf with⟨_,rfl⟩|⟨_,rfl⟩;.have⟨k1,k2,_⟩:=hS.key d' hd g hg hm;rw[jO (iO g).1,lB (iO g).1];show S.base g.key=16<->(S.msg g.key).isSome=true;rw[k1];have:=Qe k2;simp[this]
  .rw[jO (iO g).2.1,lB (iO g).2.1];exact hS.sub d' hd g hg
omit hS in
theorem vg.sub (h:vg S d)(hf:d9 d.fs n=some f)(ht:fy S f=some t):vg S t:=by
 cases hM:f.isMap with
 |false=>rw[lB hM]at ht;exact .inl (jw ht)
 |true=>
  rw[kF hM]at ht;cases ht;rcases h with h|⟨d',hd,g,hg,hm,rfl⟩;.exact .inr ⟨d,h,f,(fA hf).2,hM,rfl⟩
  .rcases nI hf with⟨_,rfl⟩|⟨_,rfl⟩;.rw[(iO g).1]at hM;cases hM
   .rw[(iO g).2.1]at hM;cases hM
theorem RA {dp:Nat}(h:vg S t)(hd:dp<=8)(he:∀f,t=eP f->dp=8->(S.msg f.ty).isSome=false):pR S t dp=false:=by
 unfold pR;split;.simp;omega
 .rename_i hc;simp only[cM,cO,not_or,Bool.not_eq_false,bne_iff_ne,ne_eq,Decidable.not_not]at hc;obtain⟨h1,h2⟩:=hc;rcases h with h|⟨d',_,g,_,_,rfl⟩;.rw[hS.name t h]at h1;cases h1
  .exact he g rfl h2
end
theorem CO {x:Nat}:∀{l:aB},x∈l->x<=l.sum
 |y::l,h=>by
  rw[cH];rcases aS.1 h with rfl|h;.omega
  .have:=CO h;omega
theorem Iu {t:au}{x y:PV}(hx:0<=x.1/\x.1<2^64/\(gN t lD=true->x.1=0)/\(gN t lD=false->x.2.1=eS))(hy:0<=y.1/\y.1<2^64/\(gN t lD=true->y.1=0)/\(gN t lD=false->y.2.1=eS)):
  (kN t x y=true<->lG (ko t x) (ko t y))/\(iC x y=true->jF (ko t x) (ko t y)):=by
 obtain⟨a1,a2,a4,a5⟩:=hx;obtain⟨b1,b2,b4,b5⟩:=hy;refine⟨?_,λh=> ?_⟩
 .unfold kN lG ko
  cases hs:gN t lD with
  |true=>
   simp_all
  |false=>
   rw[a5 hs,b5 hs];have e:¬Op.bytesLess eS.toList eS.toList=true:=Vg;simp only[e,and_false,or_false,aU,if_false]
   cases fi jm t with
   |true=>
    simp only[if_true,dQ];unfold Du
    split<;>split<;>omega
   |false=>simp
 .unfold iC at h;simp only[aQ,dQ,gO]at h;unfold jF ko;simp_all
theorem tT {sg:Bool}:∀{l:List PV} {last:Option LV},jG sg last l=true->(∀e∈l,(e.2.2.fs.length==2)=true/\ou e.2.2.unk=true)/\l.Pairwise (λx y=>lG (tF sg x) (tF sg y))/\∀k,last=some k->∀e∈l,lG k (tF sg e)
 | [],_,_=>⟨λe h=>by grind,.nil,λk _ e h=>by grind⟩
 |x::l,last,h=>by
  unfold jG at h;simp only[aQ]at h;obtain⟨⟨⟨h1,h2⟩,h3⟩,h4⟩:=h;have⟨i1,i2,i3⟩:=tT h4;refine⟨λe he=> ?_,.cons (λy hy=>i3 _ rfl y hy) i2,λk hk e he=> ?_⟩;.grind
  .subst hk;have h3:lG k (tF sg x):=(Cg _ _).1 (of_decide_eq_true h3);rcases aS.1 he with rfl|he;.exact h3
   .exact kc h3 (i3 _ rfl e he)
theorem Zt {m:PM}(hw:wY (k+1) m<=2^47):∀x∈m.fs,(x.2.map λv=>30+v.2.1.size+wY k v.2.2).sum<=2^47:=λx hx=>by
 rw[wY]at hw;have:30+(x.2.map λv=>30+v.2.1.size+wY k v.2.2).sum<=(m.fs.map λx=>30+(x.2.map λv=>30+v.2.1.size+wY k v.2.2).sum).sum:=CO (aR.2 ⟨x,hx,rfl⟩);omega
section
variable {S:eD} (hS:SW S)
include hS
theorem MZ {k':Nat}{l:List PV}(hd:vg S d)(hf:d9 d.fs n=some f)(hM:f.isMap=true)(hL:fE S (dZ S k) f l=true)(hO:∀v∈l,pP k' v.2.2):
  (∀v∈l,gA v.2.2=v.2.2)/\(l.Pairwise λx y=>kN f.key (fQ y) (fQ x)=false/\iC (fQ y) (fQ x)=false)/\(k=1->l≠ []->(S.msg f.ty).isSome=false):=by
 have Vt:d∈S.ms:=by
  rcases hd with h|⟨d',hd,g,hg,hm,rfl⟩;.exact h
  .rcases nI hf with⟨_,rfl⟩|⟨_,rfl⟩;.rw[(iO g).1]at hM;cases hM
   .rw[(iO g).2.1]at hM;cases hM
 have⟨k1,k2,k3⟩:=hS.key d Vt f (fA hf).2 hM;unfold fE ku at hL;rw[dP hM,k3]at hL;simp only[aQ,cg]at hL;obtain⟨⟨_,hV⟩,VA⟩:=hL;have⟨e1,e2,_⟩:=tT VA
 have hR:∀v∈l,dZ S k (eP f) v.2.2=true:=λv hv=>by
  have:=hV v hv;unfold eC at this;rw[dP (zp hM),kF hM]at this;simp_all
 cases k with
 |zero=>
  have:∀v∈l,False:=λv hv=>by have:=hR v hv;cases this
  cases l with
  |nil=>simp
  |cons v l=>grind
 |succ k=>
  have Vq:=λv hv=>Bf (hR v hv) (e1 v hv).1 (e1 v hv).2
  have Vp:∀v∈l,tF (fi jm f.key) v=ko f.key (fQ v)/\0<=(fQ v).1/\(fQ v).1<2^64/\(gN f.key lD=true->(fQ v).1=0)/\(gN f.key lD=false->(fQ v).2.1=eS):=λv hv=>by
   have⟨x,y,ev,hx,_⟩:=Vq v hv;have Vr:fQ v=x:=by unfold fQ;rw[ev];rfl
   have Vx:QV v=x:=by unfold QV;rw[ev];rfl
   have hr:0<=x.1/\x.1<2^64:=by
    have:=hO v hv;rw[ev]at this
    cases k' with
    |zero=>exact this.elim
    |succ k'=>
     have:=(this.2.2 (1,[x]) (by simp[PM.fs])).2 x aZ;omega
   have eb:fB S (mT f)=S.base f.key:=jO (iO f).1;refine⟨by unfold tF FL ko;rw[Vx,Vr],by simp_all,by simp_all,λhs=> ?_,λhs=> ?_⟩;.rw[Vr];have h13:fB S (mT f)=13:=eb.J (mh.2 hs);unfold eC at hx;grind
   .rw[Vr]
    have Vs:fj (fB S (mT f))=true:=by
     rw[eb];rcases k2 with h|h;.exact h
     .rw[mh.1 h]at hs;cases hs
    exact dS Prod.fst (rx Vs hx).1
  refine⟨λv hv=> ?_,e2.imp_of_mem fun{x y} hx hy h=> ?_,λhk hne=> ?_⟩;.have⟨x,y,ev,_⟩:=Vq v hv;rw[ev,EP]
  .have⟨ex,hx⟩:=Vp x hx;have⟨ey,hy⟩:=Vp y hy;have⟨q1,q2⟩:=Iu hy hx;rw[ex,ey]at h;constructor
   .cases hc:kN f.key (fQ y) (fQ x)with
    |false=>rfl
    |true=>exact absurd (kc h (q1.1 hc)) (pw _)
   .cases hc:iC (fQ y) (fQ x)with
    |false=>rfl
    |true=>exact absurd (q2 hc).sy (lN h)
  .obtain rfl:k=0:=Vc
   cases l with
   |nil=>simp_all
   |cons v l=>
    have⟨x,y,_,_,hy⟩:=Vq v aZ
    cases hc:(S.msg f.ty).isSome with
    |false=>rfl
    |true=>
     have Vy:fB S (pF f)=16:=(jO (iO f).2.1).J ((hS.sub d Vt f (fA hf).2).2 hc);have⟨t,ht⟩:=cn.1 hc;unfold eC at hy;rw[dP Vy,lB (iO f).2.1]at hy;rw[show S.msg (pF f).ty=some t from ht]at hy;simp only[aQ]at hy;cases hy.2
theorem Zu {n deep:Nat}{x:PF}{u:au}(hn:n+1+deep=9)(hd:vg S d)
  (ih:∀t m,vg S t->dZ S n t m=true->pP k m->wY k m<=2^47->rd S (bl (eG S n t m)) t PM.none (deep+1)= .ok m)
  (hx1:(match d9 d.fs x.1 with|none=>false|some f=>kC (lF d f) x.1 ahead&&fE S (dZ S n) f x.2)=true)
  (hOx:∀v∈x.2,0<=v.1/\v.1<2^64/\v.2.1.size<=1099511627776/\pP k v.2.2) (hsum:(x.2.map λv=>30+v.2.1.size+wY k v.2.2).sum<=2^47):
  rd S (bl (ki S (eG S n) d x)) d (.mk ahead u) deep= .ok (.mk (ahead++ [x]) u):=by
 have Vz:∀v∈x.2,wY k v.2.2<=2^47:=λv hv=>by
  have:30+v.2.1.size+wY k v.2.2<=(x.2.map λv=>30+v.2.1.size+wY k v.2.2).sum:=CO (aR.2 ⟨v,hv,rfl⟩);omega
 cases hf:d9 d.fs x.1 with
 |none=>simp_all
 |some f=>
  rw[hf]at hx1;simp only[aQ]at hx1;obtain⟨VB,hL⟩:=hx1;have⟨VC,VD⟩:=hd.num hS hf;unfold ki;rw[hf];refine MX VC VD hf (hd.subF hS hf) VB hL (λv hv=> ?_) ?_ (λv hv t ht hR=> ?_) (λhM=> ?_);.grind
  .have h1:(x.2.flatMap λv=>gm S (eG S n) f v).length<=(x.2.map λv=>30+v.2.1.size+wY k v.2.2).sum:=qE λv hv=>by
    have:=Cv (S:=S) (f:=f) (R:=eG S n) (v:=v) (W:=wY k v.2.2) λt=>qF n k t v.2.2 (hOx v hv).2.2.2
    omega
   omega
  .have hn1':n≠0:=(by rintro rfl;cases hR);have Vu:=hd.sub hf ht;refine⟨ih t v.2.2 Vu hR (hOx v hv).2.2.2 (Vz v hv),RA hS Vu Vc (λg hg h8=> ?_),?_⟩
   .have hM:f.isMap=true:=by
     cases hM:f.isMap with
     |true=>rfl
     |false=>
      exfalso;rw[lB hM]at ht;have:=hS.name t (jw ht);rw[hg]at this;have this:gN eS eS=false:=this
      revert this;decide+kernel
    rw[kF hM]at ht;have e:=Option.some.inj ht;rw[hg]at e
    have e2:f.ty=g.ty:=by
     have:=dS (λq:MT=>q.fs.map (·.ty)) e;simp[eP]at this;simp_all
    rw[<-e2];exact(MZ hS hd hf hM hL (λv hv=>(hOx v hv).2.2.2)).2.2 Vc (List.ne_nil_of_mem hv)
   .have:=qF (S:=S) n k t v.2.2 (hOx v hv).2.2.2;grind
  .have:=MZ hS hd hf hM hL (λv hv=>(hOx v hv).2.2.2);grind
theorem CP:∀(n deep:Nat) (d:MT) (m:PM) (k:Nat),n+deep=9->vg S d->dZ S n d m=true->pP k m->wY k m<=2^47->rd S (bl (eG S n d m)) d PM.none deep= .ok m
 |0,_,_,_,_,_,_,h,_,_=>by cases h
 |_+1,_,_,_,0,_,_,_,h,_=>h.elim
 |n+1,deep,d,m,k+1,hn,hd,h,hO,hw=>by
  rw[dZ]at h;simp only[aQ]at h;obtain⟨hX,hU⟩:=h
  have fields:∀(l ahead:List PF),(∀x∈l,x∈m.fs)->gU S (dZ S n) d ahead l=true->rd S (bl (l.flatMap (ki S (eG S n) d))) d (.mk ahead eS) deep= .ok (.mk (ahead++l) eS):=λl=>by
   induction l with
   |nil=>
    intro ahead _ _;rw[bW]
    rfl
   |cons x l VE=>
    intro ahead Vw hx;rw[gU]at hx;simp only[aQ]at hx;obtain⟨hx1,VF⟩:=hx;have Vv:=Vw x aZ;rw[bt,pB];have:=VE (ahead++ [x]) (λy hy=>Vw y (aY _ hy)) VF;rw[bj]at this;exact Gs (Zu hS hn hd (λt m ht h1 h2 h3=>CP n (deep+1) t m k Vc ht h1 h2 h3) hx1 (hO.2.2 x Vv).2 (Zt hw x Vv)) this
  rw[eG,pB];refine Gs (fields m.fs [] (λ_ h=>h) hX) ?_;rw[CE,Rz hU];obtain⟨fs,u⟩:=m;show Except.ok (PM.mk fs (eS++u))=_;have:eS++u=u:=jz Vi;rw[this]
end
end
def Sd (d:MT)(y x:PF):Prop:=y.1<x.1/\∀f,d9 d.fs x.1=some f->y.1∉lF d f
def kn (S:eD)(R:MT->PM->Bool)(d:MT)(x:PF):Prop:=∃f,d9 d.fs x.1=some f/\fE S R f x.2=true
def pG {S:eD}{R:MT->PM->Bool}{d:MT}:∀{l a:List PF},gU S R d a l=true<->(∀x∈l,kn S R d x)/\l.Pairwise (Sd d)/\∀y∈a,∀x∈l,Sd d y x
 | [],a=>by simp[gU]
 |x::l,a=>by
  rw[gU,aQ,pG]
  have hx:(match d9 d.fs x.1 with|none=>false|some f=>kC (lF d f) x.1 a&&fE S R f x.2)=true<->kn S R d x/\∀y∈a,Sd d y x:=by
   unfold kn Sd
   cases hf:d9 d.fs x.1 with
   |none=>simp
   |some f=>
    simp only[aQ,kC,cg,dQ,cO,decide_eq_false_iff_not,Option.some.injEq];grind
  refine(and_congr hx Iff.rfl).J ?_;rw[bu];grind
section
variable {n:Int} {vs:List PV}
end
def ry:∀{fs:List fo} {f:fo},(fs.map (·.num)).Nodup->f∈fs->d9 fs f.num=some f
 |g::fs,f,h,hf=>by
  rw[bK,List.nodup_cons]at h;rcases aS.1 hf with rfl|hf;.rw[d9,dP rfl]
  .rw[d9,dO (λe=>h.1 (aR.2 ⟨f,hf,e.sy⟩)),ry h.2 hf]
def CQ {a b:au}(h:gN a b=true):a=b:=by
 refine jz ?_;rw[gO,ByteArray.toList_eq,ByteArray.toList_eq]at h;exact h
section
variable {d:MT} (hd:(d.fs.map (·.num)).Nodup)
def tU {f:fo}{k:Int}:k∈lF d f<->∃o∈d.fs,o.num=k/\o.how=f.how/\i8 f.how=true/\k≠f.num:=by
 unfold lF;rw[aR];constructor;.rintro⟨o,ho,rfl⟩;rw[bA]at ho;simp only[aQ,dQ]at ho;obtain⟨h1,⟨h2,h3⟩,h4⟩:=ho;have e:=CQ h2;grind
 .rintro⟨o,ho,rfl,e,h3,h4⟩;refine⟨o,bA.2 ⟨ho,?_⟩,rfl⟩;simp only[aQ,dQ];exact⟨⟨by rw[gO,e],by simp_all⟩,h4⟩
include hd
end
section
variable {b:au}
end
section
variable {fit:Int->Int->Bool}
def nJ {s:au}{G a:Nat}(hl:a<s.size):nQ fit s (G+1) a=true<->∃r,fN s a s.size= .ok r/\fit r.num r.kind=false/\nQ fit s G r.e=true:=by
 have hQ:fN s a s.size=match jW s a with| .error x=> .error x| .ok x=>fM s a x.1.1 x.1.2 x.2:=(by rw[<-wG (aE _),CN,qW];rfl)
 rw[nQ,dP hl,hQ];unfold OM
 cases ht:jW s a with
 |error x=>simp
 |ok x=>
  simp only[aQ,cO];unfold L0;rw[qX s a x.1.1]
  cases hr:fM s a x.1.1 x.1.2 x.2 with
  |error y=>simp
  |ok r=>
   have⟨r1,r2,_⟩:=Is (EO ht) hr;simp_all
def Iv {t:au}{r:pK}(h:fN t 0 t.size= .ok r)(he:r.e=t.size)(hf:fit r.num r.kind=false):pT fit t=true:=by
 have⟨_,_,q3,_,_,_⟩:=je h;refine(nJ Vc).2 ⟨r,h,hf,?_⟩
 cases hs:t.size with
 |zero=>omega
 |succ k=>rw[nQ,dO Vc]
end
def pQ:Nat->PM->Prop
 |0,_=>False
 |k+1,m=>∀x∈m.fs,∀v∈x.2,0<=v.1/\v.1<2^64/\pQ k v.2.2
abbrev Dk (k:Nat)(v:PV):Prop:=0<=v.1/\v.1<2^64/\pQ k v.2.2
def pQ.none (k:Nat):pQ (k+1) PM.none:=λx hx=>by simp[PM.none,PM.fs]at hx
def EQ:ou eS=true:=Vg
def GA:zD PM.none=true:=Vg
section
variable {S:eD} {R:MT->PM->Bool} {b:au} {f:fo} {r:pK} {a e:Nat}
end
section
variable {S:eD}
def Pt (f g:fo)(h:g=mT f\/g=pF f):lF (eP f) g= []:=by
 have hh:i8 g.how=false:=(by rcases h with rfl|rfl<;>exact(by rfl:i8 lK=false))
 cases hr:lF (eP f) g with
 |nil=>rfl
 |cons k l=>
  have⟨_,_,_,_,h3,_⟩:=tU.1 (show k∈lF (eP f) g by simp_all);simp_all
def ER {R:MT->PM->Bool}{f:fo}{x y:PV}(hx:eC S R (mT f) x=true)(hy:eC S R (pF f) y=true):gU S R (eP f) [] [(1,[x]),(2,[y])]=true:=by
 have f1:d9 (eP f).fs 1=some (mT f):=rfl;have f2:d9 (eP f).fs 2=some (pF f):=rfl
 have one:∀g z,g=mT f\/g=pF f->eC S R g z=true->fE S R g [z]=true:=λg z hg hz=>by
  have e1:g.isMap=false:=by rcases hg with rfl|rfl<;>exact lU.1
  have e2:gN g.how eS=false:=by rcases hg with rfl|rfl<;>exact lU.2.2
  unfold fE nP ku;simp_all
 refine pG.2 ⟨λz hz=> ?_,?_,λy hy=>by simp at hy⟩
 .simp only[aS,bX,or_false]at hz;rcases hz with rfl|rfl;.exact⟨_,f1,one _ _ (.inl rfl) hx⟩
  .exact⟨_,f2,one _ _ (.inr rfl) hy⟩
 .simp only[bu,ba,forall_eq,bX,false_implies,implies_true,List.Pairwise.nil,and_true];refine⟨Vc,λg hg=> ?_⟩;have hg:d9 (eP f).fs 2=some g:=hg;rw[f2]at hg;cases hg;rw[Pt f _ (.inr rfl)];simp
end
def CR {sg:Bool}:∀{l:List PV} {last:Option LV},(∀e∈l,(e.2.2.fs.length==2)=true/\ou e.2.2.unk=true)->l.Pairwise (λx y=>lG (tF sg x) (tF sg y))->(∀k,last=some k->∀e∈l,lG k (tF sg e))->jG sg last l=true
 | [],_,_,_,_=>Vi
 |x::l,last,h1,h2,h3=>by
  rw[bu]at h2;unfold jG;simp only[aQ];refine⟨⟨h1 x aZ,?_⟩,CR (λe he=>h1 e (aY _ he)) h2.2 λk hk e he=>by simp_all⟩
  cases last with
  |none=>rfl
  |some k=>exact decide_eq_true ((Cg _ _).2 (h3 k rfl x aZ))
section
open Go.ChangeShapes Go.WideShapes Go.RowKit Go.Deep Go.Proofs.YtfebdimolnobaaaGreatDoor.Rows
def Dc (a:Addr)(i:Nat):(a.add i).block=a.block:=by unfold Addr.add;split<;>rfl
def E7 {H:Type}{enc:TypeId×Value->H}{w:aw}{a:aC}{n c:Nat}{d:DataW H}{ps:List MemPlace}(h:DataW.Trod enc prog w 0 (λ_=>true) true 35 (.slice a n c) d ps):
  ∃raw:ar,(∀x∈raw,JC x)/\raw.length<=uptoBulk d/\ix w (λb=>b<w.heap.size) (.slice a n c) raw.length (raw.map λx=>aa x):=by
 obtain⟨fuel,hf⟩:=h;rcases open_ints underlying35 underlying3 Ns hf with⟨hc,hx⟩|⟨a',len,cap,zs,hc,_,hl,_,hz,hx,Vp,Vq⟩
 .have e:(Value.slice a n c)=ai:=List.cons.inj hc|>.1
  cases e;exact⟨[],λx h=>(by cases h),aP _,none,0,rfl,aE _,λh=>absurd h Vf⟩
 .have e:(Value.slice a n c)= .slice (some a') len cap:=List.cons.inj hc|>.1
  cases e;have hz:zs.length=c:=hz;have hlen:(zs.take n).length=n:=by rw[bM];omega
  have hb:=EZ (lits .i64 (zs.take n):List (DataW H));have hd:d= .slice (lits .i64 (zs.take n)) (lits .i64 (zs.drop n)):=dS Prod.fst hx;refine⟨zs.take n,λx hx=>RX (Vq x (List.mem_of_mem_take hx)),?_,some a',c,by rw[hlen],Vc,λhn=> ?_⟩
  .rw[hd,uptoBulk];have:(lits .i64 (zs.take n):List (DataW H)).length=(zs.take n).length:=by simp[lits]
   omega
  .have h0:=Vp 0 Vc;refine⟨a',rfl,by have:=aV _ _ h0;rwa [Dc]at this,by have:=aV _ _ h0;rwa [Dc]at this,λw' hw p u hu=> ?_⟩;rw[aT]at hu;obtain⟨x,hx,rfl⟩:=bi.1 hu;obtain⟨hp,rfl⟩:=bn.1 hx;rw[hlen]at hp;have:=Vp p Vc;rw[bC (w:=w) (by rw[Dc];exact hw),this,List.getElem_take,cr,aO Vc];rfl
end
end Go.Proofs.YtfebdimolnobaaaGreatDoor
