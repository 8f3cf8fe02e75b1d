import Derived.Test.YtfebdimolnobaaaGreatDoorPlT
set_option maxRecDepth 100000
set_option maxHeartbeats 8000000
set_option linter.all false
namespace Go.Proofs.YtfebdimolnobaaaGreatDoor
open Go.RowKit
section
attribute [local go_sem↓] Go.wp_at_zero Go.wp_at_succ
section
variable {S:dG} {R:MT->PM->Bool} {f:ek} {l:List PV}
theorem CM (n:Nat):((n==1)||decide (1<n))=decide (0<n):=by
 rw[b8];simp;omega
theorem D3 (hm:f.isMap=false)(hr:f.isRep=false)(hz:¬(gy f.how eS=true/\fB S f≠16)):fL S R f l=((l.length==1)&&l.all (dZ S R f)):=by
 unfold fL xJ oW;rw[hm,hr,if_neg hz];simp
theorem D4 (hm:f.isMap=false)(hr:f.isRep=false)(hz:gy f.how eS=true/\fB S f≠16):fL S R f l=((l.length==1)&&l.all fun x=> !(decide (x.1=0)&&qS x.2.1)&&dZ S R f x):=by
 unfold fL xJ oW;rw[hm,hr,if_pos hz]
 by_cases h1:l.length=1
 ·obtain⟨x,rfl⟩:=List.length_eq_one_iff.1 h1;simp[Bool.and_comm]
 ·have e:(l.length==1)=false:=by simpa using h1
  simp[e]
theorem D5 (hm:f.isMap=false)(hr:f.isRep=true)(hz:gy f.how eS=false):fL S R f l=(decide (0<l.length)&&l.all (dZ S R f)):=by
 unfold fL xJ oW;rw[hm,hr,hz,<-CM];simp
theorem D6 (hm:f.isMap=true):fL S R f l=((decide (0<l.length)&&l.all (dZ S R f))&&iB (iT (S.base f.key)) none l):=by
 unfold fL xJ oW;rw[hm,<-CM];simp
theorem Iv.as {q q':List PV->Bool}{n g:Nat}{cap:aq}{W:an}(h:Iv q n g cap W)(he:∀l,q' l=q l):Iv q' n g cap W:=by
 obtain rfl:q'=q:=funext he;exact h
end
def rJ (k:Nat):Nat:=if k=0\/k=4\/k=9\/k=15 then 347 else if k=2\/k=7\/k=11 then 348 else if k=6 then 351 else 411
def Gu (k:Nat)(x:Int):Int:=if k=0\/k=4\/k=9\/k=15 then qy x else if k=2\/k=7\/k=11 then x%4294967296 else if k=6 then(if 0<x then 1 else 0)else x
theorem ur (a b:Int):(a==b)=(b==a):=by rw[b8];simp;exact eq_comm
theorem Ky (k:Nat)(x:Int):(Gu k x==x)=Ir k x:=by
 unfold Gu Ir
 split
 ·exact ur _ _
 ·split
  ·exact ur _ _
  ·split
   ·exact ur _ _
   ·simp
theorem BA (k:Nat):∀args w,(callFunc (rJ k) args).run Tryz.prog w= .ok (.enter (rJ k) args) w:=by
 unfold rJ
 split
 ·exact enters_of Tryz.func347 (by kernel_rfl) rfl
 ·split
  ·exact enters_of Tryz.func348 (by kernel_rfl) rfl
  ·split
   ·exact enters_of Tryz.func351 (by kernel_rfl) rfl
   ·exact enters_of Tryz.func411 (by kernel_rfl) rfl
theorem D7 (k:Nat)(W:an)(x:Int)(h0:0<=x):Calls Tryz.prog (rJ k) #[.int .u64 x] W fun e w'=>e= .returned (.int .u64 (Gu k x))/\W=w':=by
 unfold rJ Gu
 split
 ·exact(jm W x).mono fun _ _ h=>⟨h.1,h.2.symm⟩
 ·split
  ·exact(pS W x).mono fun _ _ h=>⟨h.1,h.2.symm⟩
  ·split
   ·exact(sk W x h0).mono fun _ _ h=>⟨h.1,h.2.symm⟩
   ·go_enter Tryz.func411,Tryz.ntmps411
    go_wp2;go_ret;exact⟨rfl,rfl⟩
theorem Kp.back {Q:ap}{w w' W:an}(h:Kp Q w' W)(b:aj w w'):Kp Q w W:=fun i q hi=>(h i q (aC hi b.size)).trans (b.block i hi)
theorem Kp.less {Q Q':ap}{w W:an}(h:Kp Q w W)(hq:∀b,Q' b->Q b):Kp Q' w W:=fun i q hi=>h i (hq i q) hi
section
variable (w:an)
theorem Md (k:Nat)(hk:k<=16):Calls Tryz.prog 363 #[aa k] w fun e w'=>e= .returned (.func (.func (rJ k)) #[] #[])/\w=w':=by
 rcases vZ hk with rfl|rfl|rfl|rfl|rfl|rfl|rfl|rfl|rfl|rfl|rfl|rfl|rfl|rfl|rfl|rfl|rfl
 all_goals
  go_enter Tryz.func363,Tryz.ntmps363
  go_wp2;go_ret;exact⟨rfl,rfl⟩
theorem rX (k:Nat)(pq iq:aw)(hk:k<=16):Calls Tryz.prog 284 #[.agg #[aa k,.pointer pq],.pointer iq] w (g8 w fun w' v=>LU w' (fun b=>w.heap.size<=b) k iq v):=by
 have N3:= @rh;have hC:=fun W=>Md W k hk
 obtain⟨B0,K1,K2⟩:=eD w #[aa k,.pointer pq] #[.pointer iq] 216 116;obtain⟨k1,k2⟩:=K1.rules
 by_cases h16:k=16
 ·subst h16;go_enter Tryz.func284,Tryz.ntmps284
  go_wp2;go_ret;refine⟨_,rfl,⟨360,[ag (w.heap.size+1)],⟨rfl,enters_of Tryz.func360 (by kernel_rfl) rfl⟩,fun S fl n W hK hb hu N2=> ?_⟩,B0⟩;obtain⟨t,h1,h2⟩:=N2 hb;exact MG _ iq t (hK.bx (by omega) K2) h2 hb h1
 ·by_cases h13:k=13
  ·subst h13;go_enter Tryz.func284,Tryz.ntmps284
   go_wp2;go_ret;exact⟨_,rfl,⟨361,[],⟨rfl,enters_of Tryz.func361 (by kernel_rfl) rfl⟩,fun S fl n W hK hb hu N2=>MH hu hb⟩,B0⟩
  ·by_cases h14:k=14
   ·subst h14;go_enter Tryz.func284,Tryz.ntmps284
    go_wp2;go_ret;exact⟨_,rfl,⟨362,[],⟨rfl,enters_of Tryz.func362 (by kernel_rfl) rfl⟩,fun S fl n W hK hb hu N2=>MJ hb⟩,B0⟩
   ·have e16:((k:Int)==16)=false:=by simp;omega
    have e13:((k:Int)==13)=false:=by simp;omega
    have e14:((k:Int)==14)=false:=by simp;omega
    go_enter Tryz.func284,Tryz.ntmps284
    go_wp2_with fail
    refine(hC _).mono ?_;rintro e w2 ⟨rfl,rfl⟩;go_wp2;go_ret;have B1:=(Below.refl _ _).alloc (ay _) (w:=(w.alloc (ak #[aa k,.pointer pq] 216)).alloc (ak #[.pointer iq] 116)) (ak #[.func (.func (rJ k)) #[] #[]] 423);refine⟨_,rfl,⟨364,_,⟨rfl,enters_of Tryz.func364 (by kernel_rfl) rfl⟩,fun S fl n W hK hb hu N2=> ?_⟩,cY B0 B1⟩;refine ML _ (rJ k) (Gu k) (hK.bx (b:=w.heap.size+1+1) (by omega) (de.newAt (by simp) _ _)) (BA k) (fun W x h0 _=>D7 k W x h0) (fun x=>by rw[hb];exact Ky k x) (by rw[hb];exact h16) (by rw[hb];exact h13) (by rw[hb];exact h14)
theorem Gv (f:FuncId)(cap:Array Value):Calls Tryz.prog 287 #[.func (.func f) #[] cap] w fun e w'=>e= .returned (.func (.func 367) #[] #[ag w.heap.size])/\w.alloc (ak #[.func (.func f) #[] cap] 398)=w':=by
 have N3:= @rh;go_enter Tryz.func287,Tryz.ntmps287
 go_wp2;go_ret;exact⟨rfl,rfl⟩
theorem Gw (f:FuncId)(cap:Array Value):Calls Tryz.prog 286 #[.func (.func f) #[] cap] w fun e w'=>e= .returned (.func (.func 366) #[] #[ag w.heap.size])/\w.alloc (ak #[.func (.func f) #[] cap] 398)=w':=by
 have N3:= @rh;go_enter Tryz.func286,Tryz.ntmps286
 go_wp2;go_ret;exact⟨rfl,rfl⟩
theorem D8 (f:FuncId)(cap:Array Value)(sg:Bool):Calls Tryz.prog 285 #[.func (.func f) #[] cap,.bool sg] w fun e w'=>
  ∃eb sb vb,e= .returned (.func (.func 365) #[] #[ag eb,ag sb])/\w.heap.size<=eb/\w.heap.size<=sb/\w.heap.size<=vb/\de w' eb #[.func (.func 366) #[] #[ag vb]] 260/\de w' sb #[.bool sg] 4/\de w' vb #[.func (.func f) #[] cap] 398/\aj w w':=by
 have N3:= @rh;have hE:=fun W=>Gw W f cap
 go_enter Tryz.func285,Tryz.ntmps285
 go_wp2_with fail
 refine(hE _).mono ?_;rintro e w2 ⟨rfl,rfl⟩;obtain⟨B2,K1,K2⟩:=eD w #[.bool sg] #[.func (.func f) #[] cap] 4 398;have s1:(w.alloc (ak #[.bool sg] 4)).heap.size=w.heap.size+1:=by simp
 rw[s1];go_wp2;go_ret;exact⟨w.heap.size+1+1,w.heap.size,w.heap.size+1,rfl,by omega,by omega,by omega,de.newAt (by simp) _ _,K1.alloc _,K2.alloc _,cY B2 ((Below.refl _ _).alloc (ay _) _)⟩
end
theorem IN {S:dG}{f:ek}(h:f.isMap=true):fB S f=16/\ed S f=some (dW f):=⟨by unfold fB;rw[h];rfl,by unfold ed;rw[h];rfl⟩
theorem ut (w:an)(P:ap)(mp:am->Option Nat)(g:GF)(fb:Nat)(iq:aw)(h:dP w P mp g fb):Calls Tryz.prog 210 #[ag fb,.pointer iq] w (g8 w fun w' v=>Dz w' (fun b=>w.heap.size<=b) mp g iq v):=by
 have hmf:= @rh;obtain⟨pv,rv,h1,_,Oa,Of⟩:=h.blk;obtain⟨pq,rfl⟩:=eT Of;obtain⟨ra,rn,rc,rfl⟩:=df Oa.1;have hV:=rX w (dC mp g) pq iq (jA mp g);have Og:∀W,aj w W->dP W P mp g fb:=fun W hW=>h.keep (fun b _ hl=>hW.block b hl)
 clear Of Oa h;obtain⟨k1,k2⟩:=h1.rules;go_enter Tryz.func210,Tryz.ntmps210
 go_wp2_with fail
 refine hV.mono ?_;rintro e w2 ⟨v2,rfl,⟨vf,N2,⟨rfl,Oc⟩,HV⟩,b2⟩;have K2:=h1.below b2 h1.lt;have s2:=b2.size;have b3:∀o,aj w (w2.alloc o):=fun o=>cY b2 ((Below.refl _ _).alloc (ay _) _)
 obtain⟨k3,k4⟩:=(K2.alloc (ak #[.func (.func vf) #[] N2.toArray] 398)).rules;have KV:=de.new w2 #[.func (.func vf) #[] N2.toArray] 398;have hL:=fun W=>Gv W vf N2.toArray
 have hE:=fun W=>Gw W vf N2.toArray
 have hN:=fun W sg=>D8 W vf N2.toArray sg
 have Ob:Hid (∀(W3 W:an) (S:dG) (d:MT) (fl:ek) (n:Nat),aj w2 W3->Kp (fun b=>w.heap.size<=b) W3 W->FG S mp d fl g->(∀W',Below W.heap.size W W'->UOK W')->(fB S fl=16->∃t,ed S fl=some t/\Dw S iq n t W)->GZ (dZ S (dm S n) fl) n vf N2 W):=fun W3 W S d fl n hb hK fg hu N7=>HV S fl n W (hK.back hb) fg.gb.symm hu N7
 clear k1 k2 HV
 by_cases h4:g.form=4
 ·have f4:(g.form==4)=true:=by simp[h4]
  have Oh:=Ck _ P mp g fb (Og (w2.alloc (ak #[.func (.func vf) #[] N2.toArray] 398)).drew (b3 _).drew) h4;have Oi:=fun W pv=>mx W (gQ mp g.f.key) pv (qC mp _)
  have e0:=KV.cell 0;have b3':=b3 (ak #[.func (.func vf) #[] N2.toArray] 398);have Oj:aj w2 (w2.alloc (ak #[.func (.func vf) #[] N2.toArray] 398)):=(Below.refl _ _).alloc (ay _) _;go_upto_region 3 with fail
  generalize w2.alloc (ak #[.func (.func vf) #[] N2.toArray] 398)=w3 at*
  go_region_held2 (fun W=>W.cell? (ai w2.heap.size 0)=some (.func (.func vf) #[] N2.toArray))
   (first|exact V6.cell 0|exact V5.cell 0|exact V4.cell 0|exact e0)
   (first|(go_at_call 188;refine Oh.mono ?_;rintro e w4 ⟨Om,rfl,b4⟩;have V4:=de.below (w:=w3.drew) KV b4 KV.lt)|(go_at_call 189;refine(Oi w4 Om).mono ?_;rintro e w5 ⟨rfl,b5⟩;have V5:=V4.below b5 V4.lt)|(go_at_call 285;refine(hN w5 _).mono ?_;rintro e w6 ⟨eb,sb,vb,rfl,q1,q2,q3,E1,E2,E3,b6⟩;have V6:=V5.below b6 V5.lt))
  all_goals
   go_wp2;go_ret;have B5:aj w2 w5:=cY Oj (cY (cY (Below.refl _ _).drew b4) b5);have B6:=cY B5 b6;have s5:=B5.size;refine⟨_,rfl,⟨365,[ag eb,ag sb],⟨rfl,enters_of Tryz.func365 (by kernel_rfl) rfl⟩,fun S d fl n W hK fg hu N7=> ?_⟩,cY b2 B6⟩;have hm:fl.isMap=true:=by rw[fg.map,h4];rfl
   obtain⟨Od,Oe⟩:=IN (S:=S) hm;refine(Dx eb 366 sb [ag vb] (iT (gQ mp g.f.key)) (hK.bx (by omega) E1) (hK.bx (by omega) E2) (enters_of Tryz.func366 (by kernel_rfl) rfl) (F9 vb vf N2 (hK.bx (by omega) E3) Oc (Ob.out w6 W S d fl n B6 hK fg hu N7)) ?_).as fun l=> ?_
   ·intro l k hO hl e he;rw[aT]at hl;exact CE (tV (List.all_eq_true.1 hl.2 e he) Od Oe) (hO.2 e he).2.2.2
   ·rw[D6 hm,fg.eq,(fg.key h4).1]
 ·have f4:(g.form==4)=false:=by simp[h4]
  by_cases h2:g.form=2
  ·have f2:(g.form==2)=true:=by simp[h2]
   go_wp2_with fail
   refine(hE _).mono ?_;rintro e w4 ⟨rfl,rfl⟩;go_wp2;go_ret;have B4:aj w2 ((w2.alloc (ak #[.func (.func vf) #[] N2.toArray] 398)).alloc (ak #[.func (.func vf) #[] N2.toArray] 398)):=Below.a2 w2 _ _;refine⟨_,rfl,⟨366,[ag (w2.heap.size+1)],⟨rfl,enters_of Tryz.func366 (by kernel_rfl) rfl⟩,fun S d fl n W hK fg hu N7=> ?_⟩,cY b2 B4⟩;refine(F9 (w2.heap.size+1) vf N2 (hK.bx (by omega) (de.newAt (by simp) _ _)) Oc (Ob.out _ W S d fl n B4 hK fg hu N7)).as fun l=> ?_
   exact D5 (by rw[fg.map];simp[h4]) (by rw[fg.rep];simp[h2]) (by rw[fg.sin];simp[h2])
  ·have f2:(g.form==2)=false:=by simp[h2]
   have N3:∀(S:dG) (d:MT) (fl:ek),FG S mp d fl g->fl.isMap=false/\fl.isRep=false/\gy fl.how eS=decide (g.form=0):=fun S d fl fg=>⟨by rw[fg.map];simp[h4],by rw[fg.rep];simp[h2],fg.sin⟩
   by_cases h0:g.form=0/\dC mp g≠16
   ·have f0:(g.form==0)=true:=by simp[h0.1]
    have Ok:((dC mp g:Int)==16)=false:=by have:=h0.2;simp;omega
    have Ol:=fun W cap=>Gv W 288 cap
    go_wp2_with fail
    refine(Ol _ _).mono ?_;rintro e w4 ⟨rfl,rfl⟩;go_wp2;go_ret;have B4:aj w2 ((w2.alloc (ak #[.func (.func vf) #[] N2.toArray] 398)).alloc (ak #[.func (.func 288) #[] #[ag w2.heap.size]] 398)):=Below.a2 w2 _ _;refine⟨_,rfl,⟨367,[ag (w2.heap.size+1)],⟨rfl,enters_of Tryz.func367 (by kernel_rfl) rfl⟩,fun S d fl n W hK fg hu N7=> ?_⟩,cY b2 B4⟩;refine(F8 (w2.heap.size+1) 288 [ag w2.heap.size] (hK.bx (by omega) (de.newAt (by simp) _ _)) (enters_of Tryz.func288 (by kernel_rfl) rfl) (Dy w2.heap.size vf N2 (hK.bx s2 (KV.alloc _)) Oc (Ob.out _ W S d fl n B4 hK fg hu N7))).as fun l=> ?_
    obtain⟨m1,m2,m3⟩:=N3 S d fl fg;exact D4 m1 m2 ⟨by rw[m3];simp[h0.1],by rw[<-fg.gb];exact h0.2⟩
   ·have hz:∀(S:dG) (d:MT) (fl:ek),FG S mp d fl g->¬(gy fl.how eS=true/\fB S fl≠16):=fun S d fl fg q=>h0 ⟨by have:=q.1;rw[fg.sin]at this;simpa using this,by rw[fg.gb];exact q.2⟩
    have HF:Hid (∀(S:dG) (d:MT) (fl:ek) (n:Nat) (W:an),Kp (fun b=>w.heap.size<=b) ((w2.alloc (ak #[.func (.func vf) #[] N2.toArray] 398)).alloc (ak #[.func (.func vf) #[] N2.toArray] 398)) W->FG S mp d fl g->(∀W',Below W.heap.size W W'->UOK W')->(fB S fl=16->∃t,ed S fl=some t/\Dw S iq n t W)->Iv (fL S (dm S n) fl) n 367 [ag (w2.heap.size+1)] W):=fun S d fl n W hK fg hu N7=>by
     obtain⟨m1,m2,m3⟩:=N3 S d fl fg;exact(F8 (w2.heap.size+1) vf N2 (hK.bx (by omega) (de.newAt (by simp) _ _)) Oc (Ob.out _ W S d fl n (Below.a2 w2 _ _) hK fg hu N7)).as fun l=>D3 m1 m2 (hz S d fl fg)
    have N8:∀args w,(callFunc 367 args).run Tryz.prog w= .ok (.enter 367 args) w:=enters_of Tryz.func367 (by kernel_rfl) rfl
    by_cases h00:g.form=0
    ·have f0:(g.form==0)=true:=by simp[h00]
     have Ok:((dC mp g:Int)==16)=true:=by
      have:dC mp g=16:=Decidable.not_not.1 fun q=>h0 ⟨h00,q⟩
      simp[this]
     clear N3 hz h0;go_wp2_with fail
     refine(hL _).mono ?_;rintro e w4 ⟨rfl,rfl⟩;go_wp2;go_ret;exact⟨_,rfl,⟨367,[ag (w2.heap.size+1)],⟨rfl,N8⟩,HF.out⟩,cY b2 (Below.a2 w2 _ _)⟩
    ·have f0:(g.form==0)=false:=by simp[h00]
     clear N3 hz h0;go_wp2_with fail
     refine(hL _).mono ?_;rintro e w4 ⟨rfl,rfl⟩;go_wp2;go_ret;exact⟨_,rfl,⟨367,[ag (w2.heap.size+1)],⟨rfl,N8⟩,HF.out⟩,cY b2 (Below.a2 w2 _ _)⟩
section
variable (w:an)
theorem qZ (k:Nat)(pq iq:aw)(hk:k<=16):Calls Tryz.prog 368 #[.agg #[aa k,.pointer pq],.pointer iq] w (g8 w fun w' v=>LX w' (fun b=>w.heap.size<=b) k iq v):=by
 have N7:= @rh;have hC:=fun W=>nj W k (.pointer pq) hk
 obtain⟨B0,K1,K2⟩:=eD w #[aa k,.pointer pq] #[.pointer iq] 216 116;obtain⟨k1,k2⟩:=K1.rules
 rcases vZ hk with rfl|rfl|rfl|rfl|rfl|rfl|rfl|rfl|rfl|rfl|rfl|rfl|rfl|rfl|rfl|rfl|rfl
 all_goals
  go_enter Tryz.func368,Tryz.ntmps368
  go_wp2_with (go_at_call 208;refine(hC _).mono ?_;rintro e w2 ⟨rfl,b2⟩)
  go_ret
  first
   |exact⟨_,rfl,⟨417,[],⟨rfl,enters_of Tryz.func417 (by kernel_rfl) rfl⟩,fun S fl n N W hK hq hN hb N2=>MR (by omega)⟩,cY B0 b2⟩
   |exact⟨_,rfl,⟨416,[],⟨rfl,enters_of Tryz.func416 (by kernel_rfl) rfl⟩,fun S fl n N W hK hq hN hb N2=>MQ (by omega)⟩,cY B0 b2⟩
   |exact⟨_,rfl,⟨415,[],⟨rfl,enters_of Tryz.func415 (by kernel_rfl) rfl⟩,fun S fl n N W hK hq hN hb N2=>MP (by omega)⟩,cY B0 b2⟩
   |exact⟨_,rfl,⟨414,[],⟨rfl,enters_of Tryz.func414 (by kernel_rfl) rfl⟩,fun S fl n N W hK hq hN hb N2=>MO (by omega)⟩,B0⟩
   |exact⟨_,rfl,⟨413,[],⟨rfl,enters_of Tryz.func413 (by kernel_rfl) rfl⟩,fun S fl n N W hK hq hN hb N2=>MN (by omega)⟩,B0⟩
   |(
     refine⟨_,rfl,⟨412,[ag (w.heap.size+1)],⟨rfl,enters_of Tryz.func412 (by kernel_rfl) rfl⟩,fun S fl n N W hK hq hN hb N2=> ?_⟩,B0⟩;obtain⟨t,h1,h2⟩:=N2 hb
     exact MM _ iq t hN (hK.bx (by omega) K2) (hq _ (by omega) K2.lt) h2 hb h1)
theorem nL (k:Nat)(pq iq:aw)(hk:k<=16):Calls Tryz.prog 293 #[.agg #[aa k,.pointer pq],.pointer iq] w (g8 w fun w' v=>rH w' (fun b=>w.heap.size<=b) k iq v):=by
 have N7:= @rh;have hC:=fun W=>nj W k (.pointer pq) hk
 obtain⟨B0,K1,K2⟩:=eD w #[aa k,.pointer pq] #[.pointer iq] 216 116;obtain⟨k1,k2⟩:=K1.rules
 rcases vZ hk with rfl|rfl|rfl|rfl|rfl|rfl|rfl|rfl|rfl|rfl|rfl|rfl|rfl|rfl|rfl|rfl|rfl
 all_goals
  go_enter Tryz.func293,Tryz.ntmps293
  go_wp2_with (go_at_call 208;refine(hC _).mono ?_;rintro e w2 ⟨rfl,b2⟩)
  go_ret
  first
   |exact⟨_,rfl,⟨376,[],⟨rfl,enters_of Tryz.func376 (by kernel_rfl) rfl⟩,fun S fl n N W hK hq hN hb N2=>MY hN (by omega)⟩,cY B0 b2⟩
   |exact⟨_,rfl,⟨375,[],⟨rfl,enters_of Tryz.func375 (by kernel_rfl) rfl⟩,fun S fl n N W hK hq hN hb N2=>MX hN (by omega)⟩,cY B0 b2⟩
   |exact⟨_,rfl,⟨374,[],⟨rfl,enters_of Tryz.func374 (by kernel_rfl) rfl⟩,fun S fl n N W hK hq hN hb N2=>MW hN (by omega)⟩,cY B0 b2⟩
   |exact⟨_,rfl,⟨373,[],⟨rfl,enters_of Tryz.func373 (by kernel_rfl) rfl⟩,fun S fl n N W hK hq hN hb N2=>MV hN (by omega)⟩,B0⟩
   |exact⟨_,rfl,⟨372,[],⟨rfl,enters_of Tryz.func372 (by kernel_rfl) rfl⟩,fun S fl n N W hK hq hN hb N2=>MU hN (by omega)⟩,B0⟩
   |(
     refine⟨_,rfl,⟨371,[ag (w.heap.size+1)],⟨rfl,enters_of Tryz.func371 (by kernel_rfl) rfl⟩,fun S fl n N W hK hq hN hb N2=> ?_⟩,B0⟩;obtain⟨t,h1,h2,h3⟩:=N2 hb
     exact MS _ iq t hN (hK.bx (by omega) K2) (hq _ (by omega) K2.lt) h2 h3 hb h1)
theorem ld (k:Nat)(pq iq:aw)(hk:k<=16):Calls Tryz.prog 289 #[.agg #[aa k,.pointer pq],.pointer iq] w (g8 w fun w' v=>rG w' (fun b=>w.heap.size<=b) k iq v):=by
 have N7:= @rh;obtain⟨B1,K1⟩:=di w #[aa k,.pointer pq] 216;have hC:=qZ (w.alloc (ak #[aa k,.pointer pq] 216)) k pq iq hk;obtain⟨k1,k2⟩:=K1.rules;go_enter Tryz.func289,Tryz.ntmps289
 go_wp2_with fail
 refine hC.mono ?_;rintro e w2 ⟨v2,rfl,⟨vf,N3,⟨rfl,N8⟩,HV⟩,b2⟩;have s1:=B1.size;have s2:=b2.size;generalize w.alloc (ak #[aa k,.pointer pq] 216)=w1 at*;obtain⟨B3,K3⟩:=di w2 #[.func (.func vf) #[] N3.toArray] 447;go_wp2;go_ret;refine⟨_,rfl,⟨369,[ag w2.heap.size],⟨rfl,enters_of Tryz.func369 (by kernel_rfl) rfl⟩,fun S fl n N W hK hq hN hb N2=> ?_⟩,cY B1 (cY b2 B3)⟩;exact LW w2.heap.size vf N3 hN (hK.bx (by omega) K3) (hq _ (by omega) K3.lt) N8 (HV S fl n N W ((hK.back B3).less fun b q=>by omega) (fun b q l=>hq b (by omega) (aC l B3.size)) hN hb N2)
end
structure Bz (lo:Nat)(W:an)(on st:Bool)(t:Value)(b:Nat)(T:TypeId)(x y:Value):Prop where
 made:on=true->t=ag b/\lo<=b/\∃u v,de W b #[u,v] T
 put:st=true->de W b #[x,y] T
 dep:st=true->on=true
section
variable {lo:Nat} {W W':an} {on st:Bool} {t:Value} {b:Nat} {T:TypeId} {x y:Value}
theorem Bz.start:Bz lo W false false t b T x y:=⟨nofun,nofun,nofun⟩
theorem Bz.below (h:Bz lo W on st t b T x y)(hb:Below W.heap.size W W'):Bz lo W' on st t b T x y:=
 ⟨fun e=>by
  obtain⟨h1,h2,u,v,h3⟩:=h.made e
  exact⟨h1,h2,u,v,h3.below hb h3.lt⟩,fun e=>(h.put e).below hb (h.put e).lt,h.dep⟩
theorem Bz.alloc (h:Bz lo W on st t b T x y)(o:Obj):Bz lo (W.alloc o) on st t b T x y:=h.below ((Below.refl _ _).alloc (ay _) o)
theorem Bz.new (h:Bz lo W false st t b T x y)(hl:lo<=W.heap.size)(u v:Value):Bz lo (W.alloc (.cells #[u,v] T)) true st (ag W.heap.size) W.heap.size T x y:=
 ⟨fun _=>⟨rfl,hl,u,v,de.new _ _ _⟩,fun e=>(by cases h.dep e),fun e=>(by cases h.dep e)⟩
theorem Bz.store (h:Bz lo W true st t b T x y):Bz lo ((W.setCell (ai b 0) x).setCell (ai b 1) y) true true t b T x y:=by
 obtain⟨h1,h2,u,v,h3⟩:=h.made rfl;have q:de ((W.setCell (ai b 0) x).setCell (ai b 1) y) b #[x,y] T:=(h3.set 0 x).set 1 y;exact⟨fun _=>⟨h1,h2,x,y,q⟩,fun _=>q,fun _=>rfl⟩
theorem Bz.oth (h:Bz lo W on st t b T x y){c:Nat}(hne:on=true->c≠b)(off:Nat)(z:Value):Bz lo (W.setCell (ai c off) z) on st t b T x y:=
 ⟨fun e=>by
  obtain⟨h1,h2,u,v,h3⟩:=h.made e
  exact⟨h1,h2,u,v,h3.other off z (hne e)⟩,fun e=>(h.put e).other off z (hne (h.dep e)),h.dep⟩
theorem Bz.lt (h:Bz lo W on st t b T x y)(e:on=true):b<W.heap.size:=by
 obtain⟨_,_,u,v,h3⟩:=h.made e;exact h3.lt
theorem Bx.oth {vr:Bool}(h:Bx lo W on st vr t b T x){c:Nat}(hne:on=true->c≠b)(off:Nat)(z:Value):Bx lo (W.setCell (ai c off) z) on st vr t b T x:=
 ⟨fun e=>by
  obtain⟨h1,h2,h3⟩:=h.made e
  exact⟨h1,h2,h3.other off z (hne e)⟩,fun e=>(h.put e).other off z (hne (h.dep e).1),h.dep⟩
theorem lA.lt1 {W:an}{on:Bool}{b:Nat}(h:on=true->b<W.heap.size):lA true on W.heap.size b:=fun _ e q=>by
 have:=h e;omega
end
def M5 (n k t:Int):Prop:=0<=n/\n<=536870911->t=((gP n k).length:Int)
section
variable (w:an)
theorem IP (x:Int):0<=IntKind.u64.wrap x/\IntKind.u64.wrap x<=18446744073709551615:=by
 simp[IntKind.wrap,IntKind.bits,IntKind.signed];omega
theorem Gx (op:BinOp)(x y:Int):0<=bits op .u64 x y/\bits op .u64 x y<=18446744073709551615:=by
 unfold bits;exact IP _
theorem xY (x:Int):Calls Tryz.prog 328 #[.int .u64 x] w fun e w'=>∃t,e= .returned (aa t)/\aj w w':=by
 obtain⟨q1,q2⟩:=Gx .or x 1;have hl:=zU _ w q1 q2;clear q1 q2;go_enter Tryz.func328,Tryz.ntmps328
 go_wp2_with fail
 refine hl.mono ?_;rintro e w2 ⟨rfl,rfl⟩;go_wp2;go_ret;exact⟨_,rfl,Below.refl _ _⟩
theorem Kz (n k:Int):Calls Tryz.prog 316 #[.agg #[aa n,aa k]] w fun e w'=>∃x,e= .returned (.int .u64 x)/\aj w w':=by
 obtain⟨k1,k2⟩:=(de.new w #[aa n,aa k] 237).rules;go_enter Tryz.func316,Tryz.ntmps316
 go_wp2;go_ret;exact⟨_,rfl,(Below.refl _ _).alloc (ay _) _⟩
theorem KG (n k:Int)(k0:0<=k)(k1:k<8):Calls Tryz.prog 242 #[.agg #[aa n,aa k]] w fun e w'=>∃t,e= .returned (aa t)/\M5 n k t/\aj w w':=by
 by_cases h:0<=n/\n<=536870911
 ·exact(I7 w n k h.1 h.2 k0 k1).mono fun e w' q=>⟨_,q.1,fun _=>rfl,q.2⟩
 ·obtain⟨B1,K1⟩:=di w #[aa n,aa k] 237;obtain⟨k1,k2⟩:=K1.rules;go_enter Tryz.func242,Tryz.ntmps242
  go_wp2_with fail
  refine(Kz _ n k).mono ?_;rintro e w2 ⟨x,rfl,b2⟩;go_wp2_with fail
  refine(xY _ x).mono ?_;rintro e w3 ⟨m,rfl,b3⟩;go_wp2;go_ret;exact⟨_,rfl,fun q=>absurd q h,cY B1 (cY b2 b3)⟩
end
inductive NA (w:an)(mp:am->Option Nat)(g:GF)(fb:Nat)(pq iq:aw)(W:an):Array Bool->Act->Prop where
 |mk {l0 l1 l2 l3 l4 l5 l6 l7 l8 l9 l10 Oe Of:Bool} {t5 t6 t7 t8 t9 Oh Oi Oj Ok Ol Og:Value} (bP bQ:Nat) (tl:Int) (m1 m2:Nat) (f0:l0=true->t7=ag fb) (f1:l1=true->t8= .agg #[aa g.f.num,aa (vX mp g)]) (f2:l2=true->t9=aa tl) (f3:l3=true->Oh=ag fb) (f4:l4=true->Oi=ag fb) (f5:l5=true->Oj= .pointer (some (ai fb 2))) (f6:l6=true->Ok= .agg #[aa (dC mp g),.pointer pq]) (f7:l7=true->Ol= .pointer iq) (B:aj w W) (xP:Bx (w.heap.size) W l9 Oe l2 t5 bP 3 t9) (xQ:Bx (w.heap.size) W l10 Of l8 t6 bQ 262 Og) (N2:lA l9 l10 bP bQ) (N3:DJ l9 l8 bP m1 m2) (N7:DJ l10 l8 bQ m1 m2) (V:l8=true->rG W (fun b=>m1<=b/\b<m2) (dC mp g) iq Og/\w.heap.size<=m1/\m2<=W.heap.size) (sz:l2=true->M5 g.f.num (vX mp g) tl):NA w mp g fb pq iq W #[l0,l1,l2,l3,l4,l5,l6,l7,l8,l9,l10,Oe,Of] ⟨#[ag fb,.pointer iq,undef,undef,.nilFunc,t5,t6,t7,t8,t9,Oh,Oi,Oj,Ok,Ol,Og,undef,undef,undef,undef],[]⟩
section
variable (w:an) (P:ap) (mp:am->Option Nat) (g:GF) (fb:Nat) (iq:aw)
theorem rY (h:dP w P mp g fb):Calls Tryz.prog 211 #[ag fb,.pointer iq] w (g8 w fun w' v=>Br w' (fun b=>w.heap.size<=b) mp g iq v):=by
 have hmf:= @rh;obtain⟨pv,rv,h1,_,Ob,Oo⟩:=h.blk;obtain⟨pq,rfl⟩:=eT Oo;obtain⟨ra,rn,rc,rfl⟩:=df Ob.1;have Ot:=jA mp g;have Ou:=h1.lt;have hT:∀W,aj w W->Calls Tryz.prog 231 #[ag fb] W fun e w'=>e= .returned (.agg #[aa g.f.num,aa (vX mp g)])/\Below W.heap.size W w':=fun W hW=>tS W P mp g fb (h.keep (fun b _ hl=>hW.block b hl))
 obtain⟨Ox,Oy⟩:=qf mp g;have hS:=fun W=>KG W g.f.num (vX mp g) Ox Oy
 have Ov:∀W,aj w W->Calls Tryz.prog 209 #[ag fb] W fun e w'=>e= .returned (.bool (fG mp g))/\Below W.heap.size W w':=fun W hW=>jW W P mp g fb (h.keep (fun b _ hl=>hW.block b hl))
 have Ow:=fun W=>ld W (dC mp g) pq iq Ot
 clear Oo Ob h;go_enter Tryz.func211,Tryz.ntmps211
 go_upto_region 1 with fail
 go_cut [5,6]from 7 to 15 (fun x y wx=>∃tb ab tl vv,x=ag tb/\y=ag ab/\de wx tb #[aa tl] 3/\de wx ab #[vv] 262/\M5 g.f.num (vX mp g) tl/\rG wx (fun b=>w.heap.size<=b) (dC mp g) iq vv/\w.heap.size<=tb/\w.heap.size<=ab/\aj w wx)
 case first=>
  refine iC (fun L a W=>NA w mp g fb pq iq W L a) (by kernel_rfl) ⟨0,0,0,0,0,nofun,nofun,nofun,nofun,nofun,nofun,nofun,nofun,(Below.refl _ _).drew,Bx.start,Bx.start,nofun,nofun,nofun,nofun,nofun⟩ (by kernel_rfl) ?_ ?_
  ·rintro L a W @⟨l0,l1,l2,l3,l4,l5,l6,l7,l8,l9,l10,Oe,Of,t5,t6,t7,t8,t9,Oh,Oi,Oj,Ok,Ol,Og,bP,bQ,tl,m1,m2,f0,f1,f2,f3,f4,f5,f6,f7,B,xP,xQ,N2,N3,N7,V,sz⟩ N8;obtain rfl:l2=true:=N8 2 (by decide);obtain rfl:l8=true:=N8 8 (by decide);obtain rfl:l9=true:=N8 9 (by decide);obtain rfl:l10=true:=N8 10 (by decide);obtain rfl:Oe=true:=N8 11 (by decide);obtain rfl:Of=true:=N8 12 (by decide);obtain⟨rfl,zP,_⟩:=xP.made rfl;obtain⟨rfl,zQ,_⟩:=xQ.made rfl;obtain rfl:=f2 rfl;obtain⟨v1,v2,v3⟩:=V rfl;have KP:=xP.put rfl;have KQ:=xQ.put rfl;have hsz:=sz rfl;go_wp2;go_meet
   case rel=>exact⟨_,_,_,_,rfl,rfl,KP,KQ,hsz,v1.move (fun b q l=>⟨aG v2 q.1,rfl⟩),zP,zQ,B⟩
  refine .cons ?_ (.cons ?_ (.cons ?_ (.cons ?_ (.cons ?_ (.cons ?_ (.cons ?_ (.cons ?_ (.cons ?_ (.cons ?_ (.cons ?_ (.cons ?_ (.cons ?_ (.nil)))))))))))))
  all_goals
   rintro L a W ⟨bP,bQ,tl,m1,m2,f0,f1,f2,f3,f4,f5,f6,f7,B,xP,xQ,N2,N3,N7,V,sz⟩ h0 hd K hK;subst h0
  ·clear hd;go_simp;refine hK.out _ _ ?_;simp only[NZ];exact⟨bP,bQ,tl,m1,m2,fun _=>rfl,f1,f2,f3,f4,f5,f6,f7,B,xP,xQ,N2,N3,N7,V,sz⟩
  ·obtain rfl:=dK (k:=0) hd (by kernel_rfl);obtain rfl:=f0 rfl;clear hd;go_simp;go_wp2_with (first|(go_at_call 231;refine(hT _ B).mono ?_;rintro e w2 ⟨rfl,b2⟩))
   refine hK.out _ _ ?_;simp only[NZ];exact⟨bP,bQ,tl,m1,m2,fun _=>rfl,fun _=>rfl,f2,f3,f4,f5,f6,f7,(cY B b2),(xP.below b2),(xQ.below b2),N2,N3,N7,(fun e=>⟨(V e).1.move (fun b q l=>⟨q,b2.block b l⟩),(V e).2.1,aG (V e).2.2 b2.size⟩),sz⟩
  ·obtain rfl:=dK (k:=1) hd (by kernel_rfl);obtain rfl:=f1 rfl;clear hd;go_simp;go_wp2_with (first|(go_at_call 242;refine(hS _).mono ?_;rintro e w3 ⟨t3,rfl,hsz,b3⟩))
   refine hK.out _ _ ?_;simp only[NZ];exact⟨bP,bQ,t3,m1,m2,f0,fun _=>rfl,fun _=>rfl,f3,f4,f5,f6,f7,(cY B b3),((xP.below b3).val _),(xQ.below b3),N2,N3,N7,(fun e=>⟨(V e).1.move (fun b q l=>⟨q,b3.block b l⟩),(V e).2.1,aG (V e).2.2 b3.size⟩),(fun _=>hsz)⟩
  ·clear hd;go_simp;refine hK.out _ _ ?_;simp only[NZ];exact⟨bP,bQ,tl,m1,m2,f0,f1,f2,fun _=>rfl,f4,f5,f6,f7,B,xP,xQ,N2,N3,N7,V,sz⟩
  ·obtain rfl:=dK (k:=3) hd (by kernel_rfl);obtain rfl:=f3 rfl;clear hd;go_simp;refine hK.out _ _ ?_;simp only[NZ];exact⟨bP,bQ,tl,m1,m2,f0,f1,f2,fun _=>rfl,fun _=>rfl,f5,f6,f7,B,xP,xQ,N2,N3,N7,V,sz⟩
  ·obtain rfl:=dK (k:=4) hd (by kernel_rfl);obtain rfl:=f4 rfl;clear hd;go_simp;refine hK.out _ _ ?_;simp only[NZ];exact⟨bP,bQ,tl,m1,m2,f0,f1,f2,f3,fun _=>rfl,fun _=>rfl,f6,f7,B,xP,xQ,N2,N3,N7,V,sz⟩
  ·obtain rfl:=dK (k:=5) hd (by kernel_rfl);obtain rfl:=f5 rfl;have KF:=h1.below B Ou;obtain⟨k1,k2⟩:=KF.rules;clear hd;go_simp;refine hK.out _ _ ?_;simp only[NZ];exact⟨bP,bQ,tl,m1,m2,f0,f1,f2,f3,f4,fun _=>rfl,fun _=>rfl,f7,B,xP,xQ,N2,N3,N7,V,sz⟩
  ·clear hd;go_simp;refine hK.out _ _ ?_;simp only[NZ];exact⟨bP,bQ,tl,m1,m2,f0,f1,f2,f3,f4,f5,f6,fun _=>rfl,B,xP,xQ,N2,N3,N7,V,sz⟩
  ·obtain rfl:=dK (k:=6) hd (by kernel_rfl);obtain rfl:=dK (k:=7) hd (by kernel_rfl);obtain rfl:=f6 rfl;obtain rfl:=f7 rfl;clear hd;go_simp;go_wp2_with (first|(go_at_call 289;refine(Ow _).mono ?_;rintro e w4 ⟨vv,rfl,Oz,b4⟩))
   refine hK.out _ _ ?_;simp only[NZ];exact⟨bP,bQ,tl,W.heap.size,w4.heap.size,f0,f1,f2,f3,f4,f5,fun _=>rfl,fun _=>rfl,(cY B b4),(xP.below b4),((xQ.below b4).val _),N2,(fun e _=> .inl (xP.lt e)),(fun e _=> .inl (xQ.lt e)),(fun _=>⟨Oz.move (fun b q l=>⟨⟨q,l⟩,rfl⟩),B.size,ay _⟩),sz⟩
  ·clear hd;go_simp;refine hK.out _ _ ?_;simp only[NZ];exact⟨W.heap.size,bQ,tl,m1,m2,f0,f1,f2,f3,f4,f5,f6,f7,(B.alloc B.size _),(xP.new B.size _),(xQ.alloc _),(lA.lt1 xQ.lt),(fun _ e=> .inr (V e).2.2),N7,(fun e=>⟨(V e).1.move (fun b q l=>⟨q,((Below.refl W.heap.size W).alloc (ay _) _).block b l⟩),(V e).2.1,aG (V e).2.2 ((Below.refl W.heap.size W).alloc (ay _) _).size⟩),sz⟩
  ·clear hd;go_simp;refine hK.out _ _ ?_;simp only[NZ];exact⟨bP,W.heap.size,tl,m1,m2,f0,f1,f2,f3,f4,f5,f6,f7,(B.alloc B.size _),(xP.alloc _),(xQ.new B.size _),(lA.lt1 xP.lt).symm,N3,(fun _ e=> .inr (V e).2.2),(fun e=>⟨(V e).1.move (fun b q l=>⟨q,((Below.refl W.heap.size W).alloc (ay _) _).block b l⟩),(V e).2.1,aG (V e).2.2 ((Below.refl W.heap.size W).alloc (ay _) _).size⟩),sz⟩
  ·obtain rfl:=dK (k:=9) hd (by kernel_rfl);obtain rfl:=dK (k:=2) hd (by kernel_rfl);obtain⟨rfl,zP,yP⟩:=xP.made rfl;obtain⟨wP,cP,kP⟩:=fQ yP;obtain rfl:=f2 rfl;clear hd;go_simp;refine hK.out _ _ ?_;simp only[NZ];exact⟨bP,bQ,tl,m1,m2,f0,f1,fun _=>rfl,f3,f4,f5,f6,f7,(B.setCell (p:=(ai bP 0)) zP _),xP.store,(xQ.oth (fun e=>N2 rfl e) 0 _),N2,N3,N7,(fun e=>⟨(V e).1.move (fun b q l=>⟨q,dp (by have:=N3 rfl e;omega)⟩),(V e).2.1,by simpa using(V e).2.2⟩),sz⟩
  ·obtain rfl:=dK (k:=10) hd (by kernel_rfl);obtain rfl:=dK (k:=8) hd (by kernel_rfl);obtain⟨rfl,zQ,yQ⟩:=xQ.made rfl;obtain⟨wQ,cQ,kQ⟩:=fQ yQ;obtain⟨vf,vcap,⟨rfl,Om⟩,hvc⟩:=(V rfl).1;clear hd;go_simp;refine hK.out _ _ ?_;simp only[NZ];exact⟨bP,bQ,tl,m1,m2,f0,f1,f2,f3,f4,f5,f6,f7,(B.setCell (p:=(ai bQ 0)) zQ _),(xP.oth (fun e=>N2.symm rfl e) 0 _),xQ.store,N2,N3,N7,(fun e=>⟨(V e).1.move (fun b q l=>⟨q,dp (by have:=N7 rfl e;omega)⟩),(V e).2.1,by simpa using(V e).2.2⟩),sz⟩
 case rest=>
  obtain⟨tb,ab,tl,vv,rfl,rfl,KP,KQ,hsz,⟨af,Oc,⟨rfl,Om⟩,hv⟩,zP,zQ,b3⟩:=hcut;have hq:=Ov wc b3;obtain⟨pk,Od⟩:∃pk,fG mp g=pk:=⟨_,rfl⟩;rw[Od]at hq
  have HF:Hid (∀w5,aj wc w5->∀f,(∀args w,(callFunc f args).run Tryz.prog w= .ok (.enter f args) w)->f=(if pk then 290 else 291)->Br w5 (fun b=>w.heap.size<=b) mp g iq (.func (.func f) #[] #[ag tb,ag ab])):=fun w5 b5 f hf Oq=>by
   refine⟨f,[ag tb,ag ab],⟨rfl,hf⟩,fun S d fl n N W hK hq hN fg OA OB=> ?_⟩;have Oa:=hsz (by rw[fg.eq];exact OA);rw[fg.eq,fg.tk]at Oa;subst Oa;have K1:=hK.bx zP (KP.below b5 KP.lt);have K2:=hK.bx zQ (KQ.below b5 KQ.lt);have L:=hv S fl n N W (hK.back b5) (fun b q l=>hq b q (aC l b5.size)) hN fg.gb.symm OB;have i1:=hq tb zP (aC KP.lt b5.size);have i2:=hq ab zQ (aC KQ.lt b5.size);rw[fg.pk]at Od
   cases pk with
   |true=>
    obtain rfl:=Oq;have:=Ga tb ab af Oc (gP fl.num (mM S fl)) K1 K2 i1 i2 Om L
    exact fun W' Z vv l k B q1 q2 q3 q4=>by
     have e:iW S (dD S n) fl l=gP fl.num (mM S fl)++fm (ly S (dD S n) fl l):=by unfold iW;rw[if_pos Od]
     rw[e]at q4⊢;exact this W' Z vv l k B q1 q2 q3 q4
   |false=>
    obtain rfl:=Oq;have:=IB tb ab af Oc (gP fl.num (mM S fl)) K1 K2 i1 i2 Om L
    exact fun W' Z vv l k B q1 q2 q3 q4=>by
     have e:iW S (dD S n) fl l=l.flatMap fun v=>gP fl.num (mM S fl)++eV S (dD S n) fl v:=by unfold iW;rw[if_neg (by rw[Od];simp)]
     rw[e]at q4⊢;exact this W' Z vv l k B q1 q2 q3 q4
  clear Od hsz hv
  cases pk with
  |true=>
   go_wp2_with fail
   refine hq.mono ?_;rintro e w5 ⟨rfl,b5⟩;go_wp2;go_ret;exact⟨_,rfl,HF.out w5 b5 290 (enters_of Tryz.func290 (by kernel_rfl) rfl) rfl,cY b3 b5⟩
  |false=>
   go_wp2_with fail
   refine hq.mono ?_;rintro e w5 ⟨rfl,b5⟩;go_wp2;go_ret;exact⟨_,rfl,HF.out w5 b5 291 (enters_of Tryz.func291 (by kernel_rfl) rfl) rfl,cY b3 b5⟩
end
end
end Go.Proofs.YtfebdimolnobaaaGreatDoor
