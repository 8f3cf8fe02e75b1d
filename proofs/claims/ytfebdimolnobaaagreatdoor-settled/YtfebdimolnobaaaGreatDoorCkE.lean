import Derived.Test.YtfebdimolnobaaaGreatDoorRdI
import Derived.BigQuiet
set_option maxRecDepth 100000
set_option maxHeartbeats 8000000
set_option linter.all false
namespace Go.Proofs.YtfebdimolnobaaaGreatDoor
open Go.RowKit Go.Proofs.Tryz
section
open Go.Maps
attribute [local go_sem] ji jj jk
attribute [local go_sem↓] Go.wp_at_zero Go.wp_at_succ
def yT (l:au)(h:l.Nodup):Maps.size (setOf (H:=Unit) (.agg []) (l.map oy))=l.length:=by
 rw[size_setOf _ _ (by intro x hx;obtain⟨y,_,rfl⟩:=aQ.1 hx;exact trivial)]
 have key:∀(l acc:au),(acc++l).Nodup->((l.map oy).foldl addKey (acc.map oy))=(acc++l).map oy:=by
  intro l
  induction l with
  |nil=>intro acc _;simp
  |cons x l ih=>
   intro acc QV
   have hx:(acc.map oy).any (λy=>y.sameKey (oy x))=false:=by
    rw[List.any_map,dv];intro y hy
    have hne:y≠x:=by
     rintro rfl;have:=dw.1 QV;exact this.2.2 _ hy _ QE rfl
    show¬decide (IntKind.u64=IntKind.u64/\(y:Int)=(x:Int))=true;simp;omega
   have e:addKey (acc.map oy) (oy x)=(acc++ [x]).map oy:=by
    unfold addKey;simp[hx]
   rw[ch,List.foldl_cons,e,ih (acc++ [x]) (by simpa using QV)];simp
 have:=key l [] (by simpa using h);simp only[List.map_nil,aR]at this;rw[this];simp
def ij (types names:ar)(nums:au)(tk:Int)(ts:am)(tp:Nat)(ns:am)(np:Nat)(ms:am)(mp:Nat):Except Nat (ar×au):=
 if pD types tk ts then .error tp
 else if iB names ns then .error np
 else if decide (12<=nums.length)then .error np
 else if qy nums (gA ms)then .error mp
 else .ok (names++ [ns],nums++ [gA ms])
def qT (types names:ar)(nums:au)(form kk:Int)(ks:am)(kp:Nat)(tk:Int)(ts:am)(tp:Nat)(ns:am)(np:Nat)(ms:am)(mp:Nat):Except Nat (ar×au):=
 if form==4&& !ii kk ks then .error kp else ij types names nums tk ts tp ns np ms mp
def Gm (nb mb:Nat)(w:an)(r:Except Nat (ar×au))(e:Ending)(w':an):Prop:=
 match r with
 | .error p=>e=dI 3 p/\dS [nb,mb] w w'
 | .ok (names,nums)=>e= .returned (.tuple #[])/\eE w' nb names/\fJ w' mb nums/\dS [nb,mb] w w'
def E8 (w:an)(tb nb mb:Nat)(types names:ar)(nums:au)(form kk:Int)(ks:am)(kp:Nat)(tk:Int)(ts:am)(tp:Nat)(nk:Int)(ns:am)(np:Nat)(mk:Int)(ms:am)(mp:Nat)(HT:eE w tb types)(HN:eE w nb names)(HM:fJ w mb nums)(d3:nb≠mb)(g1:5≠nb)(hln:names.length<5000)(hlm:nums.length<5000)(QV:nums.Nodup)(hok:iX ms)(hg:GOK w)(hf:(form==4)=false):
  Calls prog 180 #[.agg #[.map (some tb),.map (some nb),.map (some mb)],.agg #[aa form,aa kk,ae ks,aa kp,aa tk,ae ts,aa tp,aa nk,ae ns,aa np,aa mk,ae ms,aa mp]] w (Gm nb mb w (ij types names nums tk ts tp ns np ms mp)):=by
 obtain⟨r,HR⟩:∃r,Hid ((ij types names nums tk ts tp ns np ms mp)=r):=⟨_,rfl⟩;rw[HR.out];obtain⟨B0,QZ,QQ⟩:=fK w #[.map (some tb),.map (some nb),.map (some mb)] #[aa form,aa kk,ae ks,aa kp,aa tk,ae ts,aa tp,aa nk,ae ns,aa np,aa mk,ae ms,aa mp] 306 211;obtain⟨r1,r2⟩:=QZ.rules;obtain⟨r3,r4⟩:=QQ.rules;have Ra:=HT.lt;have Q3:=HN.lt;have Q1:=HM.lt;clear r1 r2 r3 r4;have B2:=B0;have KC:=QZ;have KF:=QQ;generalize hw2:((w.alloc (ak #[.map (some tb),.map (some nb),.map (some mb)] 306)).alloc (ak #[aa form,aa kk,ae ks,aa kp,aa tk,ae ts,aa tp,aa nk,ae ns,aa np,aa mk,ae ms,aa mp] 211))=w2 at B2 KC KF;go_enter func180,ntmps180;have Q4:eE w2 tb types:=HT.keep (B2.block _ Ra);have Rb:eE w2 nb names:=HN.keep (B2.block _ Q3);have Rc:fJ w2 mb nums:=HM.keep (B2.block _ Q1);have Re:GOK w2:=hg.keep (B2.block _ hg.lt);have z2:w.heap.size+1<w2.heap.size:=KF.lt;obtain⟨r1,r2⟩:=KC.rules;obtain⟨r3,r4⟩:=KF.rules;subst hw2;go_wp2_with fail;clear r1 r2 r3 r4;refine(PP _ tb nb mb types tk ts tp Q4).mono ?_
 cases h1:pD types tk ts
 rotate_left
 ·rintro e w3 ⟨he,QP⟩;obtain rfl:e=dI 3 tp:=by simpa using he
  obtain rfl:r= .error tp:=by rw[<-HR.out,ij];simp only[h1,if_true]
  unfold dI;go_wp2;exact⟨rfl,rfl,dS.of_below (B2.trans (QP.mono B2.size))⟩
 rintro e w3 ⟨he,QP⟩;obtain rfl:e= .returned (.tuple #[]):=by simpa using he
 have B3:=B2.trans (QP.mono B2.size);have QX:=KC.below QP KC.lt;have QS:=KF.below QP KF.lt;have Q5:eE w3 nb names:=HN.keep (B3.block _ Q3);have z3:=QS.lt;clear KC KF QP Q4 Rb Rc Re;obtain⟨r1,r2⟩:=QX.rules;obtain⟨r3,r4⟩:=QS.rules;go_wp2_with fail;clear r1 r2 r3 r4;refine(NZ _ nb names nk ns np Q5 hln).mono ?_
 cases h2:iB names ns
 rotate_left
 ·rintro e w4 ⟨rfl,Q0⟩;obtain rfl:r= .error np:=by rw[<-HR.out,ij];simp only[h1,h2,if_true,aL,if_false]
  unfold dI;go_wp2;exact⟨rfl,rfl,dS.of_below (B3.trans (Q0.mono B3.size))⟩
 rintro e w4 ⟨rfl,Q8,QW⟩;have e1:w.heap.size≠nb:=QD;have e2:w.heap.size+1≠nb:=QD;have C4:dS [nb,mb] w w4:=(dS.of_below B3).trans (QW.mono QE);have QY:dK w4 w.heap.size #[.map (some tb),.map (some nb),.map (some mb)] 306:=(QW.block _ QX.lt (by simpa using e1)).trans QX;have QT:dK w4 (w.heap.size+1) #[aa form,aa kk,ae ks,aa kp,aa tk,ae ts,aa tp,aa nk,ae ns,aa np,aa mk,ae ms,aa mp] 211:=(QW.block _ QS.lt (by simpa using e2)).trans QS;have Q2:fJ w4 mb nums:=HM.keep ((QW.block _ (aC Q1 B3.size) (by simpa using λe=>d3 e.symm)).trans (B3.block _ Q1));have Q6:GOK w4:=hg.keep ((QW.block _ (aC hg.lt B3.size) (by simpa using g1)).trans (B3.block _ hg.lt));have QU:w4.ownsMap prog 53 (unitElem (H:=Unit)) mb nums.length (setOf (.agg []) (nums.map oy)):=Q2;have z4:=QT.lt;clear QX QS Q5;obtain⟨r1,r2⟩:=QY.rules;obtain⟨r3,r4⟩:=QT.rules
 cases h3:decide (12<=nums.length)
 rotate_left
 ·have hd:(12:Int)<=(nums.length:Int):=by have:=dC h3;omega
  obtain rfl:r= .error np:=by rw[<-HR.out,ij];simp only[h1,h2,h3,if_true,aL,if_false]
  go_wp2_with (at_len;refine wpList_len_own _ rfl _ 304 rfl 53 162 underlying304 _ mb _ _ rfl QU ?_;rw[yT nums QV])
  refine(jJ _ nk ns np).mono ?_;rintro e w5 ⟨rfl,QR⟩;unfold dI;go_wp2;exact⟨rfl,rfl,C4.trans (dS.of_below QR)⟩
 have hd:decide ((12:Int)<=(nums.length:Int))=false:=by have:=of_decide_eq_false h3;simp;omega
 go_wp2_with (at_len;refine wpList_len_own _ rfl _ 304 rfl 53 162 underlying304 _ mb _ _ rfl QU ?_;rw[yT nums QV])
 refine(oz _ nk ns np).mono ?_;rintro e w5 ⟨rfl,QR⟩;have C5:=C4.trans (dS.of_below QR);have Rf:=QY.below QR QY.lt;have Rg:=QT.below QR QT.lt;have Q7:=Q8.keep (QR.block _ Q8.lt);have Rh:=Q2.keep (QR.block _ Q2.lt);have Ri:=Q6.keep (QR.block _ Q6.lt);clear QY QT r1 r2 r3 r4 hd;obtain⟨r1,r2⟩:=Rf.rules;obtain⟨r3,r4⟩:=Rg.rules;go_wp2_with fail;clear r1 r2 r3 r4;refine(PQ _ tb nb mb mk ms mp hok Ri nums Rh hlm).mono ?_
 cases h4:qy nums (gA ms)
 rotate_left
 ·rintro e w6 ⟨rfl,Rj⟩;obtain rfl:r= .error mp:=by rw[<-HR.out,ij];simp only[h1,h2,h3,h4,if_true,aL,if_false]
  unfold dI;go_wp2;exact⟨rfl,rfl,C5.trans (dS.of_below Rj)⟩
 rintro e w6 ⟨rfl,Rk,Q9⟩;obtain rfl:r= .ok (names++ [ns],nums++ [gA ms]):=by rw[<-HR.out,ij];simp only[h1,h2,h3,h4,aL,if_false]
 go_wp2;go_end0;exact⟨rfl,Q7.keep (Q9.block _ Q7.lt (by simpa using d3)),Rk,C5.trans (Q9.mono QE)⟩
def JD (w:an)(tb nb mb:Nat)(types names:ar)(nums:au)(form kk:Int)(ks:am)(kp:Nat)(tk:Int)(ts:am)(tp:Nat)(nk:Int)(ns:am)(np:Nat)(mk:Int)(ms:am)(mp:Nat)(HT:eE w tb types)(HN:eE w nb names)(HM:fJ w mb nums)(d3:nb≠mb)(g1:5≠nb)(hln:names.length<5000)(hlm:nums.length<5000)(QV:nums.Nodup)(hok:iX ms)(hg:GOK w)(hf:(form==4)=true)(hkg:ii kk ks=true):
  Calls prog 180 #[.agg #[.map (some tb),.map (some nb),.map (some mb)],.agg #[aa form,aa kk,ae ks,aa kp,aa tk,ae ts,aa tp,aa nk,ae ns,aa np,aa mk,ae ms,aa mp]] w (Gm nb mb w (ij types names nums tk ts tp ns np ms mp)):=by
 obtain⟨r,HR⟩:∃r,Hid ((ij types names nums tk ts tp ns np ms mp)=r):=⟨_,rfl⟩;rw[HR.out];obtain⟨B0,QZ,QQ⟩:=fK w #[.map (some tb),.map (some nb),.map (some mb)] #[aa form,aa kk,ae ks,aa kp,aa tk,ae ts,aa tp,aa nk,ae ns,aa np,aa mk,ae ms,aa mp] 306 211;obtain⟨r1,r2⟩:=QZ.rules;obtain⟨r3,r4⟩:=QQ.rules;have Ra:=HT.lt;have Q3:=HN.lt;have Q1:=HM.lt;go_enter func180,ntmps180;go_wp2_with fail
 go_region_held3 (λw'=>w'.cell? (ai (w.heap.size+1) 1)=some (aa kk)/\w'.cell? (ai (w.heap.size+1) 2)=some (ae ks)/\w'.cell? (ai (w.heap.size+1) 3)=some (aa kp))
  (first|exact⟨K5.cell 1,K5.cell 2,K5.cell 3⟩|exact⟨K3.cell 1,K3.cell 2,K3.cell 3⟩|exact⟨QQ.cell 1,QQ.cell 2,QQ.cell 3⟩)
  (first|(go_at_call 260;refine(PO _ kk ks kp).mono ?_;rw[hkg];rintro e w3 ⟨rfl,QP⟩;have K3:=QQ.drew.below QP QQ.lt)|(go_at_call 123;refine(oz _ kk ks kp).mono ?_;rintro e w2 ⟨rfl,Q0⟩;have K5:=K3.below Q0 K3.lt))
 have B2:aj w w2:=(B0.drew.trans (QP.mono QF)).trans (Q0.mono (by have:=QP.size;simp at this;omega));have KC:=(QZ.drew.below QP QZ.lt).below Q0 (by have:=QP.size;simp at this;omega);have KF:=K5;clear r1 r2 r3 r4 K3 K5 QP Q0 B0 QZ QQ;have Q4:eE w2 tb types:=HT.keep (B2.block _ Ra);have Rb:eE w2 nb names:=HN.keep (B2.block _ Q3);have Rc:fJ w2 mb nums:=HM.keep (B2.block _ Q1);have Re:GOK w2:=hg.keep (B2.block _ hg.lt);have z2:w.heap.size+1<w2.heap.size:=KF.lt;obtain⟨r1,r2⟩:=KC.rules;obtain⟨r3,r4⟩:=KF.rules;go_wp2_with fail;clear r1 r2 r3 r4;refine(PP _ tb nb mb types tk ts tp Q4).mono ?_
 cases h1:pD types tk ts
 rotate_left
 ·rintro e w3 ⟨he,QP⟩;obtain rfl:e=dI 3 tp:=by simpa using he
  obtain rfl:r= .error tp:=by rw[<-HR.out,ij];simp only[h1,if_true]
  unfold dI;go_wp2;exact⟨rfl,rfl,dS.of_below (B2.trans (QP.mono B2.size))⟩
 rintro e w3 ⟨he,QP⟩;obtain rfl:e= .returned (.tuple #[]):=by simpa using he
 have B3:=B2.trans (QP.mono B2.size);have QX:=KC.below QP KC.lt;have QS:=KF.below QP KF.lt;have Q5:eE w3 nb names:=HN.keep (B3.block _ Q3);have z3:=QS.lt;clear KC KF QP Q4 Rb Rc Re;obtain⟨r1,r2⟩:=QX.rules;obtain⟨r3,r4⟩:=QS.rules;go_wp2_with fail;clear r1 r2 r3 r4;refine(NZ _ nb names nk ns np Q5 hln).mono ?_
 cases h2:iB names ns
 rotate_left
 ·rintro e w4 ⟨rfl,Q0⟩;obtain rfl:r= .error np:=by rw[<-HR.out,ij];simp only[h1,h2,if_true,aL,if_false]
  unfold dI;go_wp2;exact⟨rfl,rfl,dS.of_below (B3.trans (Q0.mono B3.size))⟩
 rintro e w4 ⟨rfl,Q8,QW⟩;have e1:w.heap.size≠nb:=QD;have e2:w.heap.size+1≠nb:=QD;have C4:dS [nb,mb] w w4:=(dS.of_below B3).trans (QW.mono QE);have QY:dK w4 w.heap.size #[.map (some tb),.map (some nb),.map (some mb)] 306:=(QW.block _ QX.lt (by simpa using e1)).trans QX;have QT:dK w4 (w.heap.size+1) #[aa form,aa kk,ae ks,aa kp,aa tk,ae ts,aa tp,aa nk,ae ns,aa np,aa mk,ae ms,aa mp] 211:=(QW.block _ QS.lt (by simpa using e2)).trans QS;have Q2:fJ w4 mb nums:=HM.keep ((QW.block _ (aC Q1 B3.size) (by simpa using λe=>d3 e.symm)).trans (B3.block _ Q1));have Q6:GOK w4:=hg.keep ((QW.block _ (aC hg.lt B3.size) (by simpa using g1)).trans (B3.block _ hg.lt));have QU:w4.ownsMap prog 53 (unitElem (H:=Unit)) mb nums.length (setOf (.agg []) (nums.map oy)):=Q2;have z4:=QT.lt;clear QX QS Q5;obtain⟨r1,r2⟩:=QY.rules;obtain⟨r3,r4⟩:=QT.rules
 cases h3:decide (12<=nums.length)
 rotate_left
 ·have hd:(12:Int)<=(nums.length:Int):=by have:=dC h3;omega
  obtain rfl:r= .error np:=by rw[<-HR.out,ij];simp only[h1,h2,h3,if_true,aL,if_false]
  go_wp2_with (at_len;refine wpList_len_own _ rfl _ 304 rfl 53 162 underlying304 _ mb _ _ rfl QU ?_;rw[yT nums QV])
  refine(jJ _ nk ns np).mono ?_;rintro e w5 ⟨rfl,QR⟩;unfold dI;go_wp2;exact⟨rfl,rfl,C4.trans (dS.of_below QR)⟩
 have hd:decide ((12:Int)<=(nums.length:Int))=false:=by have:=of_decide_eq_false h3;simp;omega
 go_wp2_with (at_len;refine wpList_len_own _ rfl _ 304 rfl 53 162 underlying304 _ mb _ _ rfl QU ?_;rw[yT nums QV])
 refine(oz _ nk ns np).mono ?_;rintro e w5 ⟨rfl,QR⟩;have C5:=C4.trans (dS.of_below QR);have Rf:=QY.below QR QY.lt;have Rg:=QT.below QR QT.lt;have Q7:=Q8.keep (QR.block _ Q8.lt);have Rh:=Q2.keep (QR.block _ Q2.lt);have Ri:=Q6.keep (QR.block _ Q6.lt);clear QY QT r1 r2 r3 r4 hd;obtain⟨r1,r2⟩:=Rf.rules;obtain⟨r3,r4⟩:=Rg.rules;go_wp2_with fail;clear r1 r2 r3 r4;refine(PQ _ tb nb mb mk ms mp hok Ri nums Rh hlm).mono ?_
 cases h4:qy nums (gA ms)
 rotate_left
 ·rintro e w6 ⟨rfl,Rj⟩;obtain rfl:r= .error mp:=by rw[<-HR.out,ij];simp only[h1,h2,h3,h4,if_true,aL,if_false]
  unfold dI;go_wp2;exact⟨rfl,rfl,C5.trans (dS.of_below Rj)⟩
 rintro e w6 ⟨rfl,Rk,Q9⟩;obtain rfl:r= .ok (names++ [ns],nums++ [gA ms]):=by rw[<-HR.out,ij];simp only[h1,h2,h3,h4,aL,if_false]
 go_wp2;go_end0;exact⟨rfl,Q7.keep (Q9.block _ Q7.lt (by simpa using d3)),Rk,C5.trans (Q9.mono QE)⟩
def JE (w:an)(tb nb mb:Nat)(form kk:Int)(ks:am)(kp:Nat)(tk:Int)(ts:am)(tp:Nat)(nk:Int)(ns:am)(np:Nat)(mk:Int)(ms:am)(mp:Nat)(hf:(form==4)=true)(hkg:ii kk ks=false):
  Calls prog 180 #[.agg #[.map (some tb),.map (some nb),.map (some mb)],.agg #[aa form,aa kk,ae ks,aa kp,aa tk,ae ts,aa tp,aa nk,ae ns,aa np,aa mk,ae ms,aa mp]] w λe w'=>e=dI 3 kp/\aj w w':=by
 obtain⟨B0,QZ,QQ⟩:=fK w #[.map (some tb),.map (some nb),.map (some mb)] #[aa form,aa kk,ae ks,aa kp,aa tk,ae ts,aa tp,aa nk,ae ns,aa np,aa mk,ae ms,aa mp] 306 211;obtain⟨r1,r2⟩:=QZ.rules;obtain⟨r3,r4⟩:=QQ.rules;go_enter func180,ntmps180;go_wp2_with fail;refine wp_region_held_drew (S:=λw'=>w'.cell? (ai (w.heap.size+1) 1)=some (aa kk)/\w'.cell? (ai (w.heap.size+1) 2)=some (ae ks)/\w'.cell? (ai (w.heap.size+1) 3)=some (aa kp)) QI ⟨QQ.cell 1,QQ.cell 2,QQ.cell 3⟩ (λhHeld=> ?_);refine Qy 0 (.pointer (some (ai (w.heap.size+1) 1))) hHeld ?_;simp only[Act.put,QC];refine Qy 1 (.agg #[aa kk,ae ks,aa kp]) hHeld ?_;simp only[Act.put,QC];refine Qy 4 (.pointer (some (ai (w.heap.size+1) 1))) hHeld ?_;simp only[Act.put,QC];refine Qy 5 (.agg #[aa kk,ae ks,aa kp]) hHeld ?_;simp only[Act.put,QC];refine wpAnyH_ready (rs:= [2]) QI QE (AllReadyH.cons rfl (λK hK=> ?_) AllReadyH.nil);clear r1 r2 r3 r4;go_simp;refine(PO _ kk ks kp).mono ?_;rw[hkg];rintro e w3 ⟨rfl,QP⟩;have K3:=QQ.drew.below QP QQ.lt;clear hHeld;refine hK.out _ _ ⟨K3.cell 1,K3.cell 2,K3.cell 3⟩ (λhHeld=> ?_);clear hK K;refine Qy 3 (.bool true) hHeld ?_;simp only[Act.put,QC];refine wpAnyH_ready (rs:= [6]) QI QE (AllReadyH.cons rfl (λK hK=> ?_) AllReadyH.nil);clear hK;go_simp;refine(jJ _ kk ks kp).mono ?_;rintro e w4 ⟨rfl,hb⟩;exact⟨rfl,rfl,(B0.drew.trans (QP.mono QF)).trans (hb.mono (by have:=QP.size;simp at this;omega))⟩
def PT (w:an)(tb nb mb:Nat)(types names:ar)(nums:au)(form kk:Int)(ks:am)(kp:Nat)(tk:Int)(ts:am)(tp:Nat)(nk:Int)(ns:am)(np:Nat)(mk:Int)(ms:am)(mp:Nat)(HT:eE w tb types)(HN:eE w nb names)(HM:fJ w mb nums)(d3:nb≠mb)(g1:5≠nb)(hln:names.length<5000)(hlm:nums.length<5000)(QV:nums.Nodup)(hok:iX ms)(hg:GOK w):
  Calls prog 180 #[.agg #[.map (some tb),.map (some nb),.map (some mb)],.agg #[aa form,aa kk,ae ks,aa kp,aa tk,ae ts,aa tp,aa nk,ae ns,aa np,aa mk,ae ms,aa mp]] w (Gm nb mb w (qT types names nums form kk ks kp tk ts tp ns np ms mp)):=by
 unfold qT
 cases hf:(form==4)
 ·simp only[cl,aL,if_false];exact E8 w tb nb mb types names nums form kk ks kp tk ts tp nk ns np mk ms mp HT HN HM d3 g1 hln hlm QV hok hg hf
 ·cases hkg:ii kk ks
  ·simp only[cG,cU,if_true];exact(JE w tb nb mb form kk ks kp tk ts tp nk ns np mk ms mp hf hkg).mono λe w' h=>⟨h.1,dS.of_below h.2⟩
  ·simp only[cF,cr,aL,if_false];exact JD w tb nb mb types names nums form kk ks kp tk ts tp nk ns np mk ms mp HT HN HM d3 g1 hln hlm QV hok hg hf hkg
theorem pE (x:W×W):(CI x).length=6:=rfl
def lg:List ByteArray->List (W×W)->Except Nat (List ByteArray)
 |names,[]=> .ok names
 |names,v::vs=>if iB names v.1.1 then .error v.1.2 else if decide (2147483647<gA v.2.1)then .error v.2.2 else lg (names++ [v.1.1]) vs
def yU {α:Type}(r:Except Nat α)(e:Ending):Prop:=
 match r with
 | .error p=>e=dI 3 p
 | .ok _=>e= .returned (.tuple #[])
theorem Qi (w:World)(eb:Bool)(bk:Int)(bs:ByteArray)(bp:Nat)(pa:Option Addr)(pn pc:Nat)(va:Option Addr)(vn vc:Nat)(vs:List (W×W))(hrow:w.ownsRow 0 302 6 (.slice va vn vc) vs.length (vs.flatMap CI))(hlen:vs.length<=2001)(hnum:∀v∈vs,iX v.2.1)(hg:GOK w):
  Calls Tryz.prog 122 #[.agg #[.bool eb,.int .i64 bk,.string bs,.int .i64 bp,.slice pa pn pc,.slice va vn vc]] w fun e w'=>yU (lg [] vs) e/\Below w.heap.size w w':=by
 have Q5:=eI hrow;subst Q5;have hmm:= @run_makeMap Tryz.prog;have C0:Below w.heap.size w ((w.alloc (Obj.cells #[.bool eb,.int .i64 bk,.string bs,.int .i64 bp,.slice pa pn pc,.slice va vs.length vc] 152)).alloc (Obj.map #[] 0)):=((Below.refl w.heap.size w).alloc (ay _) _).alloc (by simp) _
 have M0:eE ((w.alloc (Obj.cells #[.bool eb,.int .i64 bk,.string bs,.int .i64 bp,.slice pa pn pc,.slice va vs.length vc] 152)).alloc (Obj.map #[] 0)) (w.heap.size+1) []:=by
  have:=World.ownsMap_made (w.alloc (Obj.cells #[.bool eb,.int .i64 bk,.string bs,.int .i64 bp,.slice pa pn pc,.slice va vs.length vc] 152)) Tryz.prog 9 (unitElem (H:=Unit));simpa [eE,setOf]using this
 have zz:((w.alloc (Obj.cells #[.bool eb,.int .i64 bk,.string bs,.int .i64 bp,.slice pa pn pc,.slice va vs.length vc] 152)).alloc (Obj.map #[] 0)).heap.size=w.heap.size+2:=by simp
 generalize hr:lg [] vs=r;have HR:Hid (lg [] vs=r):=hr;clear hr;go_enter Tryz.func122,Tryz.ntmps122;go_wp2;go_loopw [9] (fun i wr=>∃(k:Nat) (names:List ByteArray),k<=vs.length/\i= .int .i64 k/\names.length<=k/\Hid (lg names (vs.drop k)=r)/\eE wr (w.heap.size+1) names/\Below w.heap.size w wr/\w.heap.size+1<wr.heap.size) (fun i _=>vs.length-(intOf i).toNat)
 case atStart=>exact⟨0,[],aM _,rfl,by simp,HR,M0,C0,by omega⟩
 case round=>
  clear M0 C0 zz;obtain⟨k,names,hk,rfl,hnl,HP,HS,CC,hz⟩:=hrel
  by_cases hlt:k<vs.length
  ·obtain⟨v,hv⟩:=gx hlt;have QY:v∈vs:=aI hv
   have QQ:vs.drop k=v::vs.drop (k+1):=by
    rw[aZ hlt];rw[aK hlt]at hv;rw[Option.some.inj hv]
   have QX:Hid (lg names (v::vs.drop (k+1))=r):=by rw[<-QQ];exact HP
   obtain⟨g,rfl,_,Q7,QS⟩:=eh hrow (by omega);have QT:=QS wr (CC.block g Q7);have q0:=QT (k*6) _ ((fL CI 6 pE vs k v hv 0 (by omega)).trans rfl);have q1:=QT (k*6+1) _ ((fL CI 6 pE vs k v hv 1 (by omega)).trans rfl);have q2:=QT (k*6+2) _ ((fL CI 6 pE vs k v hv 2 (by omega)).trans rfl);have q3:=QT (k*6+3) _ ((fL CI 6 pE vs k v hv 3 (by omega)).trans rfl);have q4:=QT (k*6+4) _ ((fL CI 6 pE vs k v hv 4 (by omega)).trans rfl);have q5:=QT (k*6+5) _ ((fL CI 6 pE vs k v hv 5 (by omega)).trans rfl);have QZ:=hnum v QY;have KV:=dK.new wr #[.int .i64 (dH v.1.1),.string v.1.1,.int .i64 v.1.2,.int .i64 (dH v.2.1),.string v.2.1,.int .i64 v.2.2] 302;have CA:=CC.alloc CC.size (Obj.cells #[.int .i64 (dH v.1.1),.string v.1.1,.int .i64 v.1.2,.int .i64 (dH v.2.1),.string v.2.1,.int .i64 v.2.2] 302);have Q0:eE (wr.alloc (Obj.cells #[.int .i64 (dH v.1.1),.string v.1.1,.int .i64 v.1.2,.int .i64 (dH v.2.1),.string v.2.1,.int .i64 v.2.2] 302)) (w.heap.size+1) names:=HS.keep (Below.heap_alloc _ _ _ HS.lt);clear QS QT hv QQ HP QY;go_wp2_with fail;clear q0 q1 q2 q3 q4 q5;refine(NZ _ (w.heap.size+1) names _ v.1.1 v.1.2 Q0 (by omega)).mono ?_
   cases h1:iB names v.1.1
   rotate_left
   ·rintro e w4 ⟨rfl,Q8⟩;obtain rfl:r= .error v.1.2:=by rw[<-QX.out,lg];simp only[h1,if_true]
    unfold dI;go_wp2;exact⟨rfl,rfl,CA.trans (Q8.mono CA.size)⟩
   rintro e w4 ⟨rfl,Q2,Q3⟩;have C4:Below w.heap.size w w4:=CA.trans (Q3.to_below CA.size (by intro x hx;simp at hx;omega));have QP:dK w4 wr.heap.size #[.int .i64 (dH v.1.1),.string v.1.1,.int .i64 v.1.2,.int .i64 (dH v.2.1),.string v.2.1,.int .i64 v.2.2] 302:=(Q3.block _ KV.lt (by simp;omega)).trans KV;have Q1:GOK w4:=hg.keep (C4.block _ hg.lt);have z4:=QP.lt;clear KV CA Q0;go_wp2_with fail
   cases h2:decide (2147483647<gA v.2.1)
   rotate_left
   ·have hd:(2147483647:Int)<((gA v.2.1:Nat):Int):=by have:=of_decide_eq_true h2;omega
    obtain rfl:r= .error v.2.2:=by rw[<-QX.out,lg];simp only[h1,h2,if_true,aL,if_false]
    refine wp_region_held_drew (S:=fun w'=>w'.cell? ⟨wr.heap.size,3,none⟩=some (.int .i64 (dH v.2.1))/\w'.cell? ⟨wr.heap.size,4,none⟩=some (.string v.2.1)/\w'.cell? ⟨wr.heap.size,5,none⟩=some (.int .i64 v.2.2)) (by kernel_rfl) ⟨QP.cell 3,QP.cell 4,QP.cell 5⟩ (fun hHeld=> ?_);refine Qy 0 (.pointer (some ⟨wr.heap.size,3,none⟩)) hHeld ?_;simp only[Act.put,QC];refine Qy 1 (.agg #[.int .i64 (dH v.2.1),.string v.2.1,.int .i64 v.2.2]) hHeld ?_;simp only[Act.put,QC];refine Qy 4 (.pointer (some ⟨wr.heap.size,3,none⟩)) hHeld ?_;simp only[Act.put,QC];refine Qy 5 (.agg #[.int .i64 (dH v.2.1),.string v.2.1,.int .i64 v.2.2]) hHeld ?_;simp only[Act.put,QC];refine wpAnyH_ready (rs:= [2]) (by kernel_rfl) (by simp) (AllReadyH.cons rfl (fun K hK=> ?_) AllReadyH.nil);go_simp;refine(Mh _ _ v.2.1 v.2.2 QZ (Q1.keep (w':=w4.drew) rfl)).mono ?_;rintro e w5 ⟨rfl,QV⟩;have K5:=QP.drew.below QV QP.lt;clear hHeld;refine hK.out _ _ ⟨K5.cell 3,K5.cell 4,K5.cell 5⟩ (fun hHeld=> ?_);clear hK K;refine Qy 3 (.bool true) hHeld ?_;simp only[Act.put,QC];refine wpAnyH_ready (rs:= [6]) (by kernel_rfl) (by simp) (AllReadyH.cons rfl (fun K hK=> ?_) AllReadyH.nil);clear hK;go_simp;refine(jJ _ _ v.2.1 v.2.2).mono ?_;rintro e w6 ⟨rfl,hb⟩;exact⟨rfl,rfl,(C4.drew.trans (QV.mono C4.size)).trans (hb.mono (aH C4.size QV.size))⟩
   have hd:decide ((2147483647:Int)<((gA v.2.1:Nat):Int))=false:=by have:=of_decide_eq_false h2;simp;omega
   have Q6:Hid (lg (names++ [v.1.1]) (vs.drop (k+1))=r):=by
    have:=QX.out;rw[lg]at this;simp only[h1,h2,aL,if_false]at this;exact this
   go_region_held3 (fun w'=>w'.cell? ⟨wr.heap.size,3,none⟩=some (.int .i64 (dH v.2.1))/\w'.cell? ⟨wr.heap.size,4,none⟩=some (.string v.2.1)/\w'.cell? ⟨wr.heap.size,5,none⟩=some (.int .i64 v.2.2))
    (first|exact⟨K6.cell 3,K6.cell 4,K6.cell 5⟩|exact⟨K5.cell 3,K5.cell 4,K5.cell 5⟩|exact⟨QP.cell 3,QP.cell 4,QP.cell 5⟩)
    (first|(go_at_call 165;refine(Mh _ _ v.2.1 v.2.2 QZ (Q1.keep (w':=w4.drew) rfl)).mono ?_;rintro e w5 ⟨rfl,QV⟩;have K5:=QP.drew.below QV QP.lt)|(go_at_call 123;refine(oz _ _ v.2.1 v.2.2).mono ?_;rintro e w6 ⟨rfl,Q4⟩;have K6:=K5.below Q4 K5.lt))
   go_wp2;go_roundw
   case rel=>
    go_light;have QW:Below w4.heap.size w4 w5:=(Below.refl w4.heap.size w4).drew.trans QV;have QU:Below w4.heap.size w4 w6:=QW.trans (Q4.mono QW.size);refine⟨k+1,names++ [v.1.1],by omega,by go_num,by simp;omega,Q6,Q2.keep (QU.block _ Q2.lt),C4.trans (QU.mono C4.size),?_⟩;have:=QU.size;omega
   case measure=>go_light;simp[intOf];omega
  ·have QR:vs.drop k= []:=by rw[cE];omega
   obtain rfl:r= .ok names:=by rw[<-HP.out,QR];rfl
   clear QR;go_wp2;go_end0;exact⟨rfl,CC⟩
def Ml (f:eD):p6 f= [aa f.form,aa (mE f.key),ae (jm f.key),aa (mA f.key),aa (dH f.type.1),ae f.type.1,aa f.type.2,aa (dH f.name.1),ae f.name.1,aa f.name.2,aa (dH f.num.1),ae f.num.1,aa f.num.2]:=by
 obtain⟨form,key,ty,nm,nu⟩:=f
 cases key<;>rfl
def qU {w:an}{g:Nat}{fs:List eD}{j:Nat}{f:eD}(hf:fs[j]?=some f)(h:∀(i:Nat) v,(fs.flatMap p6)[i]?=some v->w.cell? (ai g i)=some v):
  w.cell? (ai g (j*13))=some (aa f.form)/\w.cell? (ai g (j*13+1))=some (aa (mE f.key))/\w.cell? (ai g (j*13+2))=some (ae (jm f.key))/\w.cell? (ai g (j*13+3))=some (aa (mA f.key))/\w.cell? (ai g (j*13+4))=some (aa (dH f.type.1))/\w.cell? (ai g (j*13+5))=some (ae f.type.1)/\w.cell? (ai g (j*13+6))=some (aa f.type.2)/\w.cell? (ai g (j*13+7))=some (aa (dH f.name.1))/\w.cell? (ai g (j*13+8))=some (ae f.name.1)/\w.cell? (ai g (j*13+9))=some (aa f.name.2)/\w.cell? (ai g (j*13+10))=some (aa (dH f.num.1))/\w.cell? (ai g (j*13+11))=some (ae f.num.1)/\w.cell? (ai g (j*13+12))=some (aa f.num.2):=by
 have hg:=λ(i:Nat) hi=>fL p6 13 Jw fs j f hf i hi
 rw[Ml]at hg;refine⟨h _ _ (hg 0 QD),h _ _ (hg 1 QD),h _ _ (hg 2 QD),h _ _ (hg 3 QD),h _ _ (hg 4 QD),h _ _ (hg 5 QD),h _ _ (hg 6 QD),h _ _ (hg 7 QD),h _ _ (hg 8 QD),h _ _ (hg 9 QD),h _ _ (hg 10 QD),h _ _ (hg 11 QD),h _ _ (hg 12 QD)⟩
def fj.get {w:an}{S:ap}:∀{ps:List fC} {cs:aq} {i:Nat} {p:fC},fj w S cs ps->ps[i]?=some p->∃fa fn fc,
   cs[i*4]?=some (aa (mE p.oneof))/\cs[i*4+1]?=some (ae (jm p.oneof))/\cs[i*4+2]?=some (aa (mA p.oneof))/\cs[i*4+3]?=some (.slice fa fn fc)/\
   et w S 211 13 (.slice fa fn fc) p.fields.length (p.fields.flatMap p6)
 | [],_,_,_,_,h=>by simp at h
 |q::ps,cs,0,p,⟨fa,fn,fc,rest,h1,h2,h3⟩,h=>by
  simp at h;subst h h1;exact⟨fa,fn,fc,rfl,rfl,rfl,rfl,h2⟩
 |q::ps,cs,i+1,p,⟨fa,fn,fc,rest,h1,h2,h3⟩,h=>by
  subst h1;obtain⟨ga,gn,gc,e0,e1,e2,e3,e4⟩:=fj.get h3 (i:=i) (by simpa using h);have e:(i+1)*4=i*4+1+1+1+1:=QD;refine⟨ga,gn,gc,?_,?_,?_,?_,e4⟩
  ·rw[e];simpa using e0
  ·rw[show(i+1)*4+1=(i*4+1)+1+1+1+1 from by omega];simpa using e1
  ·rw[show(i+1)*4+2=(i*4+2)+1+1+1+1 from by omega];simpa using e2
  ·rw[show(i+1)*4+3=(i*4+3)+1+1+1+1 from by omega];simpa using e3
def nX (types names:ar)(nums:au)(f:eD):Except Nat (ar×au):=
 qT types names nums f.form (mE f.key) (jm f.key) (mA f.key) (dH f.type.1) f.type.1 f.type.2 f.name.1 f.name.2 f.num.1 f.num.2
def fM (types:ar):ar->au->List eD->Except Nat (ar×au)
 |names,nums,[]=> .ok (names,nums)
 |names,nums,f::fs=>
  match nX types names nums f with
  | .error p=> .error p
  | .ok (n,m)=>fM types n m fs
def oA (types names:ar)(nums:au)(p:fC):Except Nat (ar×au):=
 if mE p.oneof==1 then
  if iB names (jm p.oneof)then .error (mA p.oneof)else fM types (names++ [jm p.oneof]) nums p.fields
 else fM types names nums p.fields
def gF (types:ar):ar->au->List fC->Except Nat (ar×au)
 |names,nums,[]=> .ok (names,nums)
 |names,nums,p::ps=>
  match oA types names nums p with
  | .error q=> .error q
  | .ok (n,m)=>gF types n m ps
def ku:List fC->Nat
 | []=>0
 |p::ps=>1+p.fields.length+ku ps
def uS:∀ps:List fC,ps.length<=ku ps
 | []=>ay _
 |p::ps=>by have:=uS ps;simp only[bE,ku];omega
def qz {types names:ar}{nums:au}{f:eD}{n:ar}{m:au}(h:nX types names nums f= .ok (n,m))(QV:nums.Nodup):
  n.length=names.length+1/\m.length=nums.length+1/\m.Nodup:=by
 unfold nX qT ij at h
 split at h
 ·simp at h
 ·split at h
  ·simp at h
  ·split at h
   ·simp at h
   ·split at h
    ·simp at h
    ·split at h
     ·simp at h
     ·rename_i hb
      simp at h;obtain⟨rfl,rfl⟩:=h;refine⟨QE,QE,?_⟩
      have hm:wU nums (gA f.num.1)=false:=by
       unfold qy at hb;simp at hb;exact hb.2.2
      rw[dw];refine⟨QV,QE,λa ha b Ru=> ?_⟩;simp at Ru;subst Ru;rintro rfl;unfold wU at hm;rw[dv]at hm;exact hm _ ha QE
def Qj (w:an)(tb:Nat)(types:ar)(eb:Bool)(bk:Int)(bs:am)(bp:Nat)(pa:aw)(pn pc:Nat)(va:aw)(vn vc:Nat)(ps:List fC)(pcs:aq)(S:ap)
  (hrow:et w S 208 4 (.slice pa pn pc) ps.length pcs) (hps:fj w S pcs ps) (HT:eE w tb types) (hlen:ku ps<=2001) (hnum:∀p∈ps,∀f∈p.fields,iX f.num.1) (hg:GOK w):
  Calls prog 124 #[.agg #[.bool eb,aa bk,ae bs,aa bp,.slice pa pn pc,.slice va vn vc],.map (some tb)] w λe w'=>yU (gF types [] [] ps) e/\aj w w':=by
 have Rx:=eI hrow.1;subst Rx;have hmm:= @run_makeMap prog;have Rp:=HT.lt;have hpl:ps.length<=2001:=aH (uS ps) hlen;have C0:aj w ((((w.alloc (ak #[.bool eb,aa bk,ae bs,aa bp,.slice pa ps.length pc,.slice va vn vc] 152)).alloc (Obj.map #[] 0)).alloc (Obj.map #[] 0)).alloc (ak #[.map (some tb),.map (some (w.heap.size+1)),.map (some (w.heap.size+1+1))] 306)):=((((Below.refl w.heap.size w).alloc (ay _) _).alloc QE _).alloc QF _).alloc QF _
 have M0:eE ((((w.alloc (ak #[.bool eb,aa bk,ae bs,aa bp,.slice pa ps.length pc,.slice va vn vc] 152)).alloc (Obj.map #[] 0)).alloc (Obj.map #[] 0)).alloc (ak #[.map (some tb),.map (some (w.heap.size+1)),.map (some (w.heap.size+1+1))] 306)) (w.heap.size+1) []:=by
  have:=((World.ownsMap_made (w.alloc (ak #[.bool eb,aa bk,ae bs,aa bp,.slice pa ps.length pc,.slice va vn vc] 152)) prog 9 (unitElem (H:=Unit))).alloc (Obj.map #[] 0)).alloc (ak #[.map (some tb),.map (some (w.heap.size+1)),.map (some (w.heap.size+1+1))] 306);simpa [eE,setOf]using this
 have M1:fJ ((((w.alloc (ak #[.bool eb,aa bk,ae bs,aa bp,.slice pa ps.length pc,.slice va vn vc] 152)).alloc (Obj.map #[] 0)).alloc (Obj.map #[] 0)).alloc (ak #[.map (some tb),.map (some (w.heap.size+1)),.map (some (w.heap.size+1+1))] 306)) (w.heap.size+1+1) []:=by
  have:=(World.ownsMap_made ((w.alloc (ak #[.bool eb,aa bk,ae bs,aa bp,.slice pa ps.length pc,.slice va vn vc] 152)).alloc (Obj.map #[] 0)) prog 53 (unitElem (H:=Unit))).alloc (ak #[.map (some tb),.map (some (w.heap.size+1)),.map (some (w.heap.size+1+1))] 306);simpa [fJ,setOf]using this
 have K0:dK ((((w.alloc (ak #[.bool eb,aa bk,ae bs,aa bp,.slice pa ps.length pc,.slice va vn vc] 152)).alloc (Obj.map #[] 0)).alloc (Obj.map #[] 0)).alloc (ak #[.map (some tb),.map (some (w.heap.size+1)),.map (some (w.heap.size+1+1))] 306)) (w.heap.size+1+1+1) #[.map (some tb),.map (some (w.heap.size+1)),.map (some (w.heap.size+1+1))] 306:=by
  have:=dK.new (((w.alloc (ak #[.bool eb,aa bk,ae bs,aa bp,.slice pa ps.length pc,.slice va vn vc] 152)).alloc (Obj.map #[] 0)).alloc (Obj.map #[] 0)) #[.map (some tb),.map (some (w.heap.size+1)),.map (some (w.heap.size+1+1))] 306;simpa using this
 generalize hr:gF types [] [] ps=r;have HR:Hid (gF types [] [] ps=r):=hr;clear hr;go_enter func124,ntmps124;go_wp2;go_loopw [16] (λi wr=>∃(k:Nat) (names:ar) (nums:au),k<=ps.length/\i=aa k/\names.length+ku (ps.drop k)<=2001/\nums.length+ku (ps.drop k)<=2001/\nums.Nodup/\Hid (gF types names nums (ps.drop k)=r)/\eE wr (w.heap.size+1) names/\fJ wr (w.heap.size+1+1) nums/\dK wr (w.heap.size+1+1+1) #[.map (some tb),.map (some (w.heap.size+1)),.map (some (w.heap.size+1+1))] 306/\aj w wr) (λi _=>ps.length-(intOf i).toNat)
 case atStart=>exact⟨0,[],[],aM _,rfl,by simpa using hlen,by simpa using hlen,List.nodup_nil,HR,M0,M1,K0,C0⟩
 case round=>
  clear M0 M1 K0 C0;obtain⟨k,names,nums,hk,rfl,Rb,Rc,QV,HP,HS,HM,KC,CW⟩:=hrel
  by_cases hlt:k<ps.length
  ·obtain⟨p,hp⟩:=gx hlt;have Rq:p∈ps:=aI hp
   have QQ:ps.drop k=p::ps.drop (k+1):=by
    rw[aZ hlt];rw[aK hlt]at hp;rw[Option.some.inj hp]
   rw[QQ]at Rb Rc;simp only[ku]at Rb Rc;have Q5:Hid (gF types names nums (p::ps.drop (k+1))=r):=by rw[<-QQ];exact HP
   obtain⟨g,rfl,_,Rz,Q1⟩:=eh hrow.1 QD;obtain⟨fa,fn,fc,p0,p1,p2,p3,Rj⟩:=hps.get hp;have Ry:=eI Rj.1;subst Ry;have Q6:=Q1 wr (CW.block g Rz);have q0:=Q6 _ _ p0;have q1:=Q6 _ _ p1;have q2:=Q6 _ _ p2;have q3:=Q6 _ _ p3;have KP:=dK.new wr #[aa (mE p.oneof),ae (jm p.oneof),aa (mA p.oneof),.slice fa p.fields.length fc] 208;have CA:=CW.alloc CW.size (ak #[aa (mE p.oneof),ae (jm p.oneof),aa (mA p.oneof),.slice fa p.fields.length fc] 208);have QZ:eE (wr.alloc (ak #[aa (mE p.oneof),ae (jm p.oneof),aa (mA p.oneof),.slice fa p.fields.length fc] 208)) (w.heap.size+1) names:=HS.keep (Below.heap_alloc _ _ _ HS.lt);have QX:fJ (wr.alloc (ak #[aa (mE p.oneof),ae (jm p.oneof),aa (mA p.oneof),.slice fa p.fields.length fc] 208)) (w.heap.size+1+1) nums:=HM.keep (Below.heap_alloc _ _ _ HM.lt);have QU:=KC.alloc (ak #[aa (mE p.oneof),ae (jm p.oneof),aa (mA p.oneof),.slice fa p.fields.length fc] 208);have zc:=KC.lt;obtain⟨c1,c2⟩:=QU.rules;have Q0:=hnum p Rq;clear Q1 Q6 hp QQ HP Rq p0 p1 p2 p3 HS HM KC;obtain⟨rp,Q4⟩:∃rp,Hid (oA types names nums p=rp):=⟨_,rfl⟩
   cases ho:(mE p.oneof==1)
   ·have QW:Hid (fM types names nums p.fields=rp):=by
     have:=Q4.out;unfold oA at this;simp only[ho,aL,if_false]at this;exact this
    go_wp2_with fail;go_loopw [32] (λi wr=>∃(j:Nat) (names:ar) (nums:au),j<=p.fields.length/\i=aa j/\names.length+(p.fields.length-j)+ku (ps.drop (k+1))<=2001/\nums.length+(p.fields.length-j)+ku (ps.drop (k+1))<=2001/\nums.Nodup/\Hid (fM types names nums (p.fields.drop j)=rp)/\eE wr (w.heap.size+1) names/\fJ wr (w.heap.size+1+1) nums/\dK wr (w.heap.size+1+1+1) #[.map (some tb),.map (some (w.heap.size+1)),.map (some (w.heap.size+1+1))] 306/\aj w wr) (λi _=>p.fields.length-(intOf i).toNat)
    case atStart=>exact⟨0,names,nums,aM _,rfl,QD,QD,QV,QW,QZ,QX,QU,CA⟩
    case round=>
     clear QZ QX QU CA QW c1 c2 q0 q1 q2 q3 KP;obtain⟨j,names,nums,hj,rfl,Rb,Rc,QV,HQ,HS,HM,KC,CW⟩:=hrel
     by_cases hlt2:j<p.fields.length
     ·obtain⟨f,hf⟩:=gx hlt2;have Q7:f∈p.fields:=aI hf
      have QQ:p.fields.drop j=f::p.fields.drop (j+1):=by
       rw[aZ hlt2];rw[aK hlt2]at hf;rw[Option.some.inj hf]
      have Q8:Hid (fM types names nums (f::p.fields.drop (j+1))=rp):=by rw[<-QQ];exact HQ
      obtain⟨gf,rfl,_,Q3,QS⟩:=eh Rj.1 QD;have Q9:=QS wr (CW.block gf Q3);obtain⟨t0,t1,t2,t3,t4,t5,t6,t7,t8,t9,Rk,Rl,Rm⟩:=qU hf Q9;have KF:=dK.new wr (FC f) 211;have CA:=CW.alloc CW.size (FO f);have QZ:eE (wr.alloc (FO f)) (w.heap.size+1) names:=HS.keep (Below.heap_alloc _ _ _ HS.lt);have QX:fJ (wr.alloc (FO f)) (w.heap.size+1+1) nums:=HM.keep (Below.heap_alloc _ _ _ HM.lt);have Re:eE (wr.alloc (FO f)) tb types:=HT.keep (CA.block _ Rp);have Rf:GOK (wr.alloc (FO f)):=hg.keep (CA.block _ hg.lt);have QU:=KC.alloc (FO f);have zc:=KC.lt;obtain⟨c1,c2⟩:=QU.rules;have Q2:=Q0 f Q7;clear QS Q9 hf QQ HQ Q7 HS HM KC;go_wp2_with fail;clear t0 t1 t2 t3 t4 t5 t6 t7 t8 t9 Rk Rl Rm c1 c2;refine(PT _ tb (w.heap.size+1) (w.heap.size+1+1) types names nums _ _ _ _ _ _ _ _ _ _ _ _ _ Re QZ QX QD (by have:=hg.lt;omega) QD QD QV Q2 Rf).mono ?_
      cases h5:nX types names nums f with
      |error q=>
       have h6:qT types names nums f.form (mE f.key) (jm f.key) (mA f.key) (dH f.type.1) f.type.1 f.type.2 f.name.1 f.name.2 f.num.1 f.num.2= .error q:=h5;rw[h6];rintro e w5 ⟨rfl,QY⟩;obtain rfl:rp= .error q:=by rw[<-Q8.out,fM,h5]
       obtain rfl:r= .error q:=by rw[<-Q5.out,gF,Q4.out]
       unfold dI;go_wp2;exact⟨rfl,rfl,CA.trans (QY.to_below CA.size (by intro x hx;simp at hx;omega))⟩
      |ok nm=>
       obtain⟨QP,QT⟩:=nm;have h6:qT types names nums f.form (mE f.key) (jm f.key) (mA f.key) (dH f.type.1) f.type.1 f.type.2 f.name.1 f.name.2 f.num.1 f.num.2= .ok (QP,QT):=h5;rw[h6];rintro e w5 ⟨rfl,Rn,Ro,QY⟩;obtain⟨l1,l2,l3⟩:=qz h5 QV
       have Rg:Hid (fM types QP QT (p.fields.drop (j+1))=rp):=by
        have:=Q8.out;rw[fM,h5]at this;exact this
       have C5:aj w w5:=CA.trans (QY.to_below CA.size (by intro x hx;simp at hx;omega));have Rh:dK w5 (w.heap.size+1+1+1) #[.map (some tb),.map (some (w.heap.size+1)),.map (some (w.heap.size+1+1))] 306:=(QY.block _ QU.lt QF).trans QU;go_wp2;go_roundw
       case rel=>exact⟨j+1,QP,QT,QD,by go_num,QD,QD,l3,Rg,Rn,Ro,Rh,C5⟩
       case measure=>simp[intOf];omega
     ·have QR:p.fields.drop j= []:=by rw[cE];omega
      obtain rfl:rp= .ok (names,nums):=by rw[<-HQ.out,QR];rfl
      have Ri:Hid (gF types names nums (ps.drop (k+1))=r):=by
       have:=Q5.out;rw[gF,Q4.out]at this;exact this
      clear QR;go_wp2;go_roundw
      case rel=>exact⟨k+1,names,nums,QD,by go_num,QD,QD,QV,Ri,HS,HM,KC,CW⟩
      case measure=>simp[intOf];omega
   ·go_wp2_with fail;refine(NZ _ (w.heap.size+1) names _ _ _ QZ QD).mono ?_
    cases h1:iB names (jm p.oneof)
    rotate_left
    ·rintro e w4 ⟨rfl,RA⟩
     obtain rfl:r= .error (mA p.oneof):=by
      rw[<-Q5.out,gF,oA];simp only[ho,h1,if_true]
     unfold dI;go_wp2;exact⟨rfl,rfl,CA.trans (RA.mono CA.size)⟩
    rintro e w4 ⟨rfl,Rw,Ra⟩
    have QW:Hid (fM types (names++ [jm p.oneof]) nums p.fields=rp):=by
     have:=Q4.out;unfold oA at this;simp only[ho,h1,aL,if_true,if_false]at this;exact this
    have C4:aj w w4:=CA.trans (Ra.to_below CA.size (by intro x hx;simp at hx;omega));have Rr:dK w4 (w.heap.size+1+1+1) #[.map (some tb),.map (some (w.heap.size+1)),.map (some (w.heap.size+1+1))] 306:=(Ra.block _ QU.lt QF).trans QU;have Rs:dK w4 wr.heap.size #[aa (mE p.oneof),ae (jm p.oneof),aa (mA p.oneof),.slice fa p.fields.length fc] 208:=(Ra.block _ KP.lt QF).trans KP;have Rt:fJ w4 (w.heap.size+1+1) nums:=QX.keep (Ra.block _ QX.lt QE);obtain⟨y1,y2⟩:=Rs.rules;clear c1 c2 q0 q1 q2 q3;go_wp2_with fail;go_loopw [32] (λi wr=>∃(j:Nat) (names:ar) (nums:au),j<=p.fields.length/\i=aa j/\names.length+(p.fields.length-j)+ku (ps.drop (k+1))<=2001/\nums.length+(p.fields.length-j)+ku (ps.drop (k+1))<=2001/\nums.Nodup/\Hid (fM types names nums (p.fields.drop j)=rp)/\eE wr (w.heap.size+1) names/\fJ wr (w.heap.size+1+1) nums/\dK wr (w.heap.size+1+1+1) #[.map (some tb),.map (some (w.heap.size+1)),.map (some (w.heap.size+1+1))] 306/\aj w wr) (λi _=>p.fields.length-(intOf i).toNat)
    case atStart=>exact⟨0,names++ [jm p.oneof],nums,aM _,rfl,QF,QD,QV,QW,Rw,Rt,Rr,C4⟩
    case round=>
     clear QZ QX QU CA QW y1 y2 Rs Rr Rt Rw C4 Ra KP;obtain⟨j,names,nums,hj,rfl,Rb,Rc,QV,HQ,HS,HM,KC,CW⟩:=hrel
     by_cases hlt2:j<p.fields.length
     ·obtain⟨f,hf⟩:=gx hlt2;have Q7:f∈p.fields:=aI hf
      have QQ:p.fields.drop j=f::p.fields.drop (j+1):=by
       rw[aZ hlt2];rw[aK hlt2]at hf;rw[Option.some.inj hf]
      have Q8:Hid (fM types names nums (f::p.fields.drop (j+1))=rp):=by rw[<-QQ];exact HQ
      obtain⟨gf,rfl,_,Q3,QS⟩:=eh Rj.1 QD;have Q9:=QS wr (CW.block gf Q3);obtain⟨t0,t1,t2,t3,t4,t5,t6,t7,t8,t9,Rk,Rl,Rm⟩:=qU hf Q9;have KF:=dK.new wr (FC f) 211;have CA:=CW.alloc CW.size (FO f);have QZ:eE (wr.alloc (FO f)) (w.heap.size+1) names:=HS.keep (Below.heap_alloc _ _ _ HS.lt);have QX:fJ (wr.alloc (FO f)) (w.heap.size+1+1) nums:=HM.keep (Below.heap_alloc _ _ _ HM.lt);have Re:eE (wr.alloc (FO f)) tb types:=HT.keep (CA.block _ Rp);have Rf:GOK (wr.alloc (FO f)):=hg.keep (CA.block _ hg.lt);have QU:=KC.alloc (FO f);have zc:=KC.lt;obtain⟨c1,c2⟩:=QU.rules;have Q2:=Q0 f Q7;clear QS Q9 hf QQ HQ Q7 HS HM KC;go_wp2_with fail;clear t0 t1 t2 t3 t4 t5 t6 t7 t8 t9 Rk Rl Rm c1 c2;refine(PT _ tb (w.heap.size+1) (w.heap.size+1+1) types names nums _ _ _ _ _ _ _ _ _ _ _ _ _ Re QZ QX QD (by have:=hg.lt;omega) QD QD QV Q2 Rf).mono ?_
      cases h5:nX types names nums f with
      |error q=>
       have h6:qT types names nums f.form (mE f.key) (jm f.key) (mA f.key) (dH f.type.1) f.type.1 f.type.2 f.name.1 f.name.2 f.num.1 f.num.2= .error q:=h5;rw[h6];rintro e w5 ⟨rfl,QY⟩;obtain rfl:rp= .error q:=by rw[<-Q8.out,fM,h5]
       obtain rfl:r= .error q:=by rw[<-Q5.out,gF,Q4.out]
       unfold dI;go_wp2;exact⟨rfl,rfl,CA.trans (QY.to_below CA.size (by intro x hx;simp at hx;omega))⟩
      |ok nm=>
       obtain⟨QP,QT⟩:=nm;have h6:qT types names nums f.form (mE f.key) (jm f.key) (mA f.key) (dH f.type.1) f.type.1 f.type.2 f.name.1 f.name.2 f.num.1 f.num.2= .ok (QP,QT):=h5;rw[h6];rintro e w5 ⟨rfl,Rn,Ro,QY⟩;obtain⟨l1,l2,l3⟩:=qz h5 QV
       have Rg:Hid (fM types QP QT (p.fields.drop (j+1))=rp):=by
        have:=Q8.out;rw[fM,h5]at this;exact this
       have C5:aj w w5:=CA.trans (QY.to_below CA.size (by intro x hx;simp at hx;omega));have Rh:dK w5 (w.heap.size+1+1+1) #[.map (some tb),.map (some (w.heap.size+1)),.map (some (w.heap.size+1+1))] 306:=(QY.block _ QU.lt QF).trans QU;go_wp2;go_roundw
       case rel=>exact⟨j+1,QP,QT,QD,by go_num,QD,QD,l3,Rg,Rn,Ro,Rh,C5⟩
       case measure=>simp[intOf];omega
     ·have QR:p.fields.drop j= []:=by rw[cE];omega
      obtain rfl:rp= .ok (names,nums):=by rw[<-HQ.out,QR];rfl
      have Ri:Hid (gF types names nums (ps.drop (k+1))=r):=by
       have:=Q5.out;rw[gF,Q4.out]at this;exact this
      clear QR;go_wp2;go_roundw
      case rel=>exact⟨k+1,names,nums,QD,by go_num,QD,QD,QV,Ri,HS,HM,KC,CW⟩
      case measure=>simp[intOf];omega
  ·have QR:ps.drop k= []:=by rw[cE];omega
   obtain rfl:r= .ok (names,nums):=by rw[<-HP.out,QR];rfl
   clear QR;go_wp2;go_end0;exact⟨rfl,CW⟩
def eO.get {w:an}{S:ap}:∀{bs:List dO} {cs:aq} {i:Nat} {b:dO},eO w S cs bs->bs[i]?=some b->∃pa pn pc va vn vc,
   cs[i*6+0]?=some (.bool b.enum)/\cs[i*6+1]?=some (aa (dH b.name.1))/\cs[i*6+2]?=some (ae b.name.1)/\cs[i*6+3]?=some (aa b.name.2)/\cs[i*6+4]?=some (.slice pa pn pc)/\cs[i*6+5]?=some (.slice va vn vc)/\ju w S b (.slice pa pn pc) (.slice va vn vc)
 | [],_,_,_,_,h=>by simp at h
 |q::bs,cs,0,b,⟨pa,pn,pc,va,vn,vc,rest,h1,h2,h3⟩,h=>by
  simp at h;subst h h1;exact⟨pa,pn,pc,va,vn,vc,rfl,rfl,rfl,rfl,rfl,rfl,h2⟩
 |q::bs,cs,i+1,b,⟨pa,pn,pc,va,vn,vc,rest,h1,h2,h3⟩,h=>by
  subst h1;obtain⟨Ro,Rp,Rq,Rr,Rs,Rt,e0,e1,e2,e3,e4,e5,e6⟩:=eO.get h3 (i:=i) (by simpa using h);refine⟨Ro,Rp,Rq,Rr,Rs,Rt,?_,?_,?_,?_,?_,?_,e6⟩
  ·rw[show(i+1)*6+0=(i*6+0)+1+1+1+1+1+1 from by omega];simpa using e0
  ·rw[show(i+1)*6+1=(i*6+1)+1+1+1+1+1+1 from by omega];simpa using e1
  ·rw[show(i+1)*6+2=(i*6+2)+1+1+1+1+1+1 from by omega];simpa using e2
  ·rw[show(i+1)*6+3=(i*6+3)+1+1+1+1+1+1 from by omega];simpa using e3
  ·rw[show(i+1)*6+4=(i*6+4)+1+1+1+1+1+1 from by omega];simpa using e4
  ·rw[show(i+1)*6+5=(i*6+5)+1+1+1+1+1+1 from by omega];simpa using e5
structure nY (b:dO):Prop where
 name:b.name.1.size<=2000
 vals:b.values.length<=2001
 vnum:∀v∈b.values,iX v.2.1
 parts:ku b.parts<=2001
 fnum:∀p∈b.parts,∀f∈p.fields,iX f.num.1
def fG (types:ar):ar->Nat->List dO->Except Nat Unit
 |_,_,[]=> .ok ()
 |names,m,b::bs=>
  if iB names b.name.1 then .error b.name.2
  else if b.enum then
   match lg [] b.values with
   | .error p=> .error p
   | .ok _=>fG types (names++ [b.name.1]) m bs
  else if decide (6<m+1)then .error b.name.2
  else
   match gF types [] [] b.parts with
   | .error p=> .error p
   | .ok _=>fG types (names++ [b.name.1]) (m+1) bs
def fH (bs:List dO):ar:=bs.map λb=>b.name.1
def Ql (w:an)(ta:aw)(tn tc:Nat)(bs:List dO)(cs:aq)(S:ap)(hrow:et w S 152 6 (.slice ta tn tc) bs.length cs)(hbs:eO w S cs bs)(hlen:bs.length<=2001)(hok:∀b∈bs,nY b):
  Calls prog 120 #[.agg #[.slice ta tn tc]] w λe w'=>e= .returned (.map (some (w.heap.size+1)))/\eE w' (w.heap.size+1) (fH bs)/\aj w w':=by
 have Q6:=eI hrow.1;subst Q6;have Rk:= @run_makeMap prog;have C0:aj w ((w.alloc (ak #[.slice ta bs.length tc] 87)).alloc (Obj.map #[] 0)):=((Below.refl w.heap.size w).alloc (ay _) _).alloc QE _
 have M0:eE ((w.alloc (ak #[.slice ta bs.length tc] 87)).alloc (Obj.map #[] 0)) (w.heap.size+1) []:=by
  have:=World.ownsMap_made (w.alloc (ak #[.slice ta bs.length tc] 87)) prog 9 (unitElem (H:=Unit));simpa [eE,setOf]using this
 go_enter func120,ntmps120;go_wp2;go_loopw [10] (λi wr=>∃(k:Nat),k<=bs.length/\i=aa k/\eE wr (w.heap.size+1) (fH (bs.take k))/\aj w wr) (λi _=>bs.length-(intOf i).toNat)
 case atStart=>exact⟨0,aM _,rfl,M0,C0⟩
 case round=>
  clear M0 C0;obtain⟨k,hk,rfl,HS,CW⟩:=hrel
  by_cases hlt:k<bs.length
  ·obtain⟨b,hb⟩:=gx hlt;have QV:=hok b (aI hb);obtain⟨g,rfl,_,Rg,QP⟩:=eh hrow.1 QD;obtain⟨pa,pn,pc,va,vn,vc,p0,p1,p2,p3,p4,p5,Q4⟩:=hbs.get hb;have QQ:=QP wr (CW.block g Rg);rw[Nat.add_zero]at p0;have q0:=QQ _ _ p0;have q1:=QQ _ _ p1;have q2:=QQ _ _ p2;have q3:=QQ _ _ p3;have q4:=QQ _ _ p4;have q5:=QQ _ _ p5;have KB:=dK.new wr #[.bool b.enum,aa (dH b.name.1),ae b.name.1,aa b.name.2,.slice pa pn pc,.slice va vn vc] 152;have CA:=CW.alloc CW.size (ak #[.bool b.enum,aa (dH b.name.1),ae b.name.1,aa b.name.2,.slice pa pn pc,.slice va vn vc] 152);clear QP QQ p0 p1 p2 p3 p4 p5
   have HL:Hid (fH (bs.take (k+1))=fH (bs.take k)++ [b.name.1]):=by
    unfold Hid fH;rw[bB,hb];simp
   have Q1:eE (wr.alloc (ak #[.bool b.enum,aa (dH b.name.1),ae b.name.1,aa b.name.2,.slice pa pn pc,.slice va vn vc] 152)) (w.heap.size+1) (fH (bs.take k)):=HS.keep (Below.heap_alloc _ _ _ HS.lt)
   have Rl:(fH (bs.take k)).length<maxLen:=by
    unfold fH maxLen;rw[bm,bn];omega
   have hsz:b.name.1.size<=maxLen:=by have:=QV.name;unfold maxLen;omega
   clear hb Q4;go_wp2_with fail;clear q0 q1 q2 q3 q4 q5;refine(PJ _ (w.heap.size+1) _ b.name.1 Q1 Rl hsz).mono ?_;rintro e w4 ⟨rfl,QX,QZ⟩;have C4:aj w w4:=CA.trans (QZ.to_below CA.size (by intro x hx;simp at hx;omega));go_wp2;go_roundw
   case rel=>exact⟨k+1,QD,by go_num,by rw[HL.out];exact QX,C4⟩
   case measure=>simp[intOf];omega
  ·have HL:Hid (bs.take k=bs):=bU QD;go_wp2;go_ret;refine⟨rfl,?_,CW⟩;rw[HL.out]at HS;exact HS
def Qm (w:an)(ta:aw)(tn tc:Nat)(bs:List dO)(cs:aq)(S:ap)(hrow:et w S 152 6 (.slice ta tn tc) bs.length cs)(hbs:eO w S cs bs)(hlen:bs.length<=2001)(hok:∀b∈bs,nY b)(hg:GOK w):
  Calls prog 71 #[.agg #[.slice ta tn tc]] w λe w'=>yU (fG (fH bs) [] 0 bs) e/\aj w w':=by
 have Q6:=eI hrow.1;subst Q6;have Rk:= @run_makeMap prog;obtain⟨B0,K0⟩:=dR w #[.slice ta bs.length tc] 87;have QS:et (w.alloc (ak #[.slice ta bs.length tc] 87)) S 152 6 (.slice ta bs.length tc) bs.length cs:=hrow.keep (λb _ hb=>Below.heap_alloc _ _ _ hb);have QY:eO (w.alloc (ak #[.slice ta bs.length tc] 87)) S cs bs:=hbs.keep (λb _ hb=>Below.heap_alloc _ _ _ hb);obtain⟨types,Rj⟩:∃t,Hid (fH bs=t):=⟨_,rfl⟩;rw[Rj.out];generalize hr:fG types [] 0 bs=r;have HR:Hid (fG types [] 0 bs=r):=hr;clear hr;go_enter func71,ntmps71;go_wp2_with fail;refine(Ql _ ta bs.length tc bs cs S QS QY hlen hok).mono ?_;rw[Rj.out];rintro e w2 ⟨rfl,Q5,Rh⟩;have C2:aj w w2:=B0.trans (Rh.mono QE);have K2:=(K0.below Rh K0.lt).alloc (Obj.map #[] 0);have zt:w.heap.size+1+1<w2.heap.size:=by have:=Q5.lt;simp at this;omega
 have Q7:eE (w2.alloc (Obj.map #[] 0)) (w.heap.size+1+1) types:=by
  have:=Q5.keep (w':=(w2.alloc (Obj.map #[] 0))) (Below.heap_alloc _ _ _ Q5.lt);simpa using this
 have HTlt:=Q7.lt;have C3:aj w (w2.alloc (Obj.map #[] 0)):=C2.alloc C2.size _
 have M3:eE (w2.alloc (Obj.map #[] 0)) w2.heap.size []:=by
  have:=World.ownsMap_made w2 prog 9 (unitElem (H:=Unit));simpa [eE,setOf]using this
 have esz:∀o,(w.alloc o).heap.size=w.heap.size+1:=QE;obtain⟨k1,k2⟩:=K2.rules;clear K0 QS QY Q5 Rh B0 C2;go_wp2;clear k1 k2;go_loopw [4,13] (λm i wr=>∃(k cnt:Nat) (names:ar),k<=bs.length/\i=aa k/\m=aa cnt/\cnt<=k/\names.length<=k/\Hid (fG types names cnt (bs.drop k)=r)/\eE wr w2.heap.size names/\eE wr (w.heap.size+1+1) types/\aj w wr) (λ_ i _=>bs.length-(intOf i).toNat)
 case atStart=>exact⟨0,0,[],aM _,rfl,rfl,ay _,QE,HR,M3,Q7,C3⟩
 case round=>
  clear M3 Q7 C3 HR;obtain⟨k,cnt,names,hk,rfl,rfl,hcnt,hnl,HP,HS,HT,CW⟩:=hrel
  by_cases hlt:k<bs.length
  ·obtain⟨b,hb⟩:=gx hlt;have QV:=hok b (aI hb)
   have QT:bs.drop k=b::bs.drop (k+1):=by
    rw[aZ hlt];rw[aK hlt]at hb;rw[Option.some.inj hb]
   have QW:Hid (fG types names cnt (b::bs.drop (k+1))=r):=by rw[<-QT];exact HP
   obtain⟨g,rfl,_,Rg,QP⟩:=eh hrow.1 QD;obtain⟨pa,pn,pc,va,vn,vc,p0,p1,p2,p3,p4,p5,Q4⟩:=hbs.get hb;have QQ:=QP wr (CW.block g Rg);rw[Nat.add_zero]at p0;have q0:=QQ _ _ p0;have q1:=QQ _ _ p1;have q2:=QQ _ _ p2;have q3:=QQ _ _ p3;have q4:=QQ _ _ p4;have q5:=QQ _ _ p5;have KB:=dK.new wr #[.bool b.enum,aa (dH b.name.1),ae b.name.1,aa b.name.2,.slice pa pn pc,.slice va vn vc] 152;have CA:=CW.alloc CW.size (ak #[.bool b.enum,aa (dH b.name.1),ae b.name.1,aa b.name.2,.slice pa pn pc,.slice va vn vc] 152);clear QP QQ p0 p1 p2 p3 p4 p5;have Q1:eE (wr.alloc (ak #[.bool b.enum,aa (dH b.name.1),ae b.name.1,aa b.name.2,.slice pa pn pc,.slice va vn vc] 152)) w2.heap.size names:=HS.keep (Below.heap_alloc _ _ _ HS.lt);have Q8:eE (wr.alloc (ak #[.bool b.enum,aa (dH b.name.1),ae b.name.1,aa b.name.2,.slice pa pn pc,.slice va vn vc] 152)) (w.heap.size+1+1) types:=HT.keep (Below.heap_alloc _ _ _ HT.lt);have z1:=HS.lt;clear hb QT HP HS HT;go_wp2_with fail;clear q0 q1 q2 q3 q4 q5;refine(NZ _ w2.heap.size names _ _ _ Q1 QD).mono ?_
   cases h1:iB names b.name.1
   rotate_left
   ·rintro e w4 ⟨rfl,Ru⟩;obtain rfl:r= .error b.name.2:=by rw[<-QW.out,fG];simp only[h1,if_true]
    unfold dI;go_wp2;exact⟨rfl,rfl,CA.trans (Ru.mono CA.size)⟩
   rintro e w4 ⟨rfl,QX,QZ⟩;have C4:aj w w4:=CA.trans (QZ.to_below CA.size (by intro x hx;simp at hx;omega));have Q2:dK w4 wr.heap.size #[.bool b.enum,aa (dH b.name.1),ae b.name.1,aa b.name.2,.slice pa pn pc,.slice va vn vc] 152:=(QZ.block _ KB.lt QF).trans KB;have Q3:eE w4 (w.heap.size+1+1) types:=Q8.keep (QZ.block _ Q8.lt QF);have Q9:=Q4.keep (w':=w4) (λc _ hc=>C4.block c hc);have Ra:GOK w4:=hg.keep (C4.block _ hg.lt);have z4:=Q2.lt;obtain⟨Rw,Rx,Ry,Rz⟩:=Q9;clear KB Q1 Q8 CA Q4;obtain⟨k1,k2⟩:=Q2.rules
   cases hen:b.enum
   ·cases h3:decide (6<cnt+1)
    rotate_left
    ·have hd:(6:Int)<(cnt:Int)+1:=by have:=dC h3;omega
     obtain rfl:r= .error b.name.2:=by rw[<-QW.out,fG];simp only[h1,hen,h3,aL,if_true,if_false]
     go_wp2_with fail;refine(jJ _ _ b.name.1 b.name.2).mono ?_;rintro e w5 ⟨rfl,QR⟩;unfold dI;go_wp2;exact⟨rfl,rfl,C4.trans (QR.mono C4.size)⟩
    have hd:decide ((6:Int)<(cnt:Int)+1)=false:=by have:=of_decide_eq_false h3;simp;omega
    go_wp2_with fail;refine(oz _ _ b.name.1 b.name.2).mono ?_;rintro e w5 ⟨rfl,QR⟩;clear k1 k2 hd;have C5:=C4.trans (QR.mono C4.size);have Rm:=Q2.below QR Q2.lt;have Rb:=Q3.keep (QR.block _ Q3.lt);have Ri:=QX.keep (QR.block _ QX.lt);have Rc:=Rx.keep (w':=w5) (λc _ hc=>QR.block c hc);have Re:=Ry.keep (w':=w5) (λc _ hc=>QR.block c hc);have Rn:=Ra.keep (QR.block _ Ra.lt);obtain⟨k1,k2⟩:=Rm.rules;go_wp2_with fail;clear k1 k2;refine(Qj _ (w.heap.size+1+1) types _ _ _ _ pa pn pc va vn vc b.parts Rw S Rc Re Rb QV.parts QV.fnum Rn).mono ?_
    cases h2:gF types [] [] b.parts with
    |error p=>
     rintro e w6 ⟨he,Q0⟩;obtain rfl:e=dI 3 p:=he;obtain rfl:r= .error p:=by rw[<-QW.out,fG];simp only[h1,hen,h2,h3,aL,if_false]
     unfold dI;go_wp2;exact⟨rfl,rfl,C5.trans (Q0.mono C5.size)⟩
    |ok nn=>
     rintro e w6 ⟨he,Q0⟩;obtain rfl:e= .returned (.tuple #[]):=he
     have Rf:Hid (fG types (names++ [b.name.1]) (cnt+1) (bs.drop (k+1))=r):=by
      have:=QW.out;rw[fG]at this;simp only[h1,hen,h2,h3,aL,if_false]at this;exact this
     go_wp2;go_roundw
     case rel=>exact⟨k+1,cnt+1,names++ [b.name.1],QD,by go_num,by go_num,QD,QF,Rf,Ri.keep (Q0.block _ Ri.lt),Rb.keep (Q0.block _ Rb.lt),C5.trans (Q0.mono C5.size)⟩
     case measure=>simp[intOf];omega
   ·go_wp2_with fail;clear k1 k2;refine(Qi _ _ _ _ _ _ _ _ va vn vc b.values Rz.1 QV.vals QV.vnum Ra).mono ?_
    cases h2:lg [] b.values with
    |error p=>
     rintro e w5 ⟨he,QR⟩;obtain rfl:e=dI 3 p:=he;obtain rfl:r= .error p:=by rw[<-QW.out,fG];simp only[h1,hen,h2,aL,if_true,if_false]
     unfold dI;go_wp2;exact⟨rfl,rfl,C4.trans (QR.mono C4.size)⟩
    |ok nn=>
     rintro e w5 ⟨he,QR⟩;obtain rfl:e= .returned (.tuple #[]):=he
     have Rf:Hid (fG types (names++ [b.name.1]) cnt (bs.drop (k+1))=r):=by
      have:=QW.out;rw[fG]at this;simp only[h1,hen,h2,aL,if_true,if_false]at this;exact this
     go_wp2;go_roundw
     case rel=>exact⟨k+1,cnt,names++ [b.name.1],QD,by go_num,rfl,QD,QF,Rf,QX.keep (QR.block _ QX.lt),Q3.keep (QR.block _ Q3.lt),C4.trans (QR.mono C4.size)⟩
     case measure=>simp[intOf];omega
  ·have QU:bs.drop k= []:=by rw[cE];omega
   obtain rfl:r= .ok ():=by rw[<-HP.out,QU];rfl
   clear QU;go_wp2;go_end0;exact⟨rfl,CW⟩
end
section
variable {ws:List W} {i j:Nat} {form:Int} {f:eD} {α:Type} {stop:Nat->Bool} {p:fC}
structure rX (ws:List W):Prop where
 few:ws.length<=2001
 size:∀(k:Nat) (x:W),ws[k]?=some x->x.1.size<=2000
 num:∀(k:Nat) (x:W),ws[k]?=some x->dH x.1=2->iX x.1
def Le {α:Type}(ws:List W)(r:nO α):Prop:=∀a j,r= .ok (a,j)->j<=ws.length
theorem NI {x:W}(h:ws[i]?=some x):i<ws.length:=by
 grind
theorem nh (ws:List W)(s:List UInt8)(i:Nat):Le ws (gd ws s i):=λa j h=>by
 obtain⟨h1,x,h2,_⟩:=eU _ _ _ _ _ h
 grind
theorem yV (H:rX ws){nm:W×W}(h:mB ws i= .ok (nm,j)):iX nm.2.1/\i+4<=j/\j<=ws.length:=by
 unfold mB at h;obtain⟨_,i1,h1,h⟩:=dM h;obtain⟨_,i2,h2,h⟩:=dM h;obtain⟨_,i3,h3,h⟩:=dM h;obtain⟨_,i4,h4,h⟩:=dM h;have a1:=(ig _ _ _ _ _ h1).1;have a2:=(eU _ _ _ _ _ h2).1;have a3:=ig _ _ _ _ _ h3;have a4:=(eU _ _ _ _ _ h4).1;have a5:=nh _ _ _ _ _ h4;simp at h;obtain⟨rfl,rfl⟩:=h;exact⟨H.num _ _ a3.2.1 a3.2.2,QD,a5⟩
theorem ni (H:rX ws)(h:fm ws form i= .ok (f,j)):iX f.num.1/\i+5<=j/\j<=ws.length:=by
 unfold fm at h;obtain⟨t,i1,h1,h⟩:=dM h;obtain⟨nm,i2,h2,h⟩:=dM h;have a1:=(kN _ _ _ _ h1).1;have a2:=yV H h2
 grind
theorem JF (H:rX ws)(h:mD ws i= .ok (f,j)):iX f.num.1/\i+5<=j/\j<=ws.length:=by
 unfold mD at h;obtain⟨_,i1,h1,h⟩:=dM h;obtain⟨_,i2,h2,h⟩:=dM h;obtain⟨_,i3,h3,h⟩:=dM h;obtain⟨_,i4,h4,h⟩:=dM h;obtain⟨_,i5,h5,h⟩:=dM h;obtain⟨_,i6,h6,h⟩:=dM h;obtain⟨_,i7,h7,h⟩:=dM h;have a1:=(eU _ _ _ _ _ h1).1;have a2:=(eU _ _ _ _ _ h2).1;have a3:=(kN _ _ _ _ h3).1;have a4:=(eU _ _ _ _ _ h4).1;have a5:=(kN _ _ _ _ h5).1;have a6:=(eU _ _ _ _ _ h6).1;have a7:=yV H h7
 grind
theorem oB {p:Nat->nO α}{Q:α->Prop}{wt:α->Nat}{N:Nat}(hp:∀i a j,p i= .ok (a,j)->Q a/\i+wt a<=j/\j<=N):
  ∀n i l j,i<=N->gu stop p n i= .ok (l,j)->(∀a∈l,Q a)/\i+(l.map wt).sum<=j/\j<=N
 |0,i,l,j,hi,h=>by simp[gu]at h;simp_all
 |n+1,i,l,j,hi,h=>by
  unfold gu at h
  split at h
  ·simp_all
  ·obtain⟨a,i1,h1,h⟩:=dM h;obtain⟨l',i2,h2,h⟩:=dM h;have a1:=hp _ _ _ h1;have a2:=oB hp n i1 l' i2 a1.2.2 h2
   grind
theorem yW (l:List α):(l.map λ_=>1).sum=l.length:=by
 induction l with
 |nil=>rfl
 |cons a l ih=>(simp;omega)
theorem Gn (ps:List fC):(ps.map λp=>1+p.fields.length).sum=ku ps:=by
 induction ps with
 |nil=>rfl
 |cons p ps ih=>simp only[ch,List.sum_cons,ih,ku]
def yX (p:fC):Prop:=∀f∈p.fields,iX f.num.1
theorem E9 (H:rX ws)(h:ir ws i= .ok (p,j)):yX p/\i+(1+p.fields.length)<=j/\j<=ws.length:=by
 unfold ir at h;obtain⟨_,i1,h1,h⟩:=dM h;obtain⟨_,i2,h2,h⟩:=dM h;obtain⟨_,i3,h3,h⟩:=dM h;obtain⟨f,i4,h4,h⟩:=dM h;obtain⟨l,i5,h5,h⟩:=dM h;obtain⟨_,i6,h6,h⟩:=dM h;obtain⟨l',i7,h7,h8⟩:=dM h5;have a1:=(eU _ _ _ _ _ h1).1;have a2:=(ig _ _ _ _ _ h2).1;have a3:=(eU _ _ _ _ _ h3).1;have a4:=ni H h4;have a7:=oB (Q:=λf=>iX f.num.1) (wt:=λ_=>1) (N:=ws.length) (λi a j h=>by have:=ni H h;grind) _ _ _ _ a4.2.2 h7;have a6:=(eU _ _ _ _ _ h6).1;have a9:=nh _ _ _ _ _ h6;have e8:=Except.ok.inj h8;have e9:=Except.ok.inj h
 cases e9
 cases e8
 rw[yW]at a7;refine⟨?_,?_,a9⟩
 ·intro x hx
  grind
 (simp;omega)
theorem Gp (H:rX ws)(h:mH ws i= .ok (p,j)):yX p/\i+(1+p.fields.length)<=j/\j<=ws.length:=by
 have al:∀(k:Nat) (r:nO eD),i<=k->(∀f j,r= .ok (f,j)->iX f.num.1/\k+5<=j/\j<=ws.length)->gz r= .ok (p,j)->yX p/\i+(1+p.fields.length)<=j/\j<=ws.length:=by
  intro k r hk hr h;obtain⟨f,i1,h1,h⟩:=dM h;have:=hr _ _ h1;simp at h;obtain⟨rfl,rfl⟩:=h;refine⟨λx hx=> ?_,by grind,this.2.2⟩
  simp_all
 unfold mH at h
 split at h
 ·exact E9 H h
 ·split at h
  ·exact al i _ (ay _) (λf j h=>JF H h) h
  ·split at h
   ·exact al (i+1) _ (bI _) (λf j h=>ni H h) h
   ·split at h
    ·exact al (i+1) _ (bI _) (λf j h=>ni H h) h
    ·exact al i _ (ay _) (λf j h=>ni H h) h
theorem Fa (H:rX ws){b:dO}(h:kr ws i= .ok (b,j)):nY b/\i+1<=j/\j<=ws.length:=by
 have few:=H.few;unfold kr at h
 split at h
 ·unfold ly at h;obtain⟨_,i1,h1,h⟩:=dM h;obtain⟨nm,i2,h2,h⟩:=dM h;obtain⟨_,i3,h3,h⟩:=dM h;obtain⟨l,i4,h4,h⟩:=dM h;obtain⟨_,i5,h5,h⟩:=dM h;have a1:=(eU _ _ _ _ _ h1).1;have a2:=ig _ _ _ _ _ h2;have a3:=(eU _ _ _ _ _ h3).1;have b3:=nh _ _ _ _ _ h3;have a4:=oB (Q:=λv:W×W=>iX v.2.1) (wt:=λ_=>1) (N:=ws.length) (λi a j h=>by have:=yV H h;grind) _ _ _ _ b3 h4;have a5:=(eU _ _ _ _ _ h5).1;have b5:=nh _ _ _ _ _ h5;simp at h;obtain⟨rfl,rfl⟩:=h;rw[yW]at a4;exact⟨⟨H.size _ _ a2.2.1,by(simp;omega),a4.1,by simp[ku],QE⟩,QD,b5⟩
 ·unfold gO at h;obtain⟨_,i1,h1,h⟩:=dM h;obtain⟨nm,i2,h2,h⟩:=dM h;obtain⟨_,i3,h3,h⟩:=dM h;obtain⟨l,i4,h4,h⟩:=dM h;obtain⟨_,i5,h5,h⟩:=dM h;have a1:=(eU _ _ _ _ _ h1).1;have a2:=ig _ _ _ _ _ h2;have a3:=(eU _ _ _ _ _ h3).1;have b3:=nh _ _ _ _ _ h3;have a4:=oB (Q:=yX) (wt:=λp=>1+p.fields.length) (N:=ws.length) (λi a j h=>Gp H h) _ _ _ _ b3 h4;have a5:=(eU _ _ _ _ _ h5).1;have b5:=nh _ _ _ _ _ h5;simp at h;obtain⟨rfl,rfl⟩:=h;rw[Gn]at a4;exact⟨⟨H.size _ _ a2.2.1,QE,QE,by(simp;omega),a4.1⟩,QD,b5⟩
theorem uT (H:rX ws){bs:List dO}(h:qi ws= .ok (bs,j)):(∀b∈bs,nY b)/\bs.length<=2001:=by
 have few:=H.few;have:=oB (Q:=nY) (wt:=λ_=>1) (N:=ws.length) (λi a j h=>Fa H h) _ _ _ _ (aM _) h;rw[yW]at this
 grind
end
section
attribute [local go_sem] ji jj jk
def lE {t:am}{k:Nat}{x:W}(h:(gr t)[k]?=some x):(k<(yN t).length/\x∈yN t)\/(k=(yN t).length/\x=(⟨#[]⟩,t.size)):=by
 unfold gr at h
 by_cases hk:k<(yN t).length
 ·rw[cM hk]at h;exact .inl ⟨hk,aI h⟩
 ·rw[cB QD]at h
  by_cases he:k-(yN t).length=0
  ·rw[he]at h;simp at h;exact .inr ⟨QD,h.symm⟩
  ·rw[aU QF]at h
   cases h
def qV (t:am):(gr t).length=(yN t).length+1:=by simp[gr]
def DV (t:am):(yN t).length<=t.size:=by have:=ov t t.size 0;simpa [yN]using this
def LL (t:am):∀n k,k<=t.size->∀i,k<=i->i<iV lJ t n k->lJ (fE t i)=true
 |0,k,_,i,h1,h2=>by simp[iV]at h2;omega
 |n+1,k,hk,i,h1,h2=>by
  unfold iV at h2
  by_cases hc:(decide (k<t.size)&&lJ (fE t k))=true
  ·rw[dB hc]at h2;have h3:k<t.size/\lJ (fE t k)=true:=by simpa using hc
   by_cases he:i=k
   ·subst he;exact h3.2
   ·exact LL t n (k+1) h3.1 i QD h2
  ·rw[dA hc]at h2;omega
def AO {t:am}{a e i:Nat}(h:a+i<e)(he:e<=t.size):fE (t.extract a e) i=fE t (a+i):=by
 have hs:i<(t.extract a e).size:=by rw[aS];omega
 rw[<-jb hs,<-jb (by omega:a+i<t.size)]
 congr 2;exact ByteArray.getElem_extract _
def N2 {t:am}{a:Nat}(h:a<t.size)(hd:lJ (fE t a)=true):∀i,a<=i->i<g7 t a->lJ (fE t i)=true:=by
 intro i h1 h2
 have hl:uL (fE t a)=false:=by
  unfold lJ at hd;unfold uL;simp at hd⊢;omega
 by_cases he:i=a
 ·subst he;exact hd
 ·unfold g7 at h2;simp only[hl,hd,cq,aL,if_false]at h2
  split at h2
  ·exact LL t t.size (a+1) h i QD h2
  ·omega
def rY (t:am):∀n a,∀x∈ko t n a,∃c,c<t.size/\x=(t.extract c (g7 t c),c)/\CG (fE t c)=false
 |0,a,x,h=>by simp[ko]at h
 |n+1,a,x,h=>by
  unfold ko at h
  by_cases ha:a<t.size
  ·rw[dB ha]at h
   by_cases hg:CG (fE t a)=true
   ·rw[dB hg]at h;exact rY t n (a+1) x h
   ·rw[dA hg]at h
    rcases aN.1 h with rfl|h
    ·exact⟨a,ha,rfl,by simpa using hg⟩
    ·exact rY t n _ x h
  ·rw[dA ha]at h;simp at h
def qj (M:Nat):∀(l:List UInt8) (acc:Nat),(∀c∈l,48<=c.toNat/\c.toNat<=57)->(∃u,Lib.parseUintM M acc l= .ok u)\/Lib.parseUintM M acc l= .range
 | [],acc,_=> .inl ⟨acc,rfl⟩
 |c::l,acc,h=>by
  have hc:=h c QE;unfold Lib.parseUintM;rw[dB hc]
  split
  ·exact .inr rfl
  ·split
   ·exact .inr rfl
   ·exact qj M l _ (λc hc=>h c (by simp[hc]))
def JG {s:am}{i:Nat}{c:UInt8}(h:s.data.toList[i]?=some c):fE s i=(c.toNat:Int):=by
 have hi:i<s.size:=by
  by_cases hi:i<s.data.toList.length
  ·simpa using hi
  ·rw[aU QD]at h;cases h
 rw[<-jb hi]
 have:s.data.toList[i]?=some s[i]:=by
  rw[aK (by simpa using hi)];rfl
 rw[this]at h;rw[Option.some.inj h]
def JH {c:Int}:lJ c=true<->48<=c/\c<=57:=by simp[lJ]
def Gq {s:am}(hs:s.size<=2000)(h0:0<s.size)(hd:∀i,i<s.size->lJ (fE s i)=true):iX s:=by
 refine⟨hs,?_⟩
 have QP:s.data.toList≠ []:=by
  intro e;have:s.data.toList.length=0:=by rw[e];rfl
  have h1:s.data.toList.length=s.size:=QE;omega
 unfold Lib.parseUintB;rw[dA QP];refine qj _ _ _ λc hc=> ?_
 obtain⟨i,hi⟩:=bT.1 hc;have h1:=JG hi
 have QQ:i<s.size:=by
  by_cases hi2:i<s.data.toList.length
  ·simpa using hi2
  ·rw[aU QD]at hi;cases hi
 have h2:=JH.1 (hd i QQ);omega
def AP {t:am}{x:W}(hx:x∈yN t)(hd:lJ (fE x.1 0)=true):∀i,i<x.1.size->lJ (fE x.1 i)=true:=by
 obtain⟨c,hc,rfl,_⟩:=rY t t.size 0 x hx;have he:=pz t c hc;intro i hi;simp only at hi hd⊢;rw[aS]at hi;rw[AO QD he.2]at hd⊢;exact N2 hc (by simpa using hd) (c+i) QD QD
def Gr {s:am}(h:dH s=2):lJ (fE s 0)=true:=by
 unfold dH jc at h
 split at h
 ·omega
 ·split at h
  ·assumption
  ·split at h
   ·omega
   ·split at h<;>omega
def oC (t:am)(ht:t.size<=2000):rX (gr t):=by
 refine⟨?_,?_,?_⟩
 ·rw[qV];have:=DV t;omega
 ·intro k x hx
  rcases lE hx with⟨_,h⟩|⟨_,rfl⟩
  ·have:=ou t t.size 0 x h;omega
  ·show(ByteArray.mk #[]).size<=2000;decide
 ·intro k x hx hk
  rcases lE hx with⟨_,h⟩|⟨_,rfl⟩
  ·have:=ou t t.size 0 x h;exact Gq QD QD (AP h (Gr hk))
  ·have:dH (ByteArray.mk #[])=4:=rfl;rw[this]at hk;omega
end
section
open Go.Maps
attribute [local go_sem] ji jj jk
def iw (t:ByteArray):Except (Int×Nat) (List dO):=
 if 2000<t.size then .error (2,0)
 else
  match qi (gr t)with
  | .error p=> .error (2,p)
  | .ok (bs,_)=>
   match fG (fH bs) [] 0 bs with
   | .error p=> .error (3,p)
   | .ok _=> .ok bs
theorem Fb {w:World}{base rb:Nat}{t:ByteArray}{v:Value}(ht:t.size<=2000)(QP:w.ownsRow base 148 3 v (gr t).length ((gr t).flatMap uN))(hrb:dK w rb #[v,.int .i64 0] 158)(hne:∀b,v.ownBlock=some b->b≠rb):∃wb,Rd w rb wb (gr t) 0:=by
 have hlen:=qV t;have hl2:=DV t;obtain⟨a,n,c,rfl⟩:=dL QP;have hn:=eI QP;subst hn;obtain⟨g,rfl,hg,Ra,QS⟩:=eh QP (by omega);have hc:=QS w rfl;have W:=oC t ht;refine⟨g,by omega,by omega,fun e=>hne g rfl e.symm,⟨c,by simpa using hrb.cell 0⟩,by simpa using hrb.cell 1,hrb.rules.2 1,fun k x hx=> ?_,fun k x hx hs=> ?_,fun k x hx=> ?_⟩
 ·have l3:∀x,(uN x).length=3:=fun _=>rfl
  refine⟨?_,?_,?_⟩
  ·have:=hc (k*3+0) _ ((fL uN 3 l3 _ k x hx 0 (by omega)).trans rfl);simpa using this
  ·exact hc (k*3+1) _ ((fL uN 3 l3 _ k x hx 1 (by omega)).trans rfl)
  ·exact hc (k*3+2) _ ((fL uN 3 l3 _ k x hx 2 (by omega)).trans rfl)
 ·rcases lE hx with⟨h1,_⟩|⟨_,rfl⟩
  ·omega
  ·exact absurd (show 0<(ByteArray.mk #[]).size from hs) (by decide)
 ·refine⟨W.size k x hx,?_⟩
  rcases lE hx with⟨_,h⟩|⟨_,rfl⟩
  ·have:=ou t t.size 0 x h;omega
  ·exact ht
def JI (w:World)(r:Except (Int×Nat) (List dO))(e:Ending)(w':World):Prop:=
 (match r with
 | .error (k,p)=>e=dI k p
 | .ok bs=>∃a n c cs,e= .returned (.agg #[.slice a n c])/\et w' (fun x=>w.heap.size<=x) 152 6 (.slice a n c) bs.length cs/\eO w' (fun x=>w.heap.size<=x) cs bs)/\Below w.heap.size w w'
theorem Qn (w:World)(t:ByteArray)(hmax:t.size<=140737488355328)(hg:GOK w):
  Calls Tryz.prog 36 #[.string t] w (JI w (iw t)):=by
 obtain⟨B0,K0⟩:=dR w #[.slice none 0 0] 87;generalize hr:iw t=r;have HR:Hid (iw t=r):=hr;clear hr
 by_cases hl:2000<t.size
 ·have hd:(2000:Int)<(t.size:Int):=by omega
  obtain rfl:r= .error (2,0):=by rw[<-HR.out,iw,if_pos hl]
  go_enter Tryz.func36,Tryz.ntmps36;go_wp2_with fail;refine(Gg _ _ _).mono ?_;rintro e w2 ⟨rfl,rfl⟩;go_wp2;exact⟨rfl,rfl,B0⟩
 ·have ht:t.size<=2000:=by omega
  have hd:decide ((2000:Int)<(t.size:Int))=false:=by simp;omega
  have Q6:Hid ((match qi (gr t)with
   | .error p=> .error (2,p)
   | .ok (bs,_)=>
    match fG (fH bs) [] 0 bs with
    | .error p=> .error (3,p)
    | .ok _=> .ok bs)=r):=by
   have:=HR.out;rw[iw,if_neg hl]at this;exact this
  clear hl;go_enter Tryz.func36,Tryz.ntmps36;go_wp2_with fail;refine(P9 t _ ht).mono ?_;rintro e w1 ⟨v,rfl,QP,Q9⟩;obtain⟨va,vn,vc,rfl⟩:=dL QP;have C1:Below w.heap.size w w1:=B0.trans (Q9.mono (by simp));have K1:=K0.below Q9 K0.lt;have C2:=C1.alloc C1.size (Obj.cells #[.slice va vn vc,.int .i64 0] 158);have K2:=K1.alloc (Obj.cells #[.slice va vn vc,.int .i64 0] 158);obtain⟨wb,R2⟩:=Fb (rb:=w1.heap.size) ht (QP.alloc (Obj.cells #[.slice va vn vc,.int .i64 0] 158)) (dK.new w1 _ _) (fun b hb=>by have:=(QP.lt b hb).2;omega);have z1:=K1.lt;clear QP Q9 hd;go_wp2_with fail;refine(Qe _ w1.heap.size wb (gr t) R2).mono ?_
  cases h3:qi (gr t)with
  |error p=>
   rintro e w3 ⟨rfl,j,A⟩;obtain rfl:r= .error (2,p):=by rw[<-Q6.out,h3]
   unfold dI;go_wp2;refine⟨rfl,rfl,C2.trans ⟨A.os,A.tape,A.output,A.size,fun k hk=> ?_⟩⟩;rw[Below.block A k (by simp;omega),AF,dJ,if_neg (by omega)]
  |ok q=>
   obtain⟨bs,j⟩:=q;rintro e w3 ⟨⟨a,n,c,cs,rfl,Rb,Q5⟩,R3,A⟩
   have C3:Below w.heap.size w w3:=C2.trans ⟨A.os,A.tape,A.output,A.size,fun k hk=>by
    rw[Below.block A k (by simp;omega),AF,dJ,if_neg (by omega)]⟩
   have K3:=K2.adv_ A K2.lt (by omega);have z3:w1.heap.size+1<=w3.heap.size:=by have:=A.size;simpa using this
   have QX:=Rb.mono (S':=fun b=>w.heap.size<b) (fun b hb _=>by simp at hb;omega);have QY:=Q5.mono (S':=fun b=>w.heap.size<b) (fun b hb _=>by simp at hb;omega);have OK:=uT (oC t ht) h3;have C4:=C3.alloc C3.size (Obj.cells #[.slice a n c] 87);have K4:=K3.alloc (Obj.cells #[.slice a n c] 87);have J4:=dK.new w3 #[.slice a n c] 87;have QZ:=QX.keep (w':=w3.alloc (Obj.cells #[.slice a n c] 87)) (fun b _ hb=>Below.heap_alloc _ _ _ hb);have Q0:=QY.keep (w':=w3.alloc (Obj.cells #[.slice a n c] 87)) (fun b _ hb=>Below.heap_alloc _ _ _ hb);have Re:GOK (w3.alloc (Obj.cells #[.slice a n c] 87)):=hg.keep (C4.block _ hg.lt);clear Rb Q5 R3 QX QY;go_wp2_with fail;refine(Qm _ a n c bs cs _ QZ Q0 OK.2 OK.1 Re).mono ?_
   cases h4:fG (fH bs) [] 0 bs with
   |error p=>
    rintro e w5 ⟨he,QW⟩;obtain rfl:e=dI 3 p:=he;obtain rfl:r= .error (3,p):=by rw[<-Q6.out,h3];simp only[h4]
    unfold dI;go_wp2;exact⟨rfl,rfl,C4.trans (QW.mono C4.size)⟩
   |ok u=>
    rintro e w5 ⟨he,QW⟩;obtain rfl:e= .returned (.tuple #[]):=he;obtain rfl:r= .ok bs:=by rw[<-Q6.out,h3];simp only[h4]
    have C5:=C4.trans (QW.mono C4.size);have K5:=K4.below QW K4.lt;have J5:=J4.below QW J4.lt;have Q7:=QZ.keep (w':=w5) (fun b _ hb=>QW.block b hb);have Q8:=Q0.keep (w':=w5) (fun b _ hb=>QW.block b hb);obtain⟨k1,k2⟩:=K5.rules;obtain⟨j1,j2⟩:=J5.rules;go_wp2;have K6:=K5.sets_all [.slice a n c] rfl;have C6:Below w.heap.size w (w5.setCells w.heap.size 0 [.slice a n c]):=C5.trans ((Below.refl w.heap.size w5).setCell (p:=⟨w.heap.size,0,none⟩) (ay _) (.slice a n c));refine bodyPost_ret (dZ Tryz.results36 _ _ rfl K6 Tryz.underlying87 (by kernel_rfl)) rfl ⟨⟨a,n,c,cs,rfl,?_,?_⟩,C6⟩
    ·have h9:=Q7.keep (w':=w5.setCells w.heap.size 0 [.slice a n c]) (fun b hb _=>gV _ _ (by have:w.heap.size<b:=hb;omega) _ _);exact h9.mono (fun b hb _=>by have:w.heap.size<b:=hb;omega)
    ·have h9:=Q8.keep (w':=w5.setCells w.heap.size 0 [.slice a n c]) (fun b hb _=>gV _ _ (by have:w.heap.size<b:=hb;omega) _ _);exact h9.mono (fun b hb _=>by have:w.heap.size<b:=hb;omega)
def dX (bs:List dO):List ByteArray:=(bs.filter fun b=> !b.enum).map fun b=>b.name.1
theorem Qo (w:World)(ta:Option Addr)(tn tc:Nat)(bs:List dO)(cs:List Value)(S:Nat->Prop)(QP:et w S 152 6 (.slice ta tn tc) bs.length cs)(Q5:eO w S cs bs)(hlen:bs.length<=2001)(hok:∀b∈bs,nY b):
  Calls Tryz.prog 66 #[.agg #[.slice ta tn tc]] w fun e w'=>∃v,e= .returned v/\w'.ownsRow w.heap.size 9 1 v (dX bs).length (fx (dX bs))/\Below w.heap.size w w':=by
 have Rf:=eI QP.1;subst Rf;obtain⟨i0,Rh,Ri,Rj,Rk⟩:=info_parts Tryz.info9;have C0:=(Below.refl w.heap.size w).alloc (ay _) (Obj.cells #[.slice ta bs.length tc] 87);go_enter Tryz.func66,Tryz.ntmps66;go_wp2;go_loopw [3,9] (fun v i wr=>∃(k:Nat) (l:List ByteArray),k<=bs.length/\i= .int .i64 k/\l.length<=k/\Hid (l++dX (bs.drop k)=dX bs)/\wr.ownsRow w.heap.size 9 1 v l.length (fx l)/\Below w.heap.size w wr) (fun _ i _=>bs.length-(intOf i).toNat)
 case atStart=>exact⟨0,[],aM _,rfl,ay _,by simp[Hid],bf _ _ _ _,C0⟩
 case round=>
  clear C0;obtain⟨k,l,hk,rfl,hll,HP,Q2,CW⟩:=hrel
  by_cases hlt:k<bs.length
  ·obtain⟨b,hb⟩:=gx hlt;have Rg:=hok b (aI hb)
   have QQ:bs.drop k=b::bs.drop (k+1):=by
    rw[aZ hlt];rw[aK hlt]at hb;rw[Option.some.inj hb]
   obtain⟨g,rfl,_,Ra,QS⟩:=eh QP.1 (by omega);obtain⟨pa,pn,pc,va,vn,vc,p0,p1,p2,p3,p4,p5,Rl⟩:=Q5.get hb;have QV:=QS wr (CW.block g Ra);rw[Nat.add_zero]at p0;have q0:=QV _ _ p0;have q1:=QV _ _ p1;have q2:=QV _ _ p2;have q3:=QV _ _ p3;have q4:=QV _ _ p4;have q5:=QV _ _ p5;have KB:=dK.new wr #[.bool b.enum,.int .i64 (dH b.name.1),.string b.name.1,.int .i64 b.name.2,.slice pa pn pc,.slice va vn vc] 152;have CA:=CW.alloc CW.size (Obj.cells #[.bool b.enum,.int .i64 (dH b.name.1),.string b.name.1,.int .i64 b.name.2,.slice pa pn pc,.slice va vn vc] 152);have QR:=Q2.alloc (Obj.cells #[.bool b.enum,.int .i64 (dH b.name.1),.string b.name.1,.int .i64 b.name.2,.slice pa pn pc,.slice va vn vc] 152);clear QS QV p0 p1 p2 p3 p4 p5 hb Rl
   cases hen:b.enum
   ·rw[hen]at q0 KB CA QR
    have Q1:Hid ((l++ [b.name.1])++dX (bs.drop (k+1))=dX bs):=by
     have:=HP.out;rw[QQ]at this;simpa [dX,hen,Hid]using this
    clear QQ;go_wp2_with fail;refine(Qh _ _ Rg.name).mono ?_;rintro e w4 ⟨rfl,Rc⟩;have C4:=CA.trans (Rc.mono CA.size);have QT:=eF Rc QR;clear q0 q1 q2 q3 q4 q5;go_wp2_with (first|(at_builtin;refine wpList_append_own_at _ rfl _ _ 30 rfl w.heap.size 9 i0 _ 1 16 Tryz.underlying30 Rh Ri Rj Rk rfl (by decide) u3 _ _ rfl (QT.alloc _) _ 1 1 [_] rfl rfl (cell_one_new _ _ _) ?h1 ?h63 ?hby ?hba ?_;rotate_right;intro v' w5 Q3 Q4 hnil hloc))
    case h1=>intro u hu;simp at hu;subst hu;rfl
    case h63=>unfold maxLen;omega
    case hby=>omega
    case hba=>have:=C4.size;simp;omega
    refine⟨⟨k+1,l++ [b.name.1],by omega,by go_num,by simp;omega,Q1,?_,?_⟩,by simp[intOf];omega⟩
    ·simpa [fx]using Q3
    ·exact(C4.alloc C4.size _).grown Q4 (by have:=C4.size;simp;omega) (fun j hj=>(QT.lt j hj).1)
   ·rw[hen]at q0 KB CA QR
    have Q1:Hid (l++dX (bs.drop (k+1))=dX bs):=by
     have:=HP.out;rw[QQ]at this;simpa [dX,hen,Hid]using this
    clear QQ;go_wp2;go_roundw
    case rel=>exact⟨k+1,l,by omega,by go_num,by omega,Q1,QR,CA⟩
    case measure=>simp[intOf];omega
  ·have QU:bs.drop k= []:=by rw[cE];omega
   have Q1:Hid (l=dX bs):=by
    have:=HP.out;rw[QU]at this;simpa [dX,Hid]using this
   clear QU;go_wp2;go_ret;refine⟨_,rfl,?_,CW⟩;rw[<-Q1.out];exact Q2
end
section
variable {stop:Nat->Bool} {ws:List W} {form:Int} {i j:Nat} {f:eD} {p:fC}
structure r9 (f:eD):Prop where
 size:f.type.1.size<=2000
 kind:dH f.type.1=3\/dH f.type.1=1
 key:f.form=4<->f.key.isSome=true
def sd (p:fC):Prop:=
 (∀f∈p.fields,r9 f)/\((∃o,p.oneof=some o/\dH o.1=1/\∀f∈p.fields,f.form=3)\/(p.oneof=none/\∃f,p.fields= [f]/\(f.form=0\/f.form=1\/f.form=2\/f.form=4)))
def yY (b:dO):Prop:=∀p∈b.parts,sd p
theorem nj {α:Type}{p:Nat->nO α}{Q:α->Prop}(hp:∀i a j,p i= .ok (a,j)->Q a):∀(n i:Nat) (l:List α) (j:Nat),gu stop p n i= .ok (l,j)->∀a∈l,Q a
 |0,i,l,j,h=>by
  simp[gu]at h
  simp_all
 |n+1,i,l,j,h=>by
  unfold gu at h
  split at h
  ·simp_all
  ·obtain⟨a,k,h1,h⟩:=dM h;obtain⟨r,k2,h2,h⟩:=dM h;simp at h;obtain⟨rfl,_⟩:=h;intro x hx
   rcases aN.1 hx with rfl|hx
   ·grind
   ·exact nj hp n k r k2 h2 x hx
theorem jU (H:rX ws)(hf:form≠4)(h:fm ws form i= .ok (f,j)):r9 f/\f.form=form:=by
 unfold fm at h;obtain⟨t,i1,h1,h⟩:=dM h;obtain⟨nm,i2,h2,h⟩:=dM h;simp at h;obtain⟨rfl,_⟩:=h;obtain⟨_,h3,h4⟩:=kN _ _ _ _ h1;exact⟨⟨H.size _ _ h3,h4,by grind⟩,rfl⟩
theorem CM (H:rX ws)(h:mD ws i= .ok (f,j)):r9 f/\f.form=4:=by
 unfold mD at h;obtain⟨_,i1,_,h⟩:=dM h;obtain⟨_,i2,_,h⟩:=dM h;obtain⟨k,i3,_,h⟩:=dM h;obtain⟨_,i4,_,h⟩:=dM h;obtain⟨t,i5,h5,h⟩:=dM h;obtain⟨_,i6,_,h⟩:=dM h;obtain⟨nm,i7,_,h⟩:=dM h;simp at h;obtain⟨rfl,_⟩:=h;obtain⟨_,h3,h4⟩:=kN _ _ _ _ h5;exact⟨⟨H.size _ _ h3,h4,QE⟩,rfl⟩
theorem yZ (H:rX ws)(h:ir ws i= .ok (p,j)):sd p:=by
 unfold ir at h;obtain⟨_,i1,_,h⟩:=dM h;obtain⟨o,i2,h2,h⟩:=dM h;obtain⟨_,i3,_,h⟩:=dM h;obtain⟨f,i4,h4,h⟩:=dM h;obtain⟨l,i5,h5,h⟩:=dM h;obtain⟨_,i6,_,h⟩:=dM h;obtain⟨l',i7,h7,h8⟩:=dM h5;simp at h;obtain⟨rfl,_⟩:=h;simp at h8;obtain⟨rfl,_⟩:=h8;have a4:=jU H QG h4;have a7:=nj (Q:=λf=>r9 f/\f.form=3) (λi a j h=>jU H QG h) _ _ _ _ h7;have ho:=(ig _ _ _ _ _ h2).2.2
 have all:∀x∈f::l',r9 x/\x.form=3:=by
  simp_all
 exact⟨λx hx=>(all x hx).1,.inl ⟨o,rfl,ho,λx hx=>(all x hx).2⟩⟩
theorem lF {r:nO eD}(hr:∀f j,r= .ok (f,j)->r9 f/\(f.form=0\/f.form=1\/f.form=2\/f.form=4))(h:gz r= .ok (p,j)):sd p:=by
 obtain⟨f,i1,h1,h⟩:=dM h;simp at h;obtain⟨rfl,_⟩:=h;have:=hr _ _ h1;exact⟨by simp_all,.inr ⟨rfl,f,rfl,this.2⟩⟩
theorem AQ (H:rX ws)(h:mH ws i= .ok (p,j)):sd p:=by
 unfold mH at h
 split at h
 ·exact yZ H h
 ·split at h
  ·exact lF (λf j hf=>by have:=CM H hf;simp_all) h
  ·split at h
   ·exact lF (λf j hf=>by have:=jU H QG hf;simp_all) h
   ·split at h
    ·exact lF (λf j hf=>by have:=jU H QG hf;simp_all) h
    ·exact lF (λf j hf=>by have:=jU H QG hf;simp_all) h
theorem AR (H:rX ws){bs:List dO}(h:qi ws= .ok (bs,j)):∀b∈bs,yY b:=by
 refine nj (Q:=yY) (λi b j hb=> ?_) _ _ _ _ h;unfold kr at hb
 split at hb
 ·unfold ly at hb;obtain⟨_,i1,_,hb⟩:=dM hb;obtain⟨n,i2,_,hb⟩:=dM hb;obtain⟨_,i3,_,hb⟩:=dM hb;obtain⟨l,i4,_,hb⟩:=dM hb;obtain⟨_,i5,_,hb⟩:=dM hb;simp at hb;obtain⟨rfl,_⟩:=hb;intro p hp;simp at hp
 ·unfold gO at hb;obtain⟨_,i1,_,hb⟩:=dM hb;obtain⟨n,i2,_,hb⟩:=dM hb;obtain⟨_,i3,_,hb⟩:=dM hb;obtain⟨l,i4,h4,hb⟩:=dM hb;obtain⟨_,i5,_,hb⟩:=dM hb;simp at hb;obtain⟨rfl,_⟩:=hb;exact nj (Q:=sd) (λi p j hp=>AQ H hp) _ _ _ _ h4
end
def CJ:ar:=mz.map λl=>⟨l.toArray⟩
def AS (s:am):(dH s==3)=jh s.toList:=by
 cases h4:jh s.toList
 ·unfold dH jc
  by_cases h0:s.size=0
  ·simp[h0]
  ·cases h1:uL (fE s 0)<;>cases h2:lJ (fE s 0)<;>cases h3:pZ s.toList<;>simp[h0,h4]
 ·have hs:s=⟨s.toList.toArray⟩:=by rw[ByteArray.toList_eq]
  have hm:s.toList∈mz:=by simpa [jh]using h4
  have:∀l∈mz,(dH ⟨l.toArray⟩==3)=true:=QH;rw[hs];exact this _ hm
inductive PM where
 |mk (fs:List (Int×List (Int×am×PM))) (unk:am)
abbrev PV:=Int×am×PM
abbrev PF:=Int×List PV
def PM.fs:PM->List PF
 | .mk fs _=>fs
def PM.unk:PM->am
 | .mk _ u=>u
def eS:am:=⟨#[]⟩
def PM.none:PM:= .mk [] eS
def PV.none:PV:=(0,eS,PM.none)
def gE (a b:am):Bool:=a.toList==b.toList
structure eP where
 name:am
 ty:am
 key:am
 how:am
 num:Int
structure MT where
 name:am
 fs:List eP
structure d8 where
 ms:List MT
 es:ar
def AT:am:=⟨#[109,97,112]⟩
def Gs:am:=⟨#[114,101,112,101,97,116,101,100]⟩
def kx:am:=⟨#[111,112,116,105,111,110,97,108]⟩
def eP.isMap (f:eP):Bool:=gE f.how AT
def eP.isRep (f:eP):Bool:=gE f.how Gs
def lP:List MT->am->Option MT
 | [],_=>none
 |m::l,s=>if gE m.name s then some m else lP l s
def d8.msg (S:d8)(s:am):Option MT:=lP S.ms s
def mQ:am:=⟨#[107,101,121]⟩
def oD:am:=⟨#[118,97,108,117,101]⟩
def eo (f:eP):MT:=⟨eS,[⟨mQ,f.key,eS,kx,1⟩,⟨oD,f.ty,eS,kx,2⟩]⟩
def eR (S:d8)(f:eP):Option MT:=if f.isMap then some (eo f)else S.msg f.ty
def dP:List eP->Int->Option eP
 | [],_=>none
 |f::l,n=>if f.num=n then some f else dP l n
def AU:List (List UInt8)->List UInt8->Nat->Option Nat
 | [],_,_=>none
 |x::l,s,k=>if s==x then some k else AU l s (k+1)
def d8.base (S:d8)(t:am):Nat:=
 match AU mz t.toList 0 with
 |some k=>k
 |none=>if eM S.es t then 15 else 16
def ei (k:Nat):Nat:=
 if k<=6 then 0 else if k=8\/k=10\/k=12 then 1 else if k=7\/k=9\/k=11 then 5 else if k=15 then 0 else 2
def d8.wire (S:d8)(t:am):Nat:=ei (S.base t)
def fA (S:d8)(f:eP):Nat:=if f.isMap then 2 else S.wire f.ty
def lQ (n:Int):Int:=if n%4294967296<2147483648 then n%4294967296 else n%4294967296+18446744069414584320
def AG (v:Int):Int:=if v%2=1 then 18446744073709551615-v/2 else v/2
def fN (k:Nat)(n:Int):Int:=
 if k=0\/k=9\/k=15 then lQ n else if k=2 then n%4294967296 else if k=4 then AG (n%4294967296)else if k=5 then AG n
 else if k=6 then(if 0<n then 1 else 0)else n
abbrev Fx (α:Type):=Except (Int×Int) α
def lz (b:am)(a e:Nat):Nat->Nat->Int->Fx (Int×Nat)
 |0,_,_=> .error (7,a)
 |f+1,i,n=>
  if a+i<e then
   (
    if i=9/\1<fE b (a+i)then .error (7,a) else if fE b (a+i)<128 then .ok (n+fE b (a+i)%128*2^(7*i),a+i+1) else lz b a e f (i+1) (n+fE b (a+i)%128*2^(7*i)))
  else .error (6,a)
def gy (b:am)(a e:Nat):Fx (Int×Nat):=lz b a e 10 0 0
def Fc (s:am):Nat->Nat->Int
 |0,_=>0
 |f+1,i=>if i<s.size then 256*Fc s f (i+1)+fE s i else 0
def uU (s:am):Int:=Fc s s.size 0
structure om where
 num:Int
 kind:Nat
 a:Nat
 fr:Nat
 e:Nat
 n:Int
def fw (b:am)(a e:Nat):Fx om:=
 match gy b a e with
 | .error x=> .error x
 | .ok (t,fr)=>
  if t/8<1\/536870911<t/8 then .error (8,a)
  else if t%8=0 then
   match gy b fr e with
   | .error x=> .error x
   | .ok (n,en)=> .ok ⟨t/8,0,a,fr,en,n⟩
  else if t%8=1 then(if fr+8<=e then .ok ⟨t/8,1,a,fr,fr+8,uU (b.extract fr (fr+8))⟩else .error (6,fr))
  else if t%8=5 then(if fr+4<=e then .ok ⟨t/8,5,a,fr,fr+4,uU (b.extract fr (fr+4))⟩else .error (6,fr))
  else if t%8=2 then
   match gy b fr e with
   | .error x=> .error x
   | .ok (n,bh)=>if(bh:Int)+n<=e then .ok ⟨t/8,2,a,bh,bh+n.toNat,0⟩else .error (6,bh)
  else .error (9,a)
def gm:List PF->Int->List PV
 | [],_=> []
 |x::l,n=>if x.1=n then x.2 else gm l n
def PM.get (m:PM)(n:Int):List PV:=gm m.fs n
def gH (n:Int)(l:List PV):Bool->List PF->List PF
 |done,[]=>if done then []else [(n,l)]
 |done,x::r=>
  (if !done&&decide (n<=x.1)then [(n,l)]else [])++((if x.1=n then []else [x])++gH n l (done||decide (n<=x.1)) r)
def PM.put (m:PM)(n:Int)(l:List PV):PM:= .mk (gH n l l.isEmpty m.fs) m.unk
def PM.keep (m:PM)(s:am):PM:= .mk m.fs (m.unk++s)
def iJ:ar:= [⟨#[105,110,116,51,50]⟩,⟨#[105,110,116,54,52]⟩,⟨#[115,105,110,116,51,50]⟩,⟨#[115,105,110,116,54,52]⟩,⟨#[115,102,105,120,101,100,51,50]⟩,⟨#[115,102,105,120,101,100,54,52]⟩]
def j9:am:=⟨#[115,116,114,105,110,103]⟩
def JJ (n:Int):Int:=if n<9223372036854775808 then n else n-18446744073709551616
def jO (t:am)(x y:PV):Bool:=
 if gE t j9 then Op.bytesLess x.2.1.toList y.2.1.toList else if eM iJ t then decide (JJ x.1<JJ y.1)else decide (x.1<y.1)
def fo (v:PV):PV:=(v.2.2.get 1).headD PV.none
def gW (x y:PV):Bool:=decide (x.1=y.1)&&gE x.2.1 y.2.1
def fU (t:am)(v:PV):Bool->List PV->List PV
 |done,[]=>if done then []else [v]
 |done,x::r=>
  (if !done&&(jO t (fo v) (fo x)||gW (fo v) (fo x))then [v]else [])++
   ((if gW (fo v) (fo x)then []else [x])++fU t v (done||(jO t (fo v) (fo x)||gW (fo v) (fo x))) r)
def jn (t:am)(l:List PV)(v:PV):List PV:=fU t v false l
def ft (m:PM)(n:Int):PM:=if(m.get n).isEmpty then m.put n [PV.none]else m
def fO (m:PM):PM:= .mk (ft (ft m 1) 2).fs eS
def ot (S:d8)(d:MT)(deep:Nat):Bool:=
 if !(gE d.name eS)||deep !=8 then decide (8<deep)else
 match d.fs with
 |_::f::_=>(S.msg f.ty).isSome
 |_=>false
def jd (how:am):Bool:=fE how 0==46
def ik (f:eP):List eP->PM->PM
 | [],m=>m
 |o::l,m=>ik f l (if gE o.how f.how&&jd o.how&&decide (o.num≠f.num)then m.put o.num []else m)
def gB (S:d8)(d:MT)(f:eP)(m:PM)(v:PV):PM:=
 if f.isMap then m.put f.num (jn f.key (m.get f.num) (v.1,v.2.1,fO v.2.2))
 else if f.isRep then m.put f.num (m.get f.num++ [v])
 else if gE f.how eS&&(eR S f).isNone&&decide (v.1=0)&&gE v.2.1 eS then m.put f.num []
 else(ik f d.fs m).put f.num [v]
def eH (f:eP)(m:PM):PV:=if f.isRep||f.isMap then PV.none else(m.get f.num).headD PV.none
def Gt (s:am):Nat->Nat->Int->Option Int
 |0,_,c=>some c
 |f+1,i,c=>if fE s i<128\/191<fE s i then none else Gt s f (i+1) (64*c+fE s i-128)
def N3 (s:am)(n:Nat)(low c:Int):Option Nat:=
 if s.size<n then none else
 match Gt s (n-1) 1 c with
 |none=>none
 |some c=>if c<low\/1114111<c\/(55296<=c/\c<=57343)then none else some n
def O2 (s:am):Option Nat:=
 if 240<=fE s 0 then N3 s 4 65536 (fE s 0-240)else if 224<=fE s 0 then N3 s 3 2048 (fE s 0-224)
 else if 192<=fE s 0 then N3 s 2 128 (fE s 0-192)else if 128<=fE s 0 then none else N3 s 1 0 (fE s 0)
def N9:Nat->am->Bool
 |0,_=>true
 |f+1,s=>if s.size=0 then true else
  match O2 s with
  |none=>false
  |some n=>N9 f (s.extract n s.size)
def OP (s:am):Bool:=N9 s.size s
def mR (S:d8)(b:am)(f:eP)(r:om):Fx PV:=
 if r.kind=2 then
  (if gE f.ty j9&& !(OP (b.extract r.fr r.e))then .error (10,r.fr)else .ok (0,b.extract r.fr r.e,PM.none))
 else .ok (fN (S.base f.ty) r.n,eS,PM.none)
def fy (b:am)(k:Nat)(e:Nat):Nat->List PV->Nat->Fx (List PV)
 |0,l,_=> .ok l
 |F+1,l,a=>
  if a<e then
   if ei k=0 then
    match gy b a e with
    | .error x=> .error x
    | .ok (n,z)=>fy b k e F (l++ [(fN k n,eS,PM.none)]) z
   else
    let z:=if ei k=5 then 4 else 8
    if a+z<=e then fy b k e F (l++ [(fN k (uU (b.extract a (a+z))),eS,PM.none)]) (a+z)else .error (6,a)
  else .ok l
def lA (S:d8)(b:am)(f:eP)(l:List PV)(a e:Nat):Fx (List PV):=fy b (S.base f.ty) e (e-a) l a
def ew (S:d8)(b:am):Nat->MT->PM->Nat->Nat->Nat->Fx PM
 |0,_,m,_,_,_=> .ok m
 |F+1,d,m,a,e,deep=>
  if a<e then
   match fw b a e with
   | .error x=> .error x
   | .ok r=>
    match dP d.fs r.num with
    |none=>ew S b F d (m.keep (b.extract r.a r.e)) r.e e deep
    |some f=>
     if r.kind=fA S f then
      match eR S f with
      |some sub=>
       if ot S sub (deep+1)then .error (11,r.fr)
       else match ew S b F sub (eH f m).2.2 r.fr r.e (deep+1)with
        | .error x=> .error x
        | .ok sm=>ew S b F d (gB S d f m ((eH f m).1,(eH f m).2.1,sm)) r.e e deep
      |none=>
       match mR S b f r with
       | .error x=> .error x
       | .ok v=>ew S b F d (gB S d f m v) r.e e deep
     else if r.kind=2/\f.isRep then
      match lA S b f (m.get f.num) r.fr r.e with
      | .error x=> .error x
      | .ok l=>ew S b F d (m.put f.num l) r.e e deep
     else ew S b F d (m.keep (b.extract r.a r.e)) r.e e deep
  else .ok m
def il (S:d8)(name b:am):Fx PM:=
 match S.msg name with
 |none=> .error (5,0)
 |some d=>ew S b (b.size+1) d PM.none 0 b.size 1
section
open Go.Maps Go.ChangeMaps Go.WideMaps Go.WideElems
def p8 (s:ByteArray):ByteArray:=⟨#[46]⟩++s
def wW (o:Option W)(form:Int):ByteArray:=
 match o with
 |some x=>p8 x.1
 |none=>if form=0 then eS else if form=1 then kx else if form=2 then Gs else AT
def iL (o:Option W)(f:eD):eP:=⟨f.name.1,f.type.1,jm f.key,wW o f.form,gA f.num.1⟩
structure GF where
 f:eP
 form:Int
 riv:List Int
def iY (f:eD):Int:=gA f.num.1
def oE (p:fC)(f:eD):List Int:=(p.fields.filter fun o=>decide (iY o≠iY f)).map iY
def qW (p:fC)(f:eD):GF:=⟨iL p.oneof f,f.form,oE p f⟩
def tm (b:dO):List GF:=b.parts.flatMap fun p=>p.fields.map (qW p)
def mS (t:ByteArray):Nat:=(AU mz t.toList 0).getD 0
def iU (mp:ByteArray->Option Nat)(t:ByteArray):Nat:=if dH t=3 then mS t else if(mp t).isSome then 16 else 15
def wX (mp:ByteArray->Option Nat)(t:ByteArray):Option Nat:=if dH t=3 then none else mp t
def gC:Option Nat->Value
 |none=> .pointer none
 |some b=> .pointer (some ⟨b,0,none⟩)
def fV (l:List Int):List Value:=l.map (Value.int .i64)
def lR (w:World)(P:Nat->Prop)(mp:ByteArray->Option Nat)(g:GF)(fb:Nat):Prop:=
 ∃rv,dK w fb #[.int .i64 g.f.num,.int .i64 g.form,.int .i64 (iU mp g.f.ty),gC (wX mp g.f.ty),rv] 220/\P fb/\et w P 3 1 rv g.riv.length (fV g.riv)
def eQ (l:List Nat):List Value:=l.map fun b=>gC (some b)
def kz (s:ByteArray)(t:ByteArray)(n:Int):GF:=⟨⟨s,t,eS,kx,n⟩,1,[]⟩
def lB (w:World)(P:Nat->Prop)(mp:ByteArray->Option Nat)(key val:ByteArray)(eb:Nat):Prop:=
 ∃fv b1 b2,dK w eb #[.string eS,fv] 108/\P eb/\et w P 212 1 fv 2 (eQ [b1,b2])/\lR w P mp (kz mQ key 1) b1/\lR w P mp (kz oD val 2) b2
def eG (w:World)(P:Nat->Prop)(mp:ByteArray->Option Nat)(g:GF)(fb:Nat):Prop:=
 if g.form=4 then∃rv eb,dK w fb #[.int .i64 g.f.num,.int .i64 4,.int .i64 16,gC (some eb),rv] 220/\P fb/\et w P 3 1 rv g.riv.length (fV g.riv)/\lB w P mp g.f.key g.f.ty eb
 else lR w P mp g fb
def fQ (w:World)(P:Nat->Prop)(mp:ByteArray->Option Nat):List GF->List Nat->Prop
 | [],l=>l= []
 |g::gs,l=>∃b r,l=b::r/\eG w P mp g b/\fQ w P mp gs r
def iF (w:World)(P:Nat->Prop)(mp:ByteArray->Option Nat)(b:Nat)(name:ByteArray)(gs:List GF):Prop:=
 ∃fv QP,dK w b #[.string name,fv] 108/\P b/\et w P 212 1 fv QP.length (eQ QP)/\fQ w P mp gs QP
section
variable {w w':World} {P Q:Nat->Prop} {mp:ByteArray->Option Nat}
theorem lR.keep (hk:∀b,P b->b<w.heap.size->w'.heap[b]?=w.heap[b]?){g:GF}{fb:Nat}(h:lR w P mp g fb):lR w' P mp g fb:=by
 obtain⟨rv,h1,h2,h3⟩:=h;exact⟨rv,(hk fb h2 h1.lt).trans h1,h2,h3.keep hk⟩
theorem lB.keep (hk:∀b,P b->b<w.heap.size->w'.heap[b]?=w.heap[b]?){k v:ByteArray}{eb:Nat}(h:lB w P mp k v eb):lB w' P mp k v eb:=by
 obtain⟨fv,b1,b2,h1,h2,h3,h4,h5⟩:=h;exact⟨fv,b1,b2,(hk eb h2 h1.lt).trans h1,h2,h3.keep hk,h4.keep hk,h5.keep hk⟩
theorem eG.keep (hk:∀b,P b->b<w.heap.size->w'.heap[b]?=w.heap[b]?){g:GF}{fb:Nat}(h:eG w P mp g fb):eG w' P mp g fb:=by
 unfold eG at h⊢
 split at h
 ·rename_i h0
  rw[if_pos h0];obtain⟨rv,eb,h1,h2,h3,h4⟩:=h;exact⟨rv,eb,(hk fb h2 h1.lt).trans h1,h2,h3.keep hk,h4.keep hk⟩
 ·rename_i h0
  rw[if_neg h0];exact lR.keep hk h
theorem fQ.keep (hk:∀b,P b->b<w.heap.size->w'.heap[b]?=w.heap[b]?):∀{gs:List GF} {l:List Nat},fQ w P mp gs l->fQ w' P mp gs l
 | [],_,h=>h
 |_::_,_,⟨b,r,h1,h2,h3⟩=>⟨b,r,h1,h2.keep hk,fQ.keep hk h3⟩
theorem iF.keep (hk:∀b,P b->b<w.heap.size->w'.heap[b]?=w.heap[b]?){b:Nat}{name:ByteArray}{gs:List GF}(h:iF w P mp b name gs):iF w' P mp b name gs:=by
 obtain⟨fv,QP,h1,h2,h3,h4⟩:=h;exact⟨fv,QP,(hk b h2 h1.lt).trans h1,h2,h3.keep hk,h4.keep hk⟩
theorem lR.mono (hs:∀b,P b->b<w.heap.size->Q b){g:GF}{fb:Nat}(h:lR w P mp g fb):lR w Q mp g fb:=by
 obtain⟨rv,h1,h2,h3⟩:=h;exact⟨rv,h1,hs _ h2 h1.lt,h3.mono hs⟩
theorem lB.mono (hs:∀b,P b->b<w.heap.size->Q b){k v:ByteArray}{eb:Nat}(h:lB w P mp k v eb):lB w Q mp k v eb:=by
 obtain⟨fv,b1,b2,h1,h2,h3,h4,h5⟩:=h;exact⟨fv,b1,b2,h1,hs _ h2 h1.lt,h3.mono hs,h4.mono hs,h5.mono hs⟩
theorem eG.mono (hs:∀b,P b->b<w.heap.size->Q b){g:GF}{fb:Nat}(h:eG w P mp g fb):eG w Q mp g fb:=by
 unfold eG at h⊢
 split at h
 ·rename_i h0
  rw[if_pos h0];obtain⟨rv,eb,h1,h2,h3,h4⟩:=h;exact⟨rv,eb,h1,hs _ h2 h1.lt,h3.mono hs,h4.mono hs⟩
 ·rename_i h0
  rw[if_neg h0];exact lR.mono hs h
theorem fQ.mono (hs:∀b,P b->b<w.heap.size->Q b):∀{gs:List GF} {l:List Nat},fQ w P mp gs l->fQ w Q mp gs l
 | [],_,h=>h
 |_::_,_,⟨b,r,h1,h2,h3⟩=>⟨b,r,h1,h2.mono hs,fQ.mono hs h3⟩
theorem iF.mono (hs:∀b,P b->b<w.heap.size->Q b){b:Nat}{name:ByteArray}{gs:List GF}(h:iF w P mp b name gs):iF w Q mp b name gs:=by
 obtain⟨fv,QP,h1,h2,h3,h4⟩:=h;exact⟨fv,QP,h1,hs _ h2 h1.lt,h3.mono hs,h4.mono hs⟩
theorem fQ.len:∀{gs:List GF} {l:List Nat},fQ w P mp gs l->l.length=gs.length
 | [],_,h=>by rw[show _= []from h];rfl
 |_::_,_,⟨b,r,h1,_,h3⟩=>by rw[h1];simp[h3.len]
theorem fQ.snoc {g:GF}{b:Nat}(h2:eG w P mp g b):∀{gs:List GF} {l:List Nat},fQ w P mp gs l->fQ w P mp (gs++ [g]) (l++ [b])
 | [],_,h=>by rw[show _= []from h];exact⟨b,[],rfl,h2,rfl⟩
 |_::_,_,⟨c,r,h1,h3,h4⟩=>by rw[h1];exact⟨c,r++ [b],rfl,h3,fQ.snoc h2 h4⟩
theorem fQ.get:∀{gs:List GF} {l:List Nat},fQ w P mp gs l->∀{i:Nat} {g:GF},gs[i]?=some g->∃b,l[i]?=some b/\eG w P mp g b
 | [],_,_,i,g,h=>by simp at h
 |_::_,_,⟨b,r,h1,h3,h4⟩,0,g,h=>by
  simp at h;subst h;subst h1;exact⟨b,rfl,h3⟩
 |_::_,_,⟨b,r,h1,h3,h4⟩,i+1,g,h=>by
  subst h1;obtain⟨c,q1,q2⟩:=h4.get (i:=i) (g:=g) (by simpa using h);exact⟨c,by simpa using q1,q2⟩
end
def gj:Value->Option (DataW Unit×List MemPlace)
 | .pointer none=>some (.lit (.int .i64 (-1)),[])
 | .pointer (some ⟨b,0,none⟩)=>some (.lit (.int .i64 b),[])
 |_=>none
theorem kA (o:Option Nat):gj (gC o)=some (.lit (.int .i64 (match o with|some b=>(b:Int)|none=> -1)),[]):=by cases o<;>rfl
theorem oF {v:Value}{o:Option Nat}{ps:List MemPlace}(h:gj v=some (.lit (.int .i64 (match o with|some b=>(b:Int)|none=> -1)),ps)):v=gC o:=by
 unfold gj at h
 split at h
 ·cases o with
  |none=>rfl
  |some b=>simp at h
 ·cases o with
  |none=>simp at h
  |some b=>simp at h;have e:=Int.ofNat.inj h.1;subst e;rfl
 ·cases h
def nl (o:Option Nat):DataW Unit:= .lit (.int .i64 (match o with|some b=>(b:Int)|none=> -1))
def fR (w:World)(b n:Nat)(mp:ByteArray->Option Nat):Prop:=
 ∃D,w.ownsMap Tryz.prog 9 gj b n D/\∀s:ByteArray,D.atKey (p7 s) (nl none)=nl (mp s)
def iZ (mp:ByteArray->Option Nat)(s:ByteArray)(b:Nat):ByteArray->Option Nat:=fun t=>if gE t s then some b else mp t
theorem fR.keep {w w':World}{b n:Nat}{mp:ByteArray->Option Nat}(h:fR w b n mp)(hb:w'.heap[b]?=w.heap[b]?):fR w' b n mp:=by
 obtain⟨D,h1,h2⟩:=h;exact⟨D,jT h1 hb,h2⟩
theorem fR.lt {w:World}{b n:Nat}{mp:ByteArray->Option Nat}(h:fR w b n mp):b<w.heap.size:=by
 obtain⟨D,h1,h2⟩:=h;exact h1.lt
theorem fR.made (w:World):fR (w.alloc (.map #[] 0)) w.heap.size 0 (fun _=>none):=
 ⟨_,World.ownsMap_made w Tryz.prog 9 gj,fun _=>rfl⟩
theorem DW (s t:ByteArray):p7 t=p7 s<->gE t s=true:=by
 unfold p7 gE;rw[ByteArray.toList_eq,ByteArray.toList_eq];simp
theorem JK {D:DataW Unit}{mp:ByteArray->Option Nat}(hm:IsMap D)(h:∀s:ByteArray,D.atKey (p7 s) (nl none)=nl (mp s))(s:ByteArray)(b:Nat):
  ∀t:ByteArray,(D.put (p7 s) (nl (some b))).atKey (p7 t) (nl none)=nl (iZ mp s b t):=by
 intro t;unfold iZ
 by_cases e:gE t s=true
 ·rw[if_pos e,(DW s t).2 e];exact atKey_put_same hm (show WideAt.IsKeyLit (p7 s)from trivial) _ _
 ·rw[if_neg e,atKey_put_other (fun h=>e ((DW s t).1 h))];exact h t
end
section
open Go.Maps
attribute [local go_sem↓] Go.wp_at_zero Go.wp_at_succ
def qX (w:an)(f:eD)(h:iX f.num.1)(hb:gA f.num.1<=536870911)(hg:GOK w):
  Calls prog 109 #[.agg (FC f)] w λe w'=>e= .returned (aa (iY f))/\aj w w':=by
 have B0:=(Below.refl w.heap.size w).alloc (ay _) (FO f);have wr:IntKind.i64.wrap (gA f.num.1:Int)=(gA f.num.1:Int):=by simp[IntKind.wrap,IntKind.bits,IntKind.signed];omega
 unfold iY;go_enter func109,ntmps109;go_wp2_with fail;refine(Mh _ _ _ _ h (hg.keep (Below.heap_alloc _ _ _ hg.lt))).mono ?_;rintro e w1 ⟨rfl,QP⟩;go_wp2;go_ret;exact⟨rfl,B0.trans (QP.mono QE)⟩
def BOK (w:an):Prop:=∀i v,(CJ.map Value.string)[i]?=some v->w.cell? (ai 0 i)=some v
def BOK.lt {w:an}(h:BOK w):0<w.heap.size:=aP _ _ (h 0 _ rfl)
def BOK.keep {w w':an}(h:BOK w)(hb:w'.heap[0]?=w.heap[0]?):BOK w':=by
 intro i v hv;rw[<-h i v hv];unfold World.cell?;rw[hb]
def oG (s:am):Nat->Nat
 |0=>0
 |k+1=>if((CJ.getD k eS).toList==s.toList)then k else oG s k
def Gu (k:Nat)(x:am)(h:CJ[k]?=some x)(w:an):(Instr.index 427 (.agg #[ae ⟨#[105,110,116,51,50]⟩,ae ⟨#[105,110,116,54,52]⟩,ae ⟨#[117,105,110,116,51,50]⟩,ae ⟨#[117,105,110,116,54,52]⟩,ae ⟨#[115,105,110,116,51,50]⟩,ae ⟨#[115,105,110,116,54,52]⟩,ae ⟨#[98,111,111,108]⟩,ae ⟨#[102,105,120,101,100,51,50]⟩,ae ⟨#[102,105,120,101,100,54,52]⟩,ae ⟨#[115,102,105,120,101,100,51,50]⟩,ae ⟨#[115,102,105,120,101,100,54,52]⟩,ae ⟨#[102,108,111,97,116]⟩,ae ⟨#[100,111,117,98,108,101]⟩,ae ⟨#[115,116,114,105,110,103]⟩,ae ⟨#[98,121,116,101,115]⟩]) (aa (k:Int))).run prog w= .ok (ae x) w:=by
 have hk:k<15:=by
  by_cases h':k<15
  ·exact h'
  ·rw[aU (by show 15<=k;omega)]at h;cases h
 rcases(show k=0\/k=1\/k=2\/k=3\/k=4\/k=5\/k=6\/k=7\/k=8\/k=9\/k=10\/k=11\/k=12\/k=13\/k=14 from by omega)with rfl|rfl|rfl|rfl|rfl|rfl|rfl|rfl|rfl|rfl|rfl|rfl|rfl|rfl|rfl
 all_goals
  obtain rfl:=Option.some.inj h;change _=_
  kernel_rfl
def Gv (w:an)(s:am)(hb:BOK w):
  Calls prog 245 #[ae s] w λe w'=>e= .returned (aa (oG s 15))/\w'=w:=by
 have c0:=hb 0 _ rfl;have c1:=hb 1 _ rfl;have c2:=hb 2 _ rfl;have c3:=hb 3 _ rfl;have c4:=hb 4 _ rfl;have c5:=hb 5 _ rfl;have c6:=hb 6 _ rfl;have c7:=hb 7 _ rfl;have c8:=hb 8 _ rfl;have c9:=hb 9 _ rfl;have c10:=hb 10 _ rfl;have QP:=hb 11 _ rfl;have QQ:=hb 12 _ rfl;have NM:=hb 13 _ rfl;have NL:=hb 14 _ rfl;go_enter func245,ntmps245;go_wp2;clear c0 c1 c2 c3 c4 c5 c6 c7 c8 c9 c10 QP QQ NM NL;go_loopw [3,7] (λv i wr=>∃(k:Nat),k<=15/\i=aa k/\v=aa (oG s k)/\w=wr) (λ_ i _=>15-(intOf i).toNat)
 case atStart=>exact⟨0,aM _,rfl,rfl,rfl⟩
 case round=>
  obtain⟨k,hk,rfl,rfl,rfl⟩:=hrel
  by_cases hlt:k<15
  ·obtain⟨x,hx⟩:=gx (l:=CJ) (show k<CJ.length from hlt);have e:oG s (k+1)=if x.toList==s.toList then k else oG s k:=by rw[oG,bZ,hx];rfl
   have hi:=Gu k x hx;have QR:(k:Int)<15:=QD;clear hx
   cases hc:(x.toList==s.toList)
   ·rw[hc,dA QE]at e;go_wp2;go_roundw
    case rel=>exact⟨k+1,QD,rfl,by rw[e],trivial⟩
    case measure=>simp[intOf];omega
   ·rw[hc,dB rfl]at e;go_wp2;go_roundw
    case rel=>exact⟨k+1,QD,rfl,by rw[e],trivial⟩
    case measure=>simp[intOf];omega
  ·have QR:decide ((k:Int)<15)=false:=QF;obtain rfl:k=15:=QD;go_wp2;go_ret;exact⟨rfl,rfl⟩
def DX (l:List UInt8):Nat->Nat
 |0=>0
 |k+1=>if(mz.getD k []==l)then k else DX l k
def JL (k:Nat):(CJ.getD k eS).toList=mz.getD k []:=by
 unfold CJ;rw[bZ,bZ,aO]
 cases mz[k]? with
 |none=>simp[eS,ByteArray.toList_eq]
 |some l=>simp[ByteArray.toList_eq]
def AV (s:am):∀k,oG s k=DX s.toList k
 |0=>rfl
 |k+1=>by rw[oG,DX,AV s k,JL]
def Gw:∀l∈mz,DX l 15=(AU mz l 0).getD 0:=QG
def Gx {s:am}(h:jh s.toList=true):oG s 15=mS s:=by
 have hm:s.toList∈mz:=by simpa [jh]using h
 rw[AV];exact Gw _ hm
def lS {s:am}(h:dH s=3):jh s.toList=true:=by
 unfold dH jc at h
 split at h
 ·cases h
 ·split at h
  ·cases h
  ·split at h
   ·cases h
   ·split at h
    ·assumption
    ·cases h
def Gy (w:an):(zeroValue 105).run prog w= .ok (.pointer none) w:=QI
def fR.look {w:an}{b n:Nat}{mp:am->Option Nat}(h:fR w b n mp)(s:am)(hs:s.size<=maxLen):
  (Instr.lookup 145 (.map (some b)) (ae s) false).run prog w= .ok (gC (mp s)) w:=by
 obtain⟨D,h1,h2⟩:=h;obtain⟨v,ps,QQ,hR⟩:=h1.lookup EZ underlying145 (Gy w) (kA none) (E7 s hs);have e:=h2 s;unfold nl at e;rw[e]at hR;rw[QQ,oF hR]
def qY (mp:am->Option Nat)(s:am):Value:= .agg #[aa (iU mp s),gC (wX mp s)]
def AW (w:an)(b:Nat)(mp:am->Option Nat)(s:am)(p:Nat)(hk:dH s=3)(hb:BOK w):
  Calls prog 167 #[.map (some b),.agg #[aa 3,ae s,aa p]] w λe w'=>e= .returned (qY mp s)/\aj w w':=by
 have B0:=((Below.refl w.heap.size w).alloc (ay _) (ak #[aa 3,ae s,aa p] 148)).alloc QE (ak #[aa 0,.pointer none] 216);have QR:BOK ((w.alloc (ak #[aa 3,ae s,aa p] 148)).alloc (ak #[aa 0,.pointer none] 216)):=hb.keep (B0.block _ hb.lt)
 have K1:∀x y,dK ((w.alloc (ak #[aa 3,ae s,aa p] 148)).alloc (ak #[x,y] 216)) (w.heap.size+1) #[x,y] 216:=λx y=>by
  have:=dK.new (w.alloc (ak #[aa 3,ae s,aa p] 148)) #[x,y] 216;simpa using this
 have B1:∀o,aj w ((w.alloc (ak #[aa 3,ae s,aa p] 148)).alloc o):=λo=>((Below.refl w.heap.size w).alloc (ay _) _).alloc QE o
 have e3:oG s 15=mS s:=Gx (lS hk)
 have hT:qY mp s= .agg #[aa (oG s 15),.pointer none]:=by
  unfold qY iU wX;rw[dB hk,dB hk,e3];rfl
 rw[hT];clear hk e3 hT;go_enter func167,ntmps167;go_wp2_with fail;refine(Gv _ s QR).mono ?_;rintro e w1 ⟨rfl,rfl⟩;go_wp2;exact dE (dZ results167 _ _ rfl (K1 _ _) underlying216 QI) rfl ⟨rfl,B1 _⟩
def AX (w:an)(b n:Nat)(mp:am->Option Nat)(k:Int)(s:am)(p:Nat)(H:fR w b n mp)(hs:s.size<=2000)(hk:k=dH s)(hk3:¬dH s=3):
  Calls prog 167 #[.map (some b),.agg #[aa k,ae s,aa p]] w λe w'=>e= .returned (qY mp s)/\aj w w':=by
 have B0:=((Below.refl w.heap.size w).alloc (ay _) (ak #[aa k,ae s,aa p] 148)).alloc QE (ak #[aa 0,.pointer none] 216);have H0:fR ((w.alloc (ak #[aa k,ae s,aa p] 148)).alloc (ak #[aa 0,.pointer none] 216)) b n mp:=H.keep (B0.block _ H.lt)
 have K1:∀x y,dK ((w.alloc (ak #[aa k,ae s,aa p] 148)).alloc (ak #[x,y] 216)) (w.heap.size+1) #[x,y] 216:=λx y=>by
  have:=dK.new (w.alloc (ak #[aa k,ae s,aa p] 148)) #[x,y] 216;simpa using this
 have B1:∀o,aj w ((w.alloc (ak #[aa k,ae s,aa p] 148)).alloc o):=λo=>((Below.refl w.heap.size w).alloc (ay _) _).alloc QE o
 have QP:=H0.look s QK;have hd:(k==3)=false:=by rw[hk];simp[hk3]
 have hd2:¬k=3:=by rw[hk];exact hk3
 unfold qY iU wX;rw[dA hk3,dA hk3];clear hk hk3 H0
 cases hm:mp s with
 |none=>
  rw[hm]at QP;unfold gC at QP⊢;go_enter func167,ntmps167;go_wp2;exact dE (dZ results167 _ _ rfl (K1 _ _) underlying216 QI) rfl ⟨rfl,B1 _⟩
 |some x=>
  rw[hm]at QP;unfold gC at QP⊢;go_enter func167,ntmps167;go_wp2;exact dE (dZ results167 _ _ rfl (K1 _ _) underlying216 QI) rfl ⟨rfl,B1 _⟩
def uV (w:an)(b n:Nat)(mp:am->Option Nat)(s:am)(p:Nat)(H:fR w b n mp)(hs:s.size<=2000)(hb:BOK w):
  Calls prog 167 #[.map (some b),.agg #[aa (dH s),ae s,aa p]] w λe w'=>e= .returned (qY mp s)/\aj w w':=by
 by_cases hk:dH s=3
 ·have:=AW w b mp s p hk hb;rw[hk];exact this
 ·exact AX w b n mp _ s p H hs rfl hk
end
end Go.Proofs.YtfebdimolnobaaaGreatDoor
