import Derived.Test.YtfebdimolnobaaaGreatDoorCkA
set_option maxRecDepth 100000
set_option maxHeartbeats 8000000
set_option linter.all false
namespace Go.Proofs.YtfebdimolnobaaaGreatDoor
open Go.RowKit
section
open Go.Maps
attribute [local go_sem] ia ic ie
attribute [local go_sem↓] Go.wp_at_zero Go.wp_at_succ
theorem wJ (l:au)(h:l.Nodup):Maps.size (setOf (H:=Unit) (.agg []) (l.map mR))=l.length:=by
 rw[size_setOf _ _ (by intro x hx;obtain⟨y,_,rfl⟩:=List.mem_map.1 hx;exact trivial)]
 have key:∀(l acc:au),(acc++l).Nodup->((l.map mR).foldl addKey (acc.map mR))=(acc++l).map mR:=by
  intro l
  induction l with
  |nil=>intro acc _;simp
  |cons x l ih=>
   intro acc Oc
   have hx:(acc.map mR).any (fun y=>y.sameKey (mR x))=false:=by
    rw[List.any_map,cA];intro y hy
    have hne:y≠x:=by
     rintro rfl;have:=List.nodup_append.1 Oc;exact this.2.2 _ hy _ (by simp) rfl
    show¬decide (IntKind.u64=IntKind.u64/\(y:Int)=(x:Int))=true;simp;omega
   have e:addKey (acc.map mR) (mR x)=(acc++ [x]).map mR:=by
    unfold addKey;simp[hx]
   rw[br,List.foldl_cons,e,ih (acc++ [x]) (by simpa using Oc)];simp
 have:=key l [] (by simpa using h);simp only[cT,aP]at this;rw[this];simp
def gh (types names:ar)(nums:au)(tk:Int)(ts:am)(tp:Nat)(ns:am)(np:Nat)(ms:am)(mp:Nat):Except Nat (ar×au):=
 if nW types tk ts then .error tp
 else if gA names ns then .error np
 else if decide (12<=nums.length)then .error np
 else if oZ nums (fy ms)then .error mp
 else .ok (names++ [ns],nums++ [fy ms])
def pG (types names:ar)(nums:au)(form kk:Int)(ks:am)(kp:Nat)(tk:Int)(ts:am)(tp:Nat)(ns:am)(np:Nat)(ms:am)(mp:Nat):Except Nat (ar×au):=
 if form==4&& !gL kk ks then .error kp else gh types names nums tk ts tp ns np ms mp
def Ei (nb mb:Nat)(w:an)(r:Except Nat (ar×au))(e:Ending)(w':an):Prop:=
 match r with
 | .error p=>e=da 3 p/\dl [nb,mb] w w'
 | .ok (names,nums)=>e= .returned (.tuple #[])/\dN w' nb names/\eC w' mb nums/\dl [nb,mb] w w'
theorem CY (w:an)(tb nb mb:Nat)(types names:ar)(nums:au)(form kk:Int)(ks:am)(kp:Nat)(tk:Int)(ts:am)(tp:Nat)(nk:Int)(ns:am)(np:Nat)(mk:Int)(ms:am)(mp:Nat)(HT:dN w tb types)(HN:dN w nb names)(HM:eC w mb nums)(d3:nb≠mb)(g1:5≠nb)(hln:names.length<5000)(hlm:nums.length<5000)(Oc:nums.Nodup)(hok:gT ms)(hg:GOK w)(hf:(form==4)=false):
  Calls Tryz.prog 180 #[.agg #[.map (some tb),.map (some nb),.map (some mb)],.agg #[aa form,aa kk,ae ks,aa kp,aa tk,ae ts,aa tp,aa nk,ae ns,aa np,aa mk,ae ms,aa mp]] w (Ei nb mb w (gh types names nums tk ts tp ns np ms mp)):=by
 obtain⟨r,HR⟩:∃r,Hid ((gh types names nums tk ts tp ns np ms mp)=r):=⟨_,rfl⟩;rw[HR.out];obtain⟨B0,Og,N3⟩:=eD w #[.map (some tb),.map (some nb),.map (some mb)] #[aa form,aa kk,ae ks,aa kp,aa tk,ae ts,aa tp,aa nk,ae ns,aa np,aa mk,ae ms,aa mp] 306 211;obtain⟨r1,r2⟩:=Og.rules;obtain⟨r3,r4⟩:=N3.rules;have Ov:=HT.lt;have Ok:=HN.lt;have Oi:=HM.lt;clear r1 r2 r3 r4;have B2:=B0;have KC:=Og;have KF:=N3;generalize hw2:((w.alloc (ak #[.map (some tb),.map (some nb),.map (some mb)] 306)).alloc (ak #[aa form,aa kk,ae ks,aa kp,aa tk,ae ts,aa tp,aa nk,ae ns,aa np,aa mk,ae ms,aa mp] 211))=w2 at B2 KC KF;go_enter Tryz.func180,Tryz.ntmps180
 have Ol:dN w2 tb types:=HT.keep (B2.block _ Ov);have Ow:dN w2 nb names:=HN.keep (B2.block _ Ok);have Ox:eC w2 mb nums:=HM.keep (B2.block _ Oi);have Oy:GOK w2:=hg.keep (B2.block _ hg.lt);have z2:w.heap.size+1<w2.heap.size:=KF.lt;obtain⟨r1,r2⟩:=KC.rules;obtain⟨r3,r4⟩:=KF.rules;subst hw2;go_wp2_with fail
 clear r1 r2 r3 r4;refine(Nq _ tb nb mb types tk ts tp Ol).mono ?_
 cases h1:nW types tk ts
 rotate_left
 ·rintro e w3 ⟨he,N2⟩;obtain rfl:e=da 3 tp:=by simpa using he
  obtain rfl:r= .error tp:=by rw[<-HR.out,gh];simp only[h1,if_true]
  unfold da;go_wp2;exact⟨rfl,rfl,dl.of_below (B2.trans (N2.mono B2.size))⟩
 rintro e w3 ⟨he,N2⟩;obtain rfl:e= .returned (.tuple #[]):=by simpa using he
 have B3:=B2.trans (N2.mono B2.size);have Oe:=KC.below N2 KC.lt;have N8:=KF.below N2 KF.lt;have Om:dN w3 nb names:=HN.keep (B3.block _ Ok);have z3:=N8.lt;clear KC KF N2 Ol Ow Ox Oy;obtain⟨r1,r2⟩:=Oe.rules;obtain⟨r3,r4⟩:=N8.rules;go_wp2_with fail
 clear r1 r2 r3 r4;refine(Ly _ nb names nk ns np Om hln).mono ?_
 cases h2:gA names ns
 rotate_left
 ·rintro e w4 ⟨rfl,Oh⟩;obtain rfl:r= .error np:=by rw[<-HR.out,gh];simp only[h1,h2,if_true,aK,if_false]
  unfold da;go_wp2;exact⟨rfl,rfl,dl.of_below (B3.trans (Oh.mono B3.size))⟩
 rintro e w4 ⟨rfl,Ot,Od⟩;have e1:w.heap.size≠nb:=by omega
 have e2:w.heap.size+1≠nb:=by omega
 have C4:dl [nb,mb] w w4:=(dl.of_below B3).trans (Od.mono (by simp));have Of:de w4 w.heap.size #[.map (some tb),.map (some nb),.map (some mb)] 306:=(Od.block _ Oe.lt (by simpa using e1)).trans Oe;have Oa:de w4 (w.heap.size+1) #[aa form,aa kk,ae ks,aa kp,aa tk,ae ts,aa tp,aa nk,ae ns,aa np,aa mk,ae ms,aa mp] 211:=(Od.block _ N8.lt (by simpa using e2)).trans N8;have Oj:eC w4 mb nums:=HM.keep ((Od.block _ (aC Oi B3.size) (by simpa using fun e=>d3 e.symm)).trans (B3.block _ Oi));have Oo:GOK w4:=hg.keep ((Od.block _ (aC hg.lt B3.size) (by simpa using g1)).trans (B3.block _ hg.lt));have Ob:w4.ownsMap Tryz.prog 53 (unitElem (H:=Unit)) mb nums.length (setOf (.agg []) (nums.map mR)):=Oj;have z4:=Oa.lt;clear Oe N8 Om;obtain⟨r1,r2⟩:=Of.rules;obtain⟨r3,r4⟩:=Oa.rules
 cases h3:decide (12<=nums.length)
 rotate_left
 ·have hd:(12:Int)<=(nums.length:Int):=by have:=of_decide_eq_true h3;omega
  obtain rfl:r= .error np:=by rw[<-HR.out,gh];simp only[h1,h2,h3,if_true,aK,if_false]
  go_wp2_with (at_len;refine wpList_len_own _ rfl _ 304 rfl 53 162 Tryz.underlying304 _ mb _ _ rfl Ob ?_;rw[wJ nums Oc])
  refine(iD _ nk ns np).mono ?_;rintro e w5 ⟨rfl,N7⟩;unfold da;go_wp2;exact⟨rfl,rfl,C4.trans (dl.of_below N7)⟩
 have hd:decide ((12:Int)<=(nums.length:Int))=false:=by have:=of_decide_eq_false h3;simp;omega
 go_wp2_with (at_len;refine wpList_len_own _ rfl _ 304 rfl 53 162 Tryz.underlying304 _ mb _ _ rfl Ob ?_;rw[wJ nums Oc])
 refine(mS _ nk ns np).mono ?_;rintro e w5 ⟨rfl,N7⟩;have C5:=C4.trans (dl.of_below N7);have Oz:=Of.below N7 Of.lt;have OA:=Oa.below N7 Oa.lt;have Oq:=Ot.keep (N7.block _ Ot.lt);have OB:=Oj.keep (N7.block _ Oj.lt);have OC:=Oo.keep (N7.block _ Oo.lt);clear Of Oa r1 r2 r3 r4 hd;obtain⟨r1,r2⟩:=Oz.rules;obtain⟨r3,r4⟩:=OA.rules;go_wp2_with fail
 clear r1 r2 r3 r4;refine(Nr _ tb nb mb mk ms mp hok OC nums OB hlm).mono ?_
 cases h4:oZ nums (fy ms)
 rotate_left
 ·rintro e w6 ⟨rfl,OD⟩;obtain rfl:r= .error mp:=by rw[<-HR.out,gh];simp only[h1,h2,h3,h4,if_true,aK,if_false]
  unfold da;go_wp2;exact⟨rfl,rfl,C5.trans (dl.of_below OD)⟩
 rintro e w6 ⟨rfl,OE,Ou⟩;obtain rfl:r= .ok (names++ [ns],nums++ [fy ms]):=by rw[<-HR.out,gh];simp only[h1,h2,h3,h4,aK,if_false]
 go_wp2;go_end0;exact⟨rfl,Oq.keep (Ou.block _ Oq.lt (by simpa using d3)),OE,C5.trans (Ou.mono (by simp))⟩
theorem He (w:an)(tb nb mb:Nat)(types names:ar)(nums:au)(form kk:Int)(ks:am)(kp:Nat)(tk:Int)(ts:am)(tp:Nat)(nk:Int)(ns:am)(np:Nat)(mk:Int)(ms:am)(mp:Nat)(HT:dN w tb types)(HN:dN w nb names)(HM:eC w mb nums)(d3:nb≠mb)(g1:5≠nb)(hln:names.length<5000)(hlm:nums.length<5000)(Oc:nums.Nodup)(hok:gT ms)(hg:GOK w)(hf:(form==4)=true)(hkg:gL kk ks=true):
  Calls Tryz.prog 180 #[.agg #[.map (some tb),.map (some nb),.map (some mb)],.agg #[aa form,aa kk,ae ks,aa kp,aa tk,ae ts,aa tp,aa nk,ae ns,aa np,aa mk,ae ms,aa mp]] w (Ei nb mb w (gh types names nums tk ts tp ns np ms mp)):=by
 obtain⟨r,HR⟩:∃r,Hid ((gh types names nums tk ts tp ns np ms mp)=r):=⟨_,rfl⟩;rw[HR.out];obtain⟨B0,Og,N3⟩:=eD w #[.map (some tb),.map (some nb),.map (some mb)] #[aa form,aa kk,ae ks,aa kp,aa tk,ae ts,aa tp,aa nk,ae ns,aa np,aa mk,ae ms,aa mp] 306 211;obtain⟨r1,r2⟩:=Og.rules;obtain⟨r3,r4⟩:=N3.rules;have Ov:=HT.lt;have Ok:=HN.lt;have Oi:=HM.lt;go_enter Tryz.func180,Tryz.ntmps180
 go_wp2_with fail
 go_region_held3 (fun w'=>w'.cell? (ai (w.heap.size+1) 1)=some (aa kk)/\w'.cell? (ai (w.heap.size+1) 2)=some (ae ks)/\w'.cell? (ai (w.heap.size+1) 3)=some (aa kp))
  (first|exact⟨K5.cell 1,K5.cell 2,K5.cell 3⟩|exact⟨K3.cell 1,K3.cell 2,K3.cell 3⟩|exact⟨N3.cell 1,N3.cell 2,N3.cell 3⟩)
  (first|(go_at_call 260;refine(Np _ kk ks kp).mono ?_;rw[hkg];rintro e w3 ⟨rfl,N2⟩;have K3:=N3.drew.below N2 N3.lt)|(go_at_call 123;refine(mS _ kk ks kp).mono ?_;rintro e w2 ⟨rfl,Oh⟩;have K5:=K3.below Oh K3.lt))
 have B2:aj w w2:=(B0.drew.trans (N2.mono (by simp;omega))).trans (Oh.mono (by have:=N2.size;simp at this;omega));have KC:=(Og.drew.below N2 Og.lt).below Oh (by have:=N2.size;simp at this;omega);have KF:=K5;clear r1 r2 r3 r4 K3 K5 N2 Oh B0 Og N3;have Ol:dN w2 tb types:=HT.keep (B2.block _ Ov);have Ow:dN w2 nb names:=HN.keep (B2.block _ Ok);have Ox:eC w2 mb nums:=HM.keep (B2.block _ Oi);have Oy:GOK w2:=hg.keep (B2.block _ hg.lt);have z2:w.heap.size+1<w2.heap.size:=KF.lt;obtain⟨r1,r2⟩:=KC.rules;obtain⟨r3,r4⟩:=KF.rules;go_wp2_with fail
 clear r1 r2 r3 r4;refine(Nq _ tb nb mb types tk ts tp Ol).mono ?_
 cases h1:nW types tk ts
 rotate_left
 ·rintro e w3 ⟨he,N2⟩;obtain rfl:e=da 3 tp:=by simpa using he
  obtain rfl:r= .error tp:=by rw[<-HR.out,gh];simp only[h1,if_true]
  unfold da;go_wp2;exact⟨rfl,rfl,dl.of_below (B2.trans (N2.mono B2.size))⟩
 rintro e w3 ⟨he,N2⟩;obtain rfl:e= .returned (.tuple #[]):=by simpa using he
 have B3:=B2.trans (N2.mono B2.size);have Oe:=KC.below N2 KC.lt;have N8:=KF.below N2 KF.lt;have Om:dN w3 nb names:=HN.keep (B3.block _ Ok);have z3:=N8.lt;clear KC KF N2 Ol Ow Ox Oy;obtain⟨r1,r2⟩:=Oe.rules;obtain⟨r3,r4⟩:=N8.rules;go_wp2_with fail
 clear r1 r2 r3 r4;refine(Ly _ nb names nk ns np Om hln).mono ?_
 cases h2:gA names ns
 rotate_left
 ·rintro e w4 ⟨rfl,Oh⟩;obtain rfl:r= .error np:=by rw[<-HR.out,gh];simp only[h1,h2,if_true,aK,if_false]
  unfold da;go_wp2;exact⟨rfl,rfl,dl.of_below (B3.trans (Oh.mono B3.size))⟩
 rintro e w4 ⟨rfl,Ot,Od⟩;have e1:w.heap.size≠nb:=by omega
 have e2:w.heap.size+1≠nb:=by omega
 have C4:dl [nb,mb] w w4:=(dl.of_below B3).trans (Od.mono (by simp));have Of:de w4 w.heap.size #[.map (some tb),.map (some nb),.map (some mb)] 306:=(Od.block _ Oe.lt (by simpa using e1)).trans Oe;have Oa:de w4 (w.heap.size+1) #[aa form,aa kk,ae ks,aa kp,aa tk,ae ts,aa tp,aa nk,ae ns,aa np,aa mk,ae ms,aa mp] 211:=(Od.block _ N8.lt (by simpa using e2)).trans N8;have Oj:eC w4 mb nums:=HM.keep ((Od.block _ (aC Oi B3.size) (by simpa using fun e=>d3 e.symm)).trans (B3.block _ Oi));have Oo:GOK w4:=hg.keep ((Od.block _ (aC hg.lt B3.size) (by simpa using g1)).trans (B3.block _ hg.lt));have Ob:w4.ownsMap Tryz.prog 53 (unitElem (H:=Unit)) mb nums.length (setOf (.agg []) (nums.map mR)):=Oj;have z4:=Oa.lt;clear Oe N8 Om;obtain⟨r1,r2⟩:=Of.rules;obtain⟨r3,r4⟩:=Oa.rules
 cases h3:decide (12<=nums.length)
 rotate_left
 ·have hd:(12:Int)<=(nums.length:Int):=by have:=of_decide_eq_true h3;omega
  obtain rfl:r= .error np:=by rw[<-HR.out,gh];simp only[h1,h2,h3,if_true,aK,if_false]
  go_wp2_with (at_len;refine wpList_len_own _ rfl _ 304 rfl 53 162 Tryz.underlying304 _ mb _ _ rfl Ob ?_;rw[wJ nums Oc])
  refine(iD _ nk ns np).mono ?_;rintro e w5 ⟨rfl,N7⟩;unfold da;go_wp2;exact⟨rfl,rfl,C4.trans (dl.of_below N7)⟩
 have hd:decide ((12:Int)<=(nums.length:Int))=false:=by have:=of_decide_eq_false h3;simp;omega
 go_wp2_with (at_len;refine wpList_len_own _ rfl _ 304 rfl 53 162 Tryz.underlying304 _ mb _ _ rfl Ob ?_;rw[wJ nums Oc])
 refine(mS _ nk ns np).mono ?_;rintro e w5 ⟨rfl,N7⟩;have C5:=C4.trans (dl.of_below N7);have Oz:=Of.below N7 Of.lt;have OA:=Oa.below N7 Oa.lt;have Oq:=Ot.keep (N7.block _ Ot.lt);have OB:=Oj.keep (N7.block _ Oj.lt);have OC:=Oo.keep (N7.block _ Oo.lt);clear Of Oa r1 r2 r3 r4 hd;obtain⟨r1,r2⟩:=Oz.rules;obtain⟨r3,r4⟩:=OA.rules;go_wp2_with fail
 clear r1 r2 r3 r4;refine(Nr _ tb nb mb mk ms mp hok OC nums OB hlm).mono ?_
 cases h4:oZ nums (fy ms)
 rotate_left
 ·rintro e w6 ⟨rfl,OD⟩;obtain rfl:r= .error mp:=by rw[<-HR.out,gh];simp only[h1,h2,h3,h4,if_true,aK,if_false]
  unfold da;go_wp2;exact⟨rfl,rfl,C5.trans (dl.of_below OD)⟩
 rintro e w6 ⟨rfl,OE,Ou⟩;obtain rfl:r= .ok (names++ [ns],nums++ [fy ms]):=by rw[<-HR.out,gh];simp only[h1,h2,h3,h4,aK,if_false]
 go_wp2;go_end0;exact⟨rfl,Oq.keep (Ou.block _ Oq.lt (by simpa using d3)),OE,C5.trans (Ou.mono (by simp))⟩
theorem Hf (w:an)(tb nb mb:Nat)(form kk:Int)(ks:am)(kp:Nat)(tk:Int)(ts:am)(tp:Nat)(nk:Int)(ns:am)(np:Nat)(mk:Int)(ms:am)(mp:Nat)(hf:(form==4)=true)(hkg:gL kk ks=false):
  Calls Tryz.prog 180 #[.agg #[.map (some tb),.map (some nb),.map (some mb)],.agg #[aa form,aa kk,ae ks,aa kp,aa tk,ae ts,aa tp,aa nk,ae ns,aa np,aa mk,ae ms,aa mp]] w fun e w'=>e=da 3 kp/\aj w w':=by
 obtain⟨B0,Og,N3⟩:=eD w #[.map (some tb),.map (some nb),.map (some mb)] #[aa form,aa kk,ae ks,aa kp,aa tk,ae ts,aa tp,aa nk,ae ns,aa np,aa mk,ae ms,aa mp] 306 211;obtain⟨r1,r2⟩:=Og.rules;obtain⟨r3,r4⟩:=N3.rules;go_enter Tryz.func180,Tryz.ntmps180
 go_wp2_with fail
 refine wp_region_held_drew (S:=fun w'=>w'.cell? (ai (w.heap.size+1) 1)=some (aa kk)/\w'.cell? (ai (w.heap.size+1) 2)=some (ae ks)/\w'.cell? (ai (w.heap.size+1) 3)=some (aa kp)) (by kernel_rfl) ⟨N3.cell 1,N3.cell 2,N3.cell 3⟩ (fun hHeld=> ?_);refine NW 0 (.pointer (some (ai (w.heap.size+1) 1))) hHeld ?_;simp only[Act.put,NZ];refine NW 1 (.agg #[aa kk,ae ks,aa kp]) hHeld ?_;simp only[Act.put,NZ];refine NW 4 (.pointer (some (ai (w.heap.size+1) 1))) hHeld ?_;simp only[Act.put,NZ];refine NW 5 (.agg #[aa kk,ae ks,aa kp]) hHeld ?_;simp only[Act.put,NZ];refine wpAnyH_ready (rs:= [2]) (by kernel_rfl) (by simp) (AllReadyH.cons rfl (fun K hK=> ?_) AllReadyH.nil);clear r1 r2 r3 r4;go_simp;refine(Np _ kk ks kp).mono ?_;rw[hkg];rintro e w3 ⟨rfl,N2⟩;have K3:=N3.drew.below N2 N3.lt;clear hHeld;refine hK.out _ _ ⟨K3.cell 1,K3.cell 2,K3.cell 3⟩ (fun hHeld=> ?_);clear hK K;refine NW 3 (.bool true) hHeld ?_;simp only[Act.put,NZ];refine wpAnyH_ready (rs:= [6]) (by kernel_rfl) (by simp) (AllReadyH.cons rfl (fun K hK=> ?_) AllReadyH.nil);clear hK;go_simp;refine(iD _ kk ks kp).mono ?_;rintro e w4 ⟨rfl,hb⟩;exact⟨rfl,rfl,(B0.drew.trans (N2.mono (by simp;omega))).trans (hb.mono (by have:=N2.size;simp at this;omega))⟩
theorem Ns (w:an)(tb nb mb:Nat)(types names:ar)(nums:au)(form kk:Int)(ks:am)(kp:Nat)(tk:Int)(ts:am)(tp:Nat)(nk:Int)(ns:am)(np:Nat)(mk:Int)(ms:am)(mp:Nat)(HT:dN w tb types)(HN:dN w nb names)(HM:eC w mb nums)(d3:nb≠mb)(g1:5≠nb)(hln:names.length<5000)(hlm:nums.length<5000)(Oc:nums.Nodup)(hok:gT ms)(hg:GOK w):
  Calls Tryz.prog 180 #[.agg #[.map (some tb),.map (some nb),.map (some mb)],.agg #[aa form,aa kk,ae ks,aa kp,aa tk,ae ts,aa tp,aa nk,ae ns,aa np,aa mk,ae ms,aa mp]] w (Ei nb mb w (pG types names nums form kk ks kp tk ts tp ns np ms mp)):=by
 unfold pG
 cases hf:(form==4)
 ·simp only[cl,aK,if_false];exact CY w tb nb mb types names nums form kk ks kp tk ts tp nk ns np mk ms mp HT HN HM d3 g1 hln hlm Oc hok hg hf
 ·cases hkg:gL kk ks
  ·simp only[cm,cD,if_true];exact(Hf w tb nb mb form kk ks kp tk ts tp nk ns np mk ms mp hf hkg).mono fun e w' h=>⟨h.1,dl.of_below h.2⟩
  ·simp only[cr,cg,aK,if_false];exact He w tb nb mb types names nums form kk ks kp tk ts tp nk ns np mk ms mp HT HN HM d3 g1 hln hlm Oc hok hg hf hkg
theorem nX (x:W×W):(At x).length=6:=rfl
def jJ:List ByteArray->List (W×W)->Except Nat (List ByteArray)
 |names,[]=> .ok names
 |names,v::vs=>if gA names v.1.1 then .error v.1.2 else if decide (2147483647<fy v.2.1)then .error v.2.2 else jJ (names++ [v.1.1]) vs
def wK {α:Type}(r:Except Nat α)(e:Ending):Prop:=
 match r with
 | .error p=>e=da 3 p
 | .ok _=>e= .returned (.tuple #[])
theorem NP (w:World)(eb:Bool)(bk:Int)(bs:ByteArray)(bp:Nat)(pa:Option Addr)(pn pc:Nat)(va:Option Addr)(vn vc:Nat)(vs:List (W×W))(hrow:w.ownsRow 0 302 6 (.slice va vn vc) vs.length (vs.flatMap At))(hlen:vs.length<=2001)(hnum:∀v∈vs,gT v.2.1)(hg:GOK w):
  Calls Tryz.prog 122 #[.agg #[.bool eb,.int .i64 bk,.string bs,.int .i64 bp,.slice pa pn pc,.slice va vn vc]] w fun e w'=>wK (jJ [] vs) e/\Below w.heap.size w w':=by
 have Om:=dR hrow;subst Om;have hmm:= @run_makeMap Tryz.prog;have C0:Below w.heap.size w ((w.alloc (Obj.cells #[.bool eb,.int .i64 bk,.string bs,.int .i64 bp,.slice pa pn pc,.slice va vs.length vc] 152)).alloc (Obj.map #[] 0)):=((Below.refl w.heap.size w).alloc (ay _) _).alloc (by simp) _
 have M0:dN ((w.alloc (Obj.cells #[.bool eb,.int .i64 bk,.string bs,.int .i64 bp,.slice pa pn pc,.slice va vs.length vc] 152)).alloc (Obj.map #[] 0)) (w.heap.size+1) []:=by
  have:=World.ownsMap_made (w.alloc (Obj.cells #[.bool eb,.int .i64 bk,.string bs,.int .i64 bp,.slice pa pn pc,.slice va vs.length vc] 152)) Tryz.prog 9 (unitElem (H:=Unit));simpa [dN,setOf]using this
 have zz:((w.alloc (Obj.cells #[.bool eb,.int .i64 bk,.string bs,.int .i64 bp,.slice pa pn pc,.slice va vs.length vc] 152)).alloc (Obj.map #[] 0)).heap.size=w.heap.size+2:=by simp
 generalize hr:jJ [] vs=r;have HR:Hid (jJ [] vs=r):=hr;clear hr;go_enter Tryz.func122,Tryz.ntmps122
 go_wp2;go_loopw [9] (fun i wr=>∃(k:Nat) (names:List ByteArray),k<=vs.length/\i= .int .i64 k/\names.length<=k/\Hid (jJ names (vs.drop k)=r)/\dN wr (w.heap.size+1) names/\Below w.heap.size w wr/\w.heap.size+1<wr.heap.size) (fun i _=>vs.length-(intOf i).toNat)
 case atStart=>exact⟨0,[],aM _,rfl,by simp,HR,M0,C0,by omega⟩
 case round=>
  clear M0 C0 zz;obtain⟨k,names,hk,rfl,hnl,HP,HS,CC,hz⟩:=hrel
  by_cases hlt:k<vs.length
  ·obtain⟨v,hv⟩:=gx hlt;have Of:v∈vs:=aI hv
   have N3:vs.drop k=v::vs.drop (k+1):=by
    rw[aU hlt];rw[aJ hlt]at hv;rw[Option.some.inj hv]
   have Oe:Hid (jJ names (v::vs.drop (k+1))=r):=by rw[<-N3];exact HP
   obtain⟨g,rfl,_,Oq,N8⟩:=dE hrow (by omega);have Oa:=N8 wr (CC.block g Oq);have q0:=Oa (k*6) _ ((eE At 6 nX vs k v hv 0 (by omega)).trans rfl);have q1:=Oa (k*6+1) _ ((eE At 6 nX vs k v hv 1 (by omega)).trans rfl);have q2:=Oa (k*6+2) _ ((eE At 6 nX vs k v hv 2 (by omega)).trans rfl);have q3:=Oa (k*6+3) _ ((eE At 6 nX vs k v hv 3 (by omega)).trans rfl);have q4:=Oa (k*6+4) _ ((eE At 6 nX vs k v hv 4 (by omega)).trans rfl);have q5:=Oa (k*6+5) _ ((eE At 6 nX vs k v hv 5 (by omega)).trans rfl);have Og:=hnum v Of;have KV:=de.new wr #[.int .i64 (cZ v.1.1),.string v.1.1,.int .i64 v.1.2,.int .i64 (cZ v.2.1),.string v.2.1,.int .i64 v.2.2] 302;have CA:=CC.alloc CC.size (Obj.cells #[.int .i64 (cZ v.1.1),.string v.1.1,.int .i64 v.1.2,.int .i64 (cZ v.2.1),.string v.2.1,.int .i64 v.2.2] 302);have Oh:dN (wr.alloc (Obj.cells #[.int .i64 (cZ v.1.1),.string v.1.1,.int .i64 v.1.2,.int .i64 (cZ v.2.1),.string v.2.1,.int .i64 v.2.2] 302)) (w.heap.size+1) names:=HS.keep (Below.heap_alloc _ _ _ HS.lt);clear N8 Oa hv N3 HP Of;go_wp2_with fail
   clear q0 q1 q2 q3 q4 q5;refine(Ly _ (w.heap.size+1) names _ v.1.1 v.1.2 Oh (by omega)).mono ?_
   cases h1:gA names v.1.1
   rotate_left
   ·rintro e w4 ⟨rfl,Ot⟩;obtain rfl:r= .error v.1.2:=by rw[<-Oe.out,jJ];simp only[h1,if_true]
    unfold da;go_wp2;exact⟨rfl,rfl,CA.trans (Ot.mono CA.size)⟩
   rintro e w4 ⟨rfl,Oj,Ok⟩;have C4:Below w.heap.size w w4:=CA.trans (Ok.to_below CA.size (by intro x hx;simp at hx;omega));have N2:de w4 wr.heap.size #[.int .i64 (cZ v.1.1),.string v.1.1,.int .i64 v.1.2,.int .i64 (cZ v.2.1),.string v.2.1,.int .i64 v.2.2] 302:=(Ok.block _ KV.lt (by simp;omega)).trans KV;have Oi:GOK w4:=hg.keep (C4.block _ hg.lt);have z4:=N2.lt;clear KV CA Oh;go_wp2_with fail
   cases h2:decide (2147483647<fy v.2.1)
   rotate_left
   ·have hd:(2147483647:Int)<((fy v.2.1:Nat):Int):=by have:=of_decide_eq_true h2;omega
    obtain rfl:r= .error v.2.2:=by rw[<-Oe.out,jJ];simp only[h1,h2,if_true,aK,if_false]
    refine wp_region_held_drew (S:=fun w'=>w'.cell? ⟨wr.heap.size,3,none⟩=some (.int .i64 (cZ v.2.1))/\w'.cell? ⟨wr.heap.size,4,none⟩=some (.string v.2.1)/\w'.cell? ⟨wr.heap.size,5,none⟩=some (.int .i64 v.2.2)) (by kernel_rfl) ⟨N2.cell 3,N2.cell 4,N2.cell 5⟩ (fun hHeld=> ?_);refine NW 0 (.pointer (some ⟨wr.heap.size,3,none⟩)) hHeld ?_;simp only[Act.put,NZ];refine NW 1 (.agg #[.int .i64 (cZ v.2.1),.string v.2.1,.int .i64 v.2.2]) hHeld ?_;simp only[Act.put,NZ];refine NW 4 (.pointer (some ⟨wr.heap.size,3,none⟩)) hHeld ?_;simp only[Act.put,NZ];refine NW 5 (.agg #[.int .i64 (cZ v.2.1),.string v.2.1,.int .i64 v.2.2]) hHeld ?_;simp only[Act.put,NZ];refine wpAnyH_ready (rs:= [2]) (by kernel_rfl) (by simp) (AllReadyH.cons rfl (fun K hK=> ?_) AllReadyH.nil);go_simp;refine(Jm _ _ v.2.1 v.2.2 Og (Oi.keep (w':=w4.drew) rfl)).mono ?_;rintro e w5 ⟨rfl,Oc⟩;have K5:=N2.drew.below Oc N2.lt;clear hHeld;refine hK.out _ _ ⟨K5.cell 3,K5.cell 4,K5.cell 5⟩ (fun hHeld=> ?_);clear hK K;refine NW 3 (.bool true) hHeld ?_;simp only[Act.put,NZ];refine wpAnyH_ready (rs:= [6]) (by kernel_rfl) (by simp) (AllReadyH.cons rfl (fun K hK=> ?_) AllReadyH.nil);clear hK;go_simp;refine(iD _ _ v.2.1 v.2.2).mono ?_;rintro e w6 ⟨rfl,hb⟩;exact⟨rfl,rfl,(C4.drew.trans (Oc.mono C4.size)).trans (hb.mono (aG C4.size Oc.size))⟩
   have hd:decide ((2147483647:Int)<((fy v.2.1:Nat):Int))=false:=by have:=of_decide_eq_false h2;simp;omega
   have Oo:Hid (jJ (names++ [v.1.1]) (vs.drop (k+1))=r):=by
    have:=Oe.out;rw[jJ]at this;simp only[h1,h2,aK,if_false]at this;exact this
   go_region_held3 (fun w'=>w'.cell? ⟨wr.heap.size,3,none⟩=some (.int .i64 (cZ v.2.1))/\w'.cell? ⟨wr.heap.size,4,none⟩=some (.string v.2.1)/\w'.cell? ⟨wr.heap.size,5,none⟩=some (.int .i64 v.2.2))
    (first|exact⟨K6.cell 3,K6.cell 4,K6.cell 5⟩|exact⟨K5.cell 3,K5.cell 4,K5.cell 5⟩|exact⟨N2.cell 3,N2.cell 4,N2.cell 5⟩)
    (first|(go_at_call 165;refine(Jm _ _ v.2.1 v.2.2 Og (Oi.keep (w':=w4.drew) rfl)).mono ?_;rintro e w5 ⟨rfl,Oc⟩;have K5:=N2.drew.below Oc N2.lt)|(go_at_call 123;refine(mS _ _ v.2.1 v.2.2).mono ?_;rintro e w6 ⟨rfl,Ol⟩;have K6:=K5.below Ol K5.lt))
   go_wp2;go_roundw
   case rel=>
    go_light;have Od:Below w4.heap.size w4 w5:=(Below.refl w4.heap.size w4).drew.trans Oc;have Ob:Below w4.heap.size w4 w6:=Od.trans (Ol.mono Od.size);refine⟨k+1,names++ [v.1.1],by omega,by go_num,by simp;omega,Oo,Oj.keep (Ob.block _ Oj.lt),C4.trans (Ob.mono C4.size),?_⟩;have:=Ob.size;omega
   case measure=>go_light;simp[intOf];omega
  ·have N7:vs.drop k= []:=by rw[cq];omega
   obtain rfl:r= .ok names:=by rw[<-HP.out,N7];rfl
   clear N7;go_wp2;go_end0;exact⟨rfl,CC⟩
end
end Go.Proofs.YtfebdimolnobaaaGreatDoor
