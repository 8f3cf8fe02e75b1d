import Derived.Test.YtfebdimolnobaaaGreatDoorWkK
set_option maxRecDepth 100000
set_option maxHeartbeats 8000000
set_option linter.all false
namespace Go.Proofs.YtfebdimolnobaaaGreatDoor
open Go.RowKit Go.Proofs.Tryz
section
open Tq
section
variable (w:aw) (P:ax) (mp:am) (g:GF) (fb:Nat)
def vH (iq:aC)(h:eR w P mp g fb):S9 211 #[ag fb,.pointer iq] w (mO w):=by
 have Vo:= @yG;obtain⟨pv,rv,h1,_,Ts,TO⟩:=h.blk;obtain⟨pq,rfl⟩:=g8 TO;obtain⟨ra,rn,rc,rfl⟩:=dO Ts.1
 have TN:eG mp g<=16:=by
  unfold eG;split;.exact aD _
  .exact nP _ _
 have Vp:=h1.lt;have hT:∀W,aj w W->S9 231 #[ag fb] W λe w'=>∃n k,e= .returned (.agg #[aa n,aa k])/\Below W.heap.size W w':=λW hW=>L9 W P mp g fb (h.O (λb _ hl=>hW.block b hl))
 have TP:∀W,aj w W->S9 209 #[ag fb] W λe w'=>e= .returned (.bool (it mp g))/\Below W.heap.size W w':=λW hW=>oX W P mp g fb (h.O (λb _ hl=>hW.block b hl))
 have d0:aj w w.drew:=(Below.refl _ _).drew;have d1:=λo1=>((Tb w).alloc (aD _) o1).drew
 have d2:=λo1 o2=>(Below.a2 w o1 o2).drew
 have d3:=λo1 o2 o3=>(Below.a3 w o1 o2 o3).drew
 have Vm:=λW iq=>kD W (eG mp g) pq iq TN
 have Vn:=λW iq=>qL W 293 (.inr rfl) (eG mp g) pq iq TN
 clear TO Ts h;go_enter func211,ntmps211;go_upto_region 1 with fail
 go_cut [5,6]from 7 to 15 (λx y wx=>∃p q,x= .pointer p/\y= .pointer q/\aj w wx)
 case first=>
  go_region_held2 (λW=>W.cell? (ai fb 2)=some (aa (eG mp g))/\W.cell? (ai fb 3)=some (.pointer pq))
   ((go_light;refine(Qh (a:=aa g.f.num) (b:=aa g.form) (e:= .slice ra rn rc) (T:=220) ?_).2;repeat (first|exact K4|exact K3|exact K2|exact h1|refine dP.alloc ?_ _|refine dP.drew ?_|refine dP.other ?_ _ _ (by first|exact of_eq_false To|omega))))
   (first|(go_at_call 231;refine(hT _ (by first|exact d0|exact d1 _|exact d2 _ _|exact d3 _ _ _)).V ?_;rintro e w2 ⟨n2,m2,rfl,b2⟩;(first|(refine pF (DV (jw b2)) ?_;rintro⟨Tu,B1,B2⟩;obtain⟨Tv,Tw,Tx,Ty,Tz,TA⟩:=B1.far;obtain⟨TQ,TR,TS,TT,TU,TV⟩:=B2.far)|(refine pF (DU (jw b2)) ?_;rintro⟨Tu,B1⟩;obtain⟨Tv,Tw,Tx,Ty,Tz,TA⟩:=B1.far)|(refine pF (jw b2) ?_;intro Tu));have K2:=h1.on Tu;have z2:=K2.lt)|(go_at_call 242;refine(Qj _ n2 m2).V ?_;rintro e w3 ⟨n3,rfl,b3⟩;(first|(refine pF (DV (b3)) ?_;rintro⟨Tr,D1,D2⟩;obtain⟨TB,TC,TD,TE,TF,TG⟩:=D1.far;obtain⟨TW,TX,TY,TZ,T0,T4⟩:=D2.far)|(refine pF (DU (b3)) ?_;rintro⟨Tr,D1⟩;obtain⟨TB,TC,TD,TE,TF,TG⟩:=D1.far)|(refine pF (b3) ?_;intro Tr));have K3:=K2.on Tr;have z3:=K3.lt;(first|(have C1:=B1.on Tr;obtain⟨TH,TI,TJ,TK,TL,TM⟩:=C1.far;have C2:=B2.on Tr;obtain⟨T5,T6,T7,T8,T9,Ua⟩:=C2.far)|(have C1:=B1.on Tr;obtain⟨TH,TI,TJ,TK,TL,TM⟩:=C1.far)|skip))|(go_at_call 289;refine(Vm _ _).V ?_;rintro e w4 ⟨f4,c4,rfl,b4⟩;(first|(refine pF (DV (b4)) ?_;rintro⟨Tt,E1,E2⟩;obtain⟨Ub,Uc,Ud,Ue,Uf,Ug,Uh,Ui,Uj,Uk,Ul⟩:=E1.all;obtain⟨Um,Un,Uo,Up,Uq,Ur⟩:=E1.far;obtain⟨xE2a,xE2b,xE2c,xE2d,xE2e,xE2f,xE2g,xE2h,xE2i,xE2j,xE2k⟩:=E2.all;obtain⟨yE2a,yE2b,yE2c,yE2d,yE2e,yE2f⟩:=E2.far)|(refine pF (DU (b4)) ?_;rintro⟨Tt,E1⟩;obtain⟨Ub,Uc,Ud,Ue,Uf,Ug,Uh,Ui,Uj,Uk,Ul⟩:=E1.all;obtain⟨Um,Un,Uo,Up,Uq,Ur⟩:=E1.far)|(refine pF (b4) ?_;intro Tt));have K4:=K3.on Tt;have z4:=K4.lt;(first|(have G1:=C1.on Tt;obtain⟨Us,Ut,Uu,Uv,Uw,Ux,Uy,Uz,UA,UB,UC⟩:=G1.all;obtain⟨UD,UE,UF,UG,UH,UI⟩:=G1.far;have G2:=C2.on Tt;obtain⟨xG2a,xG2b,xG2c,xG2d,xG2e,xG2f,xG2g,xG2h,xG2i,xG2j,xG2k⟩:=G2.all;obtain⟨yG2a,yG2b,yG2c,yG2d,yG2e,yG2f⟩:=G2.far)|(have G1:=C1.on Tt;obtain⟨Us,Ut,Uu,Uv,Uw,Ux,Uy,Uz,UA,UB,UC⟩:=G1.all;obtain⟨UD,UE,UF,UG,UH,UI⟩:=G1.far)|skip);(first|(have H1:=D1.on Tt;obtain⟨UJ,UK,UL,UM,UN,UO,UP,UQ,UR,US,UT⟩:=H1.all;obtain⟨UU,UV,UW,UX,UY,UZ⟩:=H1.far;have H2:=D2.on Tt;obtain⟨xH2a,xH2b,xH2c,xH2d,xH2e,xH2f,xH2g,xH2h,xH2i,xH2j,xH2k⟩:=H2.all;obtain⟨yH2a,yH2b,yH2c,yH2d,yH2e,yH2f⟩:=H2.far)|(have H1:=D1.on Tt;obtain⟨UJ,UK,UL,UM,UN,UO,UP,UQ,UR,US,UT⟩:=H1.all;obtain⟨UU,UV,UW,UX,UY,UZ⟩:=H1.far)|skip)))
  all_goals
   go_wp2;go_meet
   case rel=>
    go_light;have y2:=Tu.size;have y3:=Tr.size;have y4:=Tt.size;refine⟨_,_,rfl,rfl,?_⟩;repeat (first|exact Below.refl _ _|refine Below.drew ?_|refine Below.alloc ?_ (by first|(simp;done)|omega|(simp<;>omega)) _|refine Below.setCell ?_ (by first|(simp;done)|omega|(simp<;>omega)) _|refine dL ?_ b4|refine dL ?_ b3|refine dL ?_ b2)
 case rest=>
  obtain⟨p,q,rfl,rfl,b3⟩:=hcut;have hq:=TP wc b3
  cases hpk:it mp g with
  |true=>
   rw[hpk]at hq;go_wp2_with fail;refine hq.V ?_;rintro e w5 ⟨rfl,b5⟩;go_wp2;go_ret
   exact⟨_,_,rfl,dL b3 b5⟩
  |false=>
   rw[hpk]at hq;go_wp2_with fail;refine hq.V ?_;rintro e w5 ⟨rfl,b5⟩;go_wp2;go_ret;exact⟨_,_,rfl,dL b3 b5⟩
def Fm (iq:aC)(h:eR w P mp g fb)(hp:it mp g=false):S9 212 #[ag fb,.pointer iq] w (mO w):=by
 have Vo:= @yG;obtain⟨pv,rv,h1,_,Ts,TO⟩:=h.blk;obtain⟨pq,rfl⟩:=g8 TO;obtain⟨ra,rn,rc,rfl⟩:=dO Ts.1
 have TN:eG mp g<=16:=by
  unfold eG;split;.exact aD _
  .exact nP _ _
 have Vp:=h1.lt;have hT:∀W,aj w W->S9 231 #[ag fb] W λe w'=>∃n k,e= .returned (.agg #[aa n,aa k])/\Below W.heap.size W w':=λW hW=>L9 W P mp g fb (h.O (λb _ hl=>hW.block b hl))
 have TP:∀W,aj w W->S9 209 #[ag fb] W λe w'=>e= .returned (.bool (it mp g))/\Below W.heap.size W w':=λW hW=>oX W P mp g fb (h.O (λb _ hl=>hW.block b hl))
 have d0:aj w w.drew:=(Below.refl _ _).drew;have d1:=λo1=>((Tb w).alloc (aD _) o1).drew
 have d2:=λo1 o2=>(Below.a2 w o1 o2).drew
 have d3:=λo1 o2 o3=>(Below.a3 w o1 o2 o3).drew
 have Vm:=λW iq=>kD W (eG mp g) pq iq TN
 have Vn:=λW iq=>qL W 293 (.inr rfl) (eG mp g) pq iq TN
 clear TO Ts h;have hq:=TP w (Below.refl _ _);rw[hp]at hq;go_enter func212,ntmps212;go_wp2_with fail;refine hq.V ?_;rintro e wb ⟨rfl,b0⟩;have hb:=h1.on b0;have hbl:=hb.lt;clear d0 d1 d2 d3;have d0:aj w wb.drew:=b0.drew;have d1:=λo1=>(dL b0 ((Tb wb).alloc (aD _) o1)).drew
 have d2:=λo1 o2=>(dL b0 (Below.a2 wb o1 o2)).drew
 have yb:=b0.size;go_upto_region 3 with fail
 go_cut [5,6]from 11 to 18 (λx y wx=>∃p q,x= .pointer p/\y= .pointer q/\aj w wx)
 case first=>
  go_region_held2 (λW=>W.cell? (ai fb 2)=some (aa (eG mp g))/\W.cell? (ai fb 3)=some (.pointer pq))
   ((go_light;refine(Qh (a:=aa g.f.num) (b:=aa g.form) (e:= .slice ra rn rc) (T:=220) ?_).2;repeat (first|exact K3|exact K2|exact hb|refine dP.alloc ?_ _|refine dP.drew ?_|refine dP.other ?_ _ _ (by first|exact of_eq_false To|omega))))
   (first|(go_at_call 231;refine(hT _ (by first|exact d0|exact d1 _|exact d2 _ _)).V ?_;rintro e w2 ⟨n2,m2,rfl,b2⟩;(first|(refine pF (DV (jw b2)) ?_;rintro⟨Tu,B1,B2⟩;obtain⟨Tv,Tw,Tx,Ty,Tz,TA⟩:=B1.far;obtain⟨TQ,TR,TS,TT,TU,TV⟩:=B2.far)|(refine pF (DU (jw b2)) ?_;rintro⟨Tu,B1⟩;obtain⟨Tv,Tw,Tx,Ty,Tz,TA⟩:=B1.far)|(refine pF (jw b2) ?_;intro Tu));have K2:=hb.on Tu;have z2:=K2.lt)|(go_at_call 293;refine(Vn _ _).V ?_;rintro e w3 ⟨f3,c3,rfl,b3⟩;(first|(refine pF (DV (b3)) ?_;rintro⟨Tr,D1,D2⟩;obtain⟨U0,U1,U2,U3,U4,U5,U6,U7,U8,U9,Va⟩:=D1.all;obtain⟨TB,TC,TD,TE,TF,TG⟩:=D1.far;obtain⟨xD2a,xD2b,xD2c,xD2d,xD2e,xD2f,xD2g,xD2h,xD2i,xD2j,xD2k⟩:=D2.all;obtain⟨TW,TX,TY,TZ,T0,T4⟩:=D2.far)|(refine pF (DU (b3)) ?_;rintro⟨Tr,D1⟩;obtain⟨U0,U1,U2,U3,U4,U5,U6,U7,U8,U9,Va⟩:=D1.all;obtain⟨TB,TC,TD,TE,TF,TG⟩:=D1.far)|(refine pF (b3) ?_;intro Tr));have K3:=K2.on Tr;have z3:=K3.lt;(first|(have C1:=B1.on Tr;obtain⟨Vb,Vc,Vd,Ve,Vf,Vg,Vh,Vi,Vj,Vk,Vl⟩:=C1.all;obtain⟨TH,TI,TJ,TK,TL,TM⟩:=C1.far;have C2:=B2.on Tr;obtain⟨xC2a,xC2b,xC2c,xC2d,xC2e,xC2f,xC2g,xC2h,xC2i,xC2j,xC2k⟩:=C2.all;obtain⟨T5,T6,T7,T8,T9,Ua⟩:=C2.far)|(have C1:=B1.on Tr;obtain⟨Vb,Vc,Vd,Ve,Vf,Vg,Vh,Vi,Vj,Vk,Vl⟩:=C1.all;obtain⟨TH,TI,TJ,TK,TL,TM⟩:=C1.far)|skip)))
  all_goals
   go_wp2;go_meet
   case rel=>
    go_light;have y2:=Tu.size;have y3:=Tr.size;refine⟨_,_,rfl,rfl,?_⟩;repeat (first|exact Below.refl _ _|refine Below.drew ?_|refine Below.alloc ?_ (by first|(simp;done)|omega|(simp<;>omega)) _|refine Below.setCell ?_ (by first|(simp;done)|omega|(simp<;>omega)) _|refine dL ?_ b3|refine dL ?_ b2|refine dL ?_ b0)
 case rest=>
  obtain⟨p,q,rfl,rfl,b3⟩:=hcut;go_wp2;go_ret;exact⟨_,_,rfl,b3⟩
end
end
end Go.Proofs.YtfebdimolnobaaaGreatDoor
