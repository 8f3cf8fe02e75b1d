import Derived.Test.YtfebdimolnobaaaGreatDoorCnP
import Derived.LaidMore
import Derived.OpenShut
import Derived.SizedLaws
import Derived.Carry
import Derived.Stop.Joined
import Derived.Stop.LaidErr
import Derived.Lib.LaidU8T
import Derived.Deep.DeepHandedRow
import Derived.Deep.DeepWitnessRowRef
set_option maxRecDepth 100000
set_option maxHeartbeats 8000000
set_option linter.all false
namespace Go.Proofs.YtfebdimolnobaaaGreatDoor
open Go.RowKit
section
open Go.Maps
attribute [local go_sem↓] Go.wp_at_zero Go.wp_at_succ
def Nh:List (am×Int×Int):= [(⟨#[0]⟩,8,0),(⟨#[7]⟩,8,0),(⟨#[11]⟩,9,0),(⟨#[15]⟩,9,0),(⟨#[136]⟩,6,0),(⟨#[8]⟩,6,1),(⟨#[8,128]⟩,6,1),(⟨#[13,1,2,3]⟩,6,1),(⟨#[10,5,1]⟩,6,2),(⟨#[10,128]⟩,6,1),(⟨#[9,1]⟩,6,1),(⟨#[136,136,136,136,136,136,136,136,136,2]⟩,7,0),(⟨#[8]⟩++⟨#[136,136,136,136,136,136,136,136,136,2]⟩,7,1)]
def ND (x:am×Int×Int):Bool:=decide (0<x.1.size)&&decide (x.1.size<=20)&&decide (0<=x.2.2)&&decide (x.2.2<=2)&&(match fF x.1 0 x.1.size with| .error y=>y==x.2| .ok _=>false)
theorem IX:Nh.all ND=true:=by decide+kernel
theorem Ld {i:Nat}{x:am×Int×Int}(h:Nh[i]?=some x):0<x.1.size/\x.1.size<=20/\0<=x.2.2/\x.2.2<=2/\fF x.1 0 x.1.size= .error x.2:=by
 have:=List.all_eq_true.1 IX x (aI h);unfold ND at this;simp only[aT,decide_eq_true_eq]at this;refine⟨this.1.1.1.1,this.1.1.1.2,this.1.1.2,this.1.2,?_⟩;have h2:=this.2
 cases hr:fF x.1 0 x.1.size with
 |error y=>rw[hr]at h2;simp only[beq_iff_eq]at h2;rw[h2]
 |ok r=>rw[hr]at h2;cases h2
abbrev Ll:Array Value:= #[ae ⟨#[0]⟩,ae ⟨#[7]⟩,ae ⟨#[11]⟩,ae ⟨#[15]⟩,ae ⟨#[136]⟩,ae ⟨#[8]⟩,ae ⟨#[8,128]⟩,ae ⟨#[13,1,2,3]⟩,ae ⟨#[10,5,1]⟩,ae ⟨#[10,128]⟩,ae ⟨#[9,1]⟩,ae ⟨#[136,136,136,136,136,136,136,136,136,2]⟩,ae (⟨#[8]⟩++⟨#[136,136,136,136,136,136,136,136,136,2]⟩)]
abbrev Mg:Array Value:= #[aa 8,aa 8,aa 9,aa 9,aa 6,aa 6,aa 6,aa 6,aa 6,aa 6,aa 6,aa 7,aa 7]
abbrev Mq:Array Value:= #[aa 0,aa 0,aa 0,aa 0,aa 0,aa 1,aa 1,aa 1,aa 2,aa 1,aa 1,aa 0,aa 1]
theorem Lf {i:Nat}(hi:i<13):∃x,Nh[i]?=some x/\Ll[i]?=some (ae x.1)/\Mg[i]?=some (aa x.2.1)/\Mq[i]?=some (aa x.2.2):=by
 have:i=0\/i=1\/i=2\/i=3\/i=4\/i=5\/i=6\/i=7\/i=8\/i=9\/i=10\/i=11\/i=12:=by omega
 rcases this with rfl|rfl|rfl|rfl|rfl|rfl|rfl|rfl|rfl|rfl|rfl|rfl|rfl<;>exact⟨_,rfl,rfl,rfl,rfl⟩
theorem GT (w:an)(text nm b more:am)(hg:GOK w)(hbo:BOK w)(hu:UOK w)(ht:text.size<=140737488355328)(hb:b.size+more.size<=2097152):
  Calls Tryz.prog 9 #[ae text,ae nm,ae b,ae more] w fun e w'=>e= .returned (.bool true)/\aj w w':=by
 have HB:=CN w hg hbo hu;go_enter Tryz.func9,Tryz.ntmps9
 go_wp2_with fail
 refine HB.mono ?_;rintro e w1 ⟨rfl,b1⟩;have HP:=c5 w1 text ht (hg.keep (b1.block _ hg.lt)) (hbo.keep (b1.block _ hbo.lt));clear HB;go_wp2_with fail
 refine HP.mono ?_;rintro e w2 ⟨hp,b2⟩;have Od:=cY b1 b2;clear HP
 cases hr:gi text with
 |error x=>
  obtain⟨k0,p⟩:=x;rw[hr]at hp;have hk:=Al hr;obtain rfl:e=_:=hp;clear hr;go_wp2;go_ret;exact⟨by simp[hk],Od⟩
 |ok bs=>
  rw[hr]at hp;obtain⟨sb,kp,mk,rfl,hS⟩:=hp;have Oe:=tB hr;clear hr;have L2:=nN.new Od b1.size b2.size hS Oe;have Of:=fun R W (h:nN w sb kp mk bs R W) s hs=>h.dec Oe hu nm s hs
  have HD:Hid _:=Of;clear Of;have N2:=HD.out _ _ L2 b (by omega) 1 (.inl rfl)
  cases hD:gN (dt bs) nm b with
  |error x=>
   obtain⟨c,p⟩:=x;have hc:=Lb hD;rw[hD]at N2;simp only[sd,q9]at N2;go_wp2_with fail
   refine N2.mono ?_;rintro e w3 ⟨v3,Z3,rfl,Oa,L3,S3⟩;clear N2;obtain⟨va,vc,rfl⟩:=Oa.form;obtain⟨B4,_⟩:=di w3 #[.slice va PM.none.fs.length vc,ae PM.none.unk] 49;obtain⟨L4,S4⟩:=L3.on B4;have N7:=HD.out _ _ L4 (b++more) (by simp;omega) 2 (.inr rfl)
   by_cases h6:c=6
   ·subst h6;generalize gN (dt bs) nm (b++more)=E at*;go_wp2_with fail
    refine N7.mono ?_;rintro e w5 ⟨v5,Z5,rfl,Ob,L5,S5⟩;clear N7 HD;obtain⟨ua,uc,rfl⟩:=Ob.form;obtain⟨B6,_⟩:=di w5 #[.slice ua (q9 E).fs.length uc,ae (q9 E).unk] 49;have bel:=cY L5.bel B6;go_wp2;go_ret;exact⟨rfl,bel⟩
   ·rw[GR hD h6]at N7;simp only[sd,q9]at N7;go_wp2_with fail
    refine N7.mono ?_;rintro e w5 ⟨v5,Z5,rfl,Ob,L5,S5⟩;clear N7 HD;obtain⟨ua,uc,rfl⟩:=Ob.form;obtain⟨B6,_⟩:=di w5 #[.slice ua PM.none.fs.length uc,ae PM.none.unk] 49;have bel:=cY L5.bel B6;go_wp2;go_ret;exact⟨rfl,bel⟩
  |ok m=>
   rw[hD]at N2;simp only[sd,q9]at N2;go_wp2_with fail
   refine N2.mono ?_;rintro e w3 ⟨v3,Z3,rfl,Oa,L3,S3⟩;clear N2;obtain⟨va,vc,rfl⟩:=Oa.form;obtain⟨B4,_⟩:=di w3 #[.slice va m.fs.length vc,ae m.unk] 49;obtain⟨L4,S4⟩:=L3.on B4;obtain⟨B5,T5⟩:=di (w3.alloc (ak #[.slice va m.fs.length vc,ae m.unk] 49)) Ll 9;obtain⟨L5,S5⟩:=L4.on B5;obtain⟨B6,T6⟩:=di ((w3.alloc (ak #[.slice va m.fs.length vc,ae m.unk] 49)).alloc (Obj.cells Ll 9)) Mg 24;obtain⟨L6,S6⟩:=L5.on B6;obtain⟨B7,T7⟩:=di (((w3.alloc (ak #[.slice va m.fs.length vc,ae m.unk] 49)).alloc (Obj.cells Ll 9)).alloc (Obj.cells Mg 24)) Mq 3;obtain⟨L7,S7⟩:=L6.on B7
   obtain⟨wt,Oh,R,L,r1,r2,r3,T1,T2,T3⟩:∃wt,(((w3.alloc (ak #[.slice va m.fs.length vc,ae m.unk] 49)).alloc (Obj.cells Ll 9)).alloc (Obj.cells Mg 24)).alloc (Obj.cells Mq 3)=wt/\∃R,nN w sb kp mk bs R wt/\R (w3.heap.size+1)/\R (w3.heap.size+1+1)/\R (w3.heap.size+1+1+1)/\de wt (w3.heap.size+1) Ll 9/\de wt (w3.heap.size+1+1) Mg 24/\de wt (w3.heap.size+1+1+1) Mq 3:=by
    refine⟨_,rfl,_,L7,.inl (.inl (.inr (by simp))),.inl (.inr (by simp)),.inr (by simp),?_,?_,?_⟩
    ·have:=S7.blk (S6.blk T5 (.inr ⟨ay _,T5.lt⟩)) (.inl (.inr ⟨ay _,T5.lt⟩));simpa using this
    ·have:=S7.blk T6 (.inr ⟨ay _,T6.lt⟩);simpa using this
    ·simpa using T7
   clear L4 S4 B4 B5 T5 L5 S5 B6 T6 L6 S6 B7 T7 L7 S7 L3 S3 Oa;go_wp2;clear Oh;go_loopw [24,25,26,27,28,29] (fun iv _ _ _ _ _ wr=>∃i:Nat,iv=aa i/\i<=13/\nN w sb kp mk bs R wr/\mf R wt wr) (fun iv _ _ _ _ _ _=>13-(intOf iv).toNat)
   case atStart=>exact⟨0,rfl,by omega,L,⟨ay _,fun _ _=>rfl⟩⟩
   case round=>
    obtain⟨i,rfl,hi,Li,Si⟩:=hrel
    by_cases hlt:i<13
    ·obtain⟨x,hx,x1,x2,x3⟩:=Lf hlt;obtain⟨y0,y1,y2,y3,y4⟩:=Ld hx;have Og:=GS hD y0 y4;clear y4 hx;have hli:(i:Int)<13:=by omega
     go_wp2;go_loopw [25,26,27,28,29] (fun jv _ _ _ _ wr=>∃N3:Nat,jv=aa N3/\1<=N3/\N3<=3/\nN w sb kp mk bs R wr/\mf R wt wr) (fun jv _ _ _ _ _=>3-(intOf jv).toNat)
     case atStart=>exact⟨1,rfl,by omega,by omega,Li,Si⟩
     case round=>
      obtain⟨N3,rfl,hw1,hw3,Lj,Sj⟩:=hrel
      by_cases hlw:N3<3
      ·have c1:=((Sj.blk T1 r1).cell i).trans x1;have N8:=HD.out _ _ Lj (b++x.1) (by simp;omega) N3 (by omega);rw[Og]at N8;simp only[sd,q9]at N8;have e0:PM.none.unk=⟨#[]⟩:=rfl;rw[e0]at N8;go_wp2_with fail
       refine N8.mono ?_;rintro e w8 ⟨v8,Z8,rfl,Oc,L8,S8⟩;clear N8;obtain⟨ua,uc,hv⟩:=Oc.form;obtain rfl:v8= .slice ua 0 uc:=hv;obtain⟨B9,N9⟩:=di w8 #[.slice ua 0 uc,ae ⟨#[]⟩] 49;obtain⟨L9,S9⟩:=L8.on B9;have y9:=S9.mrn Oc fun b q=> .inr q
       have HS:Calls Tryz.prog 27 #[.agg #[.slice ua 0 uc,ae ⟨#[]⟩],.agg #[ah,ae ⟨#[]⟩]] _ _:=BD 9 _ _ (fun _=>False) _ (ah) PM.none y9 ⟨[],⟨none,0,rfl,ay _,fun h=>absurd h (by decide)⟩,rfl⟩ ⟨by decide,fun x hx=>by cases hx⟩;obtain⟨k1,k2⟩:=N9.rules;clear c1;go_wp2_with fail
       generalize w8.alloc (ak #[.slice ua 0 uc,ae ⟨#[]⟩] 49)=w9 at*;refine HS.mono ?_;rintro e wA ⟨rfl,bA⟩;clear HS k1 k2;obtain⟨LA,SA⟩:=L9.on bA;have SR:mf R wt wA:=(Sj.trans S8).trans ((S9.less fun b q=> .inl q).trans (SA.less fun b q=> .inl (.inl q)));have LR:nN w sb kp mk bs R wA:=LA.less (fun b q=> .inl (.inl (.inl q))) Lj.low;have c2:=((SR.blk T2 r2).cell i).trans x2;have c3:=((SR.blk T3 r3).cell i).trans x3;clear LA SA bA L9 S9 y9 N9 B9 L8 S8 Oc;go_wp2;go_roundw
       case rel=>exact⟨N3+1,by go_num,by omega,by omega,LR,SR⟩
       case measure=>simp[intOf];omega
      ·obtain rfl:N3=3:=by omega
       go_wp2;go_roundw
       case rel=>exact⟨i+1,by go_num,by omega,Lj,Sj⟩
       case measure=>simp[intOf];omega
    ·obtain rfl:i=13:=by omega
     have bel:=Li.bel;go_wp2;go_ret;exact⟨rfl,bel⟩
end
section
open Go.ChangeShapes Go.WideShapes Go.ChangeAt Go.RowKit
theorem own:ownKnob Tryz.prog.godebug=none:=by kernel_rfl
theorem uC:Tryz.prog.globalNamed "strconv.ErrRange" =some 5:=by kernel_rfl
theorem xZ:(Tryz.prog.globals[5]?).map (·.type)=some 354:=by kernel_rfl
theorem uD:Tryz.prog.globalNamed "twinwire/model.baseWords" =some 0:=by kernel_rfl
theorem ya:(Tryz.prog.globals[0]?).map (·.type)=some 427:=by kernel_rfl
theorem BF:Tryz.prog.cellsOf 493=1:=by kernel_rfl
theorem BG:Tryz.prog.cellsOf 427=15:=by kernel_rfl
theorem GO: "*" ++ "errors.errorString" = "*errors.errorString" :=by decide
theorem KZ (u:TypeId)(h:Tryz.prog.typeName? 3 u=some "*errors.errorString"):u=491:=
 typeName_ptr_named (nm:= "errors.errorString") (by rw[GO];kernel_rfl) (by kernel_rfl) (by decide) u (by rw[GO];exact h)
theorem pB:Rows.laid_unicode_utf8_first=Lib.firstData:=by kernel_rfl
theorem nO:(Rows.laid_unicode_utf8_acceptRanges:DataW Unit)=Lib.acceptData:=by kernel_rfl
theorem dI {H:Type}{enc:TypeId×Value->H}{P:Program}{w:World}{base:Nat}{sp:Nat->Bool}{held:Bool}{fuel:Nat}{t:TypeId}{c:Value}{y:DataW H×List MemPlace}
  (ht:P.underlying t=some .string) (h:DataW.trod enc P w base sp held fuel t [c]=some y):∃s,c= .string s/\y=(.lit (.string s.data.toList),[]):=by
 obtain⟨s,h1,h2,_⟩:=DataW.trod_string ht h;exact⟨s,List.cons.inj h1|>.1,h2⟩
theorem uE {W:World}(h:Lib.VarReads Tryz.prog W "twinwire/model.baseWords" Rows.laid_twinwire_model_baseWords):BOK W:=by
 obtain⟨g,t,cs,fuel,p,hg,ht,N2,hd⟩:=h;obtain rfl:=Option.some.inj (uD.symm.trans hg);obtain rfl:=Option.some.inj (ya.symm.trans ht)
 have hb:cs=(yx.map Value.string).toArray:=by
  obtain⟨l⟩:=cs
  cases fuel with
  |zero=>simp[DataW.trod]at hd
  |succ fuel=>
   simp only[DataW.trod,Tryz.underlying427,BG,ou]at hd
   split at hd
   ·rename_i hl
    obtain⟨c0,c1,c2,c3,c4,c5,c6,c7,c8,c9,c10,N3,N7,Io,Im,rfl⟩:∃c0 c1 c2 c3 c4 c5 c6 c7 c8 c9 c10 N3 N7 Io Im,l= [c0,c1,c2,c3,c4,c5,c6,c7,c8,c9,c10,N3,N7,Io,Im]:=by
     match l,hl with
     | [a0,a1,a2,a3,a4,a5,a6,a7,a8,a9,a10,a11,a12,a13,a14],_=>exact⟨a0,a1,a2,a3,a4,a5,a6,a7,a8,a9,a10,a11,a12,a13,a14,rfl⟩
    have e:List.range 15= [0,1,2,3,4,5,6,7,8,9,10,11,12,13,14]:=rfl;rw[e]at hd;simp only[Option.map_eq_some_iff,List.mapM_cons,List.mapM_nil,Option.bind_eq_bind,Option.bind_eq_some_iff,Option.pure_def,Option.some.injEq]at hd;obtain⟨xs,⟨y0,h0,_,⟨y1,h1,_,⟨y2,h2,_,⟨y3,h3,_,⟨y4,h4,_,⟨y5,h5,_,⟨y6,h6,_,⟨y7,h7,_,⟨y8,h8,_,⟨y9,h9,_,⟨y10,N8,_,⟨y11,Oa,_,⟨y12,Ob,_,⟨y13,Oc,_,⟨y14,Od,_,rfl,rfl⟩,rfl⟩,rfl⟩,rfl⟩,rfl⟩,rfl⟩,rfl⟩,rfl⟩,rfl⟩,rfl⟩,rfl⟩,rfl⟩,rfl⟩,rfl⟩,rfl⟩,hx⟩:=hd;obtain⟨n0,rfl,rfl⟩:=dI Tryz.underlying9 h0;obtain⟨n1,rfl,rfl⟩:=dI Tryz.underlying9 h1;obtain⟨n2,rfl,rfl⟩:=dI Tryz.underlying9 h2;obtain⟨n3,rfl,rfl⟩:=dI Tryz.underlying9 h3;obtain⟨n4,rfl,rfl⟩:=dI Tryz.underlying9 h4;obtain⟨n5,rfl,rfl⟩:=dI Tryz.underlying9 h5;obtain⟨n6,rfl,rfl⟩:=dI Tryz.underlying9 h6;obtain⟨n7,rfl,rfl⟩:=dI Tryz.underlying9 h7;obtain⟨n8,rfl,rfl⟩:=dI Tryz.underlying9 h8;obtain⟨n9,rfl,rfl⟩:=dI Tryz.underlying9 h9;obtain⟨n10,rfl,rfl⟩:=dI Tryz.underlying9 N8;obtain⟨n11,rfl,rfl⟩:=dI Tryz.underlying9 Oa;obtain⟨n12,rfl,rfl⟩:=dI Tryz.underlying9 Ob;obtain⟨n13,rfl,rfl⟩:=dI Tryz.underlying9 Oc;obtain⟨n14,rfl,rfl⟩:=dI Tryz.underlying9 Od;simp[Rows.laid_twinwire_model_baseWords]at hx;obtain⟨⟨x0,x1,x2,x3,x4,x5,x6,x7,x8,x9,x10,x11,x12,Oe,x14⟩,_⟩:=hx;rw[eo x0,eo x1,eo x2,eo x3,eo x4,eo x5,eo x6,eo x7,eo x8,eo x9,eo x10,eo x11,eo x12,eo Oe,eo x14];rfl
   ·cases hd
 intro i v hi;rw[World.var?_cell uD (hb▸N2) i];simpa using hi
theorem nP {W:World}(h:laidMetH Tryz.prog Rows.placedUptoRow.laid W):GOK W/\BOK W/\UOK W:=by
 rw[MakeChecks.laidMetH_plain _ _ _ (by kernel_rfl)]at h;have hr:∀n d,(n,d)∈Rows.placedUptoRow.laid->Lib.VarReads Tryz.prog W n d:=fun n d hm=>Lib.laidMet.reads h hm
 have h4:laidMet Tryz.prog [("strconv.ErrRange",Rows.laid_strconv_ErrRange), ("strconv.ErrSyntax",Rows.laid_strconv_ErrSyntax), ("twinwire/model.baseWords",Rows.laid_twinwire_model_baseWords), ("unicode/utf8.first",Rows.laid_unicode_utf8_first)] W:=h.tail.tail.tail.tail;obtain⟨a,s,hv,_⟩:=laid_sentinel h4 uC xZ Tryz.underlying354 KZ Tryz.underlying491 Tryz.underlying493 rfl rfl Tryz.underlying9 BF ou;refine⟨⟨_,by simpa using World.var?_cell uC hv 0,.inr ⟨_,_,rfl⟩⟩,uE (hr _ _ (by simp[Rows.placedUptoRow])),?_⟩;have r1:=hr "unicode/utf8.first" _ (.tail _ (.tail _ (.tail _ (.tail _ (.tail _ (.tail _ (.tail _ (.head _))))))));have r2:=hr "unicode/utf8.acceptRanges" _ (.tail _ (.tail _ (.tail _ (.head _))));rw[pB]at r1;rw[nO]at r2;exact utf8Tabs_of_readsT (U8Types.of196 Tryz.laysVs) ⟨by kernel_rfl,by kernel_rfl,by kernel_rfl,by kernel_rfl,by kernel_rfl,by kernel_rfl,by kernel_rfl⟩ r1 r2
end
end Go.Proofs.YtfebdimolnobaaaGreatDoor
