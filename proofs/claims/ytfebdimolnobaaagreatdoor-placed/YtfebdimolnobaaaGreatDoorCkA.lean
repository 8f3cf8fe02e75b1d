import Derived.Test.YtfebdimolnobaaaGreatDoorRdK
import Derived.Shelf.Pu.ParseUintPublic10
set_option maxRecDepth 100000
set_option maxHeartbeats 8000000
set_option linter.all false
namespace Go.Proofs.YtfebdimolnobaaaGreatDoor
open Go.RowKit
section
open Go.Maps
attribute [local go_sem] ia ic ie
attribute [local go_sem↓] Go.wp_at_zero Go.wp_at_succ
def gA (l:ar)(s:am):Bool:=decide (20<s.size)||dX l s
theorem eD (w:an)(c1 c2:Array Value)(T1 T2:TypeId):aj w ((w.alloc (Obj.cells c1 T1)).alloc (Obj.cells c2 T2))/\de ((w.alloc (Obj.cells c1 T1)).alloc (Obj.cells c2 T2)) w.heap.size c1 T1/\de ((w.alloc (Obj.cells c1 T1)).alloc (Obj.cells c2 T2)) (w.heap.size+1) c2 T2:=
 ⟨((Below.refl w.heap.size w).alloc (ay _) _).alloc (by simp) _,(de.new w c1 T1).alloc _,by simpa using de.new (w.alloc (Obj.cells c1 T1)) c2 T2⟩
theorem Ee (w:an)(b:Nat)(k:Int)(s:am)(p:Nat)(hl:20<s.size):
  Calls Tryz.prog 121 #[.agg #[aa k,ae s,aa p],.map (some b)] w fun e w'=>e=da 3 p/\aj w w':=by
 obtain⟨B0,K0⟩:=di w #[aa k,ae s,aa p] 148;have hd:(20:Int)<(s.size:Int):=by omega
 go_enter Tryz.func121,Tryz.ntmps121
 go_wp2_with fail
 refine wp_region_held_drew (S:=fun w'=>w'.cell? (ai w.heap.size 0)=some (aa k)/\w'.cell? (ai w.heap.size 1)=some (ae s)/\w'.cell? (ai w.heap.size 2)=some (aa p)) (by kernel_rfl) ⟨by simp,by simp,by simp⟩ (fun hHeld=> ?_);refine NW 0 (.pointer (some (ai w.heap.size 1))) hHeld ?_;simp only[Act.put,NZ];refine NW 1 (ae s) hHeld ?_;simp only[Act.put,NZ];refine NW 2 (aa s.size) hHeld ?_;simp only[Act.put,NZ];refine NW 3 (.bool true) hHeld ?_;simp only[Act.put,NZ];refine NW 4 (.bool true) hHeld ?_;simp only[Act.put,NZ];refine NY 5 undef hHeld ?_;simp only[Act.put,NZ];refine NY 6 undef hHeld ?_;simp only[Act.put,NZ];refine NY 7 undef hHeld ?_;simp only[Act.put,NZ];refine NY 8 undef hHeld ?_;simp only[Act.put,NZ];refine NW 9 (.bool true) hHeld ?_;simp only[Act.put,NZ];refine NW 10 (.agg #[aa k,ae s,aa p]) hHeld ?_;simp only[Act.put,NZ];refine wpAnyH_ready (rs:= [11]) (by kernel_rfl) (by simp) (AllReadyH.cons rfl (fun K hK=> ?_) AllReadyH.nil);clear hK;go_simp;refine(iD _ k s p).mono ?_;rintro e w4 ⟨rfl,hb⟩;exact⟨rfl,rfl,B0.drew.trans (hb.mono (by simp))⟩
theorem Hb (w:an)(b:Nat)(l:ar)(k:Int)(s:am)(p:Nat)(H:dN w b l)(hl:s.size<=20)(hm:dX l s=true):
  Calls Tryz.prog 121 #[.agg #[aa k,ae s,aa p],.map (some b)] w fun e w'=>e=da 3 p/\aj w w':=by
 have B0:=(Below.refl w.heap.size w).alloc (ay _) (ak #[aa k,ae s,aa p] 148);have H1:dN (w.alloc (ak #[aa k,ae s,aa p] 148)).drew b l:=H.keep (Below.heap_alloc _ _ _ H.lt);have hd:¬(20:Int)<(s.size:Int):=by omega
 have N7:decide ((20:Int)<(s.size:Int))=false:=by simpa using hd
 have hx:s.size<=maxLen:=by unfold maxLen;omega
 clear hd;go_enter Tryz.func121,Tryz.ntmps121
 go_wp2_with fail
 refine wp_region_held_drew (S:=fun w'=>w'.cell? (ai w.heap.size 0)=some (aa k)/\w'.cell? (ai w.heap.size 1)=some (ae s)/\w'.cell? (ai w.heap.size 2)=some (aa p)) (by kernel_rfl) ⟨by simp,by simp,by simp⟩ (fun hHeld=> ?_);refine NW 0 (.pointer (some (ai w.heap.size 1))) hHeld ?_;simp only[Act.put,NZ];refine NW 1 (ae s) hHeld ?_;simp only[Act.put,NZ];refine NW 2 (aa s.size) hHeld ?_;simp only[Act.put,NZ];refine NW 3 (.bool false) hHeld ?_;simp only[Act.put,NZ];refine NW 4 (.bool false) hHeld ?_;simp only[Act.put,NZ];refine NW 5 (.map (some b)) hHeld ?_;simp only[Act.put,NZ];refine NW 6 (.pointer (some (ai w.heap.size 1))) hHeld ?_;simp only[Act.put,NZ];refine NW 7 (ae s) hHeld ?_;simp only[Act.put,NZ];refine NW 10 (.agg #[aa k,ae s,aa p]) hHeld ?_;simp only[Act.put,NZ];refine wpAnyH_ready (rs:= [8]) (by kernel_rfl) (by simp) (AllReadyH.cons rfl (fun K hK=> ?_) AllReadyH.nil);go_simp;refine(Mj _ b l s H1 hx).mono ?_;rw[hm];rintro e w3 ⟨rfl,N2⟩
 have N8:w3.cell? (ai w.heap.size 0)=some (aa k)/\w3.cell? (ai w.heap.size 1)=some (ae s)/\w3.cell? (ai w.heap.size 2)=some (aa p):=by
  obtain⟨c0,c1,c2⟩:=hHeld;exact⟨(N2.cell (p:=(ai w.heap.size 0)) (by simp)).trans c0,(N2.cell (p:=(ai w.heap.size 1)) (by simp)).trans c1,(N2.cell (p:=(ai w.heap.size 2)) (by simp)).trans c2⟩
 clear hHeld;refine hK.out _ _ N8 (fun hHeld=> ?_);clear hK K;refine NW 9 (.bool true) hHeld ?_;simp only[Act.put,NZ];refine wpAnyH_ready (rs:= [11]) (by kernel_rfl) (by simp) (AllReadyH.cons rfl (fun K hK=> ?_) AllReadyH.nil);clear hK;go_simp;refine(iD _ k s p).mono ?_;rintro e w4 ⟨rfl,hb⟩;exact⟨rfl,rfl,(B0.drew.trans (N2.mono (by simp))).trans (hb.mono (by have:=N2.size;simp at this;omega))⟩
theorem Jl (w:an)(b:Nat)(l:ar)(k:Int)(s:am)(p:Nat)(H:dN w b l)(hn:l.length<5000)(hl:s.size<=20)(hm:dX l s=false):
  Calls Tryz.prog 121 #[.agg #[aa k,ae s,aa p],.map (some b)] w fun e w'=>e= .returned (.tuple #[])/\dN w' b (l++ [s])/\dl [b] w w':=by
 obtain⟨B0,K0⟩:=di w #[aa k,ae s,aa p] 148;have H1:dN (w.alloc (ak #[aa k,ae s,aa p] 148)).drew b l:=H.keep (Below.heap_alloc _ _ _ H.lt);have Oa:=H.lt;have N7:decide ((20:Int)<(s.size:Int))=false:=by simp;omega
 have hx:s.size<=maxLen:=by unfold maxLen;omega
 go_enter Tryz.func121,Tryz.ntmps121
 go_wp2_with fail
 go_region_held3 (fun w'=>w'.cell? (ai w.heap.size 0)=some (aa k)/\w'.cell? (ai w.heap.size 1)=some (ae s)/\w'.cell? (ai w.heap.size 2)=some (aa p))
  (first|exact⟨K4.cell 0,K4.cell 1,K4.cell 2⟩|exact⟨K3.cell 0,K3.cell 1,K3.cell 2⟩|go_keep)
  (first|(go_at_call 179;refine(Mj _ b l s H1 hx).mono ?_;rw[hm];rintro e w3 ⟨rfl,N2⟩;have K3:=K0.drew.below N2 (by simp))|(go_at_call 123;refine(mS _ k s p).mono ?_;rintro e w4 ⟨rfl,N3⟩;have K4:=K3.below N3 K3.lt))
 have Hk:aj w w4:=(B0.drew.trans (N2.mono (by simp))).trans (N3.mono (by have:=N2.size;simp at this;omega));have H4:dN w4 b l:=H.keep (Hk.block b Oa);obtain⟨k1,k2⟩:=K4.rules;go_wp2_with fail
 refine(Nn _ b l s H4 (by unfold maxLen;omega) hx).mono ?_;rintro e w5 ⟨rfl,H5,Ob⟩;go_wp2;go_end0;exact⟨rfl,H5,(dl.of_below Hk).trans Ob⟩
theorem Ly (w:an)(b:Nat)(l:ar)(k:Int)(s:am)(p:Nat)(H:dN w b l)(hn:l.length<5000):
  Calls Tryz.prog 121 #[.agg #[aa k,ae s,aa p],.map (some b)] w fun e w'=>
   if gA l s then e=da 3 p/\aj w w' else e= .returned (.tuple #[])/\dN w' b (l++ [s])/\dl [b] w w':=by
 unfold gA
 by_cases hl:20<s.size
 ·simp only[hl,decide_true,cp,if_true];exact Ee w b k s p hl
 ·cases hm:dX l s
  ·simp only[hl,decide_false,cz,aK,if_false];exact Jl w b l k s p H hn (by omega) hm
  ·simp only[hl,decide_false,cz,if_true];exact Hb w b l k s p H (by omega) hm
end
end Go.Proofs.YtfebdimolnobaaaGreatDoor
namespace Go.Proofs
open Go.Shelf
def Tryz.laysPu14_ren:Go.Shelf.Ren:=⟨fun|14=>244|16=>329|17=>330|19=>394|20=>395|21=>396|22=>397|23=>398|24=>399|25=>164|27=>425|26=>424|28=>439|29=>445|30=>448|31=>449|32=>450|33=>451|35=>255|34=>452|36=>453|37=>454|38=>455|39=>456|40=>457|n=>n,fun|9=>9|3=>3|22=>53|24=>354|25=>362|4=>4|34=>463|5=>5|36=>295|37=>140|0=>0|39=>465|21=>21|44=>482|47=>357|50=>493|48=>491|2=>2|52=>500|55=>502|59=>505|60=>164|20=>20|61=>506|65=>507|66=>508|67=>70|n=>n,fun|0=>4|1=>5|2=>6|3=>7|4=>8|n=>n⟩
theorem Tryz.laysPu14:Go.Proofs.LaysPu.n14 Tryz.prog Tryz.laysPu14_ren:={
 mixed:=by kernel_rfl,
 f14:=Tryz.func244.trans (congrArg some (by kernel_rfl)),
 f16:=Tryz.func329.trans (congrArg some (by kernel_rfl)),
 f17:=Tryz.func330.trans (congrArg some (by kernel_rfl)),
 f19:=Tryz.func394.trans (congrArg some (by kernel_rfl)),
 f20:=Tryz.func395.trans (congrArg some (by kernel_rfl)),
 f21:=Tryz.func396.trans (congrArg some (by kernel_rfl)),
 f22:=Tryz.func397.trans (congrArg some (by kernel_rfl)),
 f23:=Tryz.func398.trans (congrArg some (by kernel_rfl)),
 f24:=Tryz.func399.trans (congrArg some (by kernel_rfl)),
 f25:=Tryz.func164.trans (congrArg some (by kernel_rfl)),
 f26:=Tryz.func424.trans (congrArg some (by kernel_rfl)),
 f27:=Tryz.func425.trans (congrArg some (by kernel_rfl)),
 f28:=Tryz.func439.trans (congrArg some (by kernel_rfl)),
 f29:=Tryz.func445.trans (congrArg some (by kernel_rfl)),
 f30:=Tryz.func448.trans (congrArg some (by kernel_rfl)),
 f31:=Tryz.func449.trans (congrArg some (by kernel_rfl)),
 f32:=Tryz.func450.trans (congrArg some (by kernel_rfl)),
 f33:=Tryz.func451.trans (congrArg some (by kernel_rfl)),
 f34:=Tryz.func452.trans (congrArg some (by kernel_rfl)),
 f35:=Tryz.func255.trans (congrArg some (by kernel_rfl)),
 f36:=Tryz.func453.trans (congrArg some (by kernel_rfl)),
 f37:=Tryz.func454.trans (congrArg some (by kernel_rfl)),
 f38:=Tryz.func455.trans (congrArg some (by kernel_rfl)),
 f39:=Tryz.func456.trans (congrArg some (by kernel_rfl)),
 f40:=Tryz.func457.trans (congrArg some (by kernel_rfl)),
 t0:=Tryz.underlying0,
 a0:=Tryz.isAgg0,
 z0:=Tryz.sizeOf0,
 v0:=Tryz.zeroValue0,
 i0:=by kernel_rfl,
 t2:=Tryz.underlying2,
 a2:=Tryz.isAgg2,
 z2:=Tryz.sizeOf2,
 v2:=Tryz.zeroValue2,
 i2:=by kernel_rfl,
 t3:=Tryz.underlying3,
 a3:=Tryz.isAgg3,
 z3:=Tryz.sizeOf3,
 v3:=Tryz.zeroValue3,
 i3:=by kernel_rfl,
 t4:=Tryz.underlying4,
 a4:=Tryz.isAgg4,
 z4:=Tryz.sizeOf4,
 v4:=Tryz.zeroValue4,
 i4:=by kernel_rfl,
 t5:=Tryz.underlying5,
 a5:=Tryz.isAgg5,
 z5:=Tryz.sizeOf5,
 v5:=Tryz.zeroValue5,
 i5:=by kernel_rfl,
 t9:=Tryz.underlying9,
 a9:=Tryz.isAgg9,
 z9:=Tryz.sizeOf9,
 v9:=Tryz.zeroValue9,
 i9:=by kernel_rfl,
 t20:=Tryz.underlying20,
 a20:=Tryz.isAgg20,
 z20:=Tryz.sizeOf20,
 v20:=Tryz.zeroValue20,
 i20:=by kernel_rfl,
 t21:=Tryz.underlying21,
 a21:=Tryz.isAgg21,
 z21:=Tryz.sizeOf21,
 v21:=Tryz.zeroValue21,
 i21:=by kernel_rfl,
 t22:=Tryz.underlying53,
 a22:=Tryz.isAgg53,
 z22:=Tryz.sizeOf53,
 v22:=Tryz.zeroValue53,
 i22:=by kernel_rfl,
 t24:=Tryz.underlying354,
 a24:=Tryz.isAgg354,
 z24:=Tryz.sizeOf354,
 v24:=Tryz.zeroValue354,
 i24:=by kernel_rfl,
 t25:=Tryz.underlying362,
 a25:=Tryz.isAgg362,
 z25:=Tryz.sizeOf362,
 v25:=Tryz.zeroValue362,
 i25:=by kernel_rfl,
 t34:=Tryz.underlying463,
 a34:=Tryz.isAgg463,
 z34:=Tryz.sizeOf463,
 v34:=Tryz.zeroValue463,
 i34:=by kernel_rfl,
 c34:=by kernel_rfl,
 t36:=Tryz.underlying295,
 a36:=Tryz.isAgg295,
 z36:=Tryz.sizeOf295,
 v36:=Tryz.zeroValue295,
 i36:=by kernel_rfl,
 t37:=Tryz.underlying140,
 a37:=Tryz.isAgg140,
 z37:=Tryz.sizeOf140,
 v37:=Tryz.zeroValue140,
 i37:=by kernel_rfl,
 t39:=Tryz.underlying465,
 a39:=Tryz.isAgg465,
 z39:=Tryz.sizeOf465,
 v39:=Tryz.zeroValue465,
 i39:=by kernel_rfl,
 t44:=Tryz.underlying482,
 a44:=Tryz.isAgg482,
 z44:=Tryz.sizeOf482,
 v44:=Tryz.zeroValue482,
 i44:=by kernel_rfl,
 t47:=Tryz.underlying357,
 a47:=Tryz.isAgg357,
 z47:=Tryz.sizeOf357,
 v47:=Tryz.zeroValue357,
 i47:=by kernel_rfl,
 t48:=Tryz.underlying491,
 a48:=Tryz.isAgg491,
 z48:=Tryz.sizeOf491,
 v48:=Tryz.zeroValue491,
 i48:=by kernel_rfl,
 t50:=Tryz.underlying493,
 a50:=Tryz.isAgg493,
 z50:=Tryz.sizeOf493,
 v50:=Tryz.zeroValue493,
 i50:=by kernel_rfl,
 t52:=Tryz.underlying500,
 a52:=Tryz.isAgg500,
 z52:=Tryz.sizeOf500,
 v52:=Tryz.zeroValue500,
 i52:=by kernel_rfl,
 t55:=Tryz.underlying502,
 a55:=Tryz.isAgg502,
 z55:=Tryz.sizeOf502,
 v55:=Tryz.zeroValue502,
 i55:=by kernel_rfl,
 t59:=Tryz.underlying505,
 a59:=Tryz.isAgg505,
 z59:=Tryz.sizeOf505,
 v59:=Tryz.zeroValue505,
 i59:=by kernel_rfl,
 t60:=Tryz.underlying164,
 a60:=Tryz.isAgg164,
 z60:=Tryz.sizeOf164,
 v60:=Tryz.zeroValue164,
 i60:=by kernel_rfl,
 t61:=Tryz.underlying506,
 a61:=Tryz.isAgg506,
 z61:=Tryz.sizeOf506,
 t65:=Tryz.underlying507,
 a65:=Tryz.isAgg507,
 z65:=Tryz.sizeOf507,
 v65:=Tryz.zeroValue507,
 i65:=by kernel_rfl,
 t66:=Tryz.underlying508,
 a66:=Tryz.isAgg508,
 z66:=Tryz.sizeOf508,
 v66:=Tryz.zeroValue508,
 i66:=by kernel_rfl,
 t67:=Tryz.underlying70,
 a67:=Tryz.isAgg70,
 z67:=Tryz.sizeOf70,
 v67:=Tryz.zeroValue70,
 i67:=by kernel_rfl,
 g0:=by kernel_rfl,
 m0:=by kernel_rfl,
 g1:=by kernel_rfl,
 m1:=by kernel_rfl,
 g2:=by kernel_rfl,
 m2:=by kernel_rfl,
 g3:=by kernel_rfl,
 m3:=by kernel_rfl,
 g4:=by kernel_rfl,
 m4:=by kernel_rfl}
def Tryz.laysPu25_ren:Go.Shelf.Ren:=⟨fun|25=>164|n=>n,fun|9=>9|3=>3|4=>4|37=>140|0=>0|47=>357|5=>5|n=>n,fun|n=>n⟩
theorem Tryz.laysPu25:Go.Proofs.LaysPu.n25 Tryz.prog Tryz.laysPu25_ren:={
 mixed:=by kernel_rfl,
 f25:=Tryz.func164.trans (congrArg some (by kernel_rfl)),
 t0:=Tryz.underlying0,
 a0:=Tryz.isAgg0,
 z0:=Tryz.sizeOf0,
 v0:=Tryz.zeroValue0,
 i0:=by kernel_rfl,
 t3:=Tryz.underlying3,
 a3:=Tryz.isAgg3,
 z3:=Tryz.sizeOf3,
 v3:=Tryz.zeroValue3,
 i3:=by kernel_rfl,
 t4:=Tryz.underlying4,
 a4:=Tryz.isAgg4,
 z4:=Tryz.sizeOf4,
 v4:=Tryz.zeroValue4,
 i4:=by kernel_rfl,
 t5:=Tryz.underlying5,
 a5:=Tryz.isAgg5,
 z5:=Tryz.sizeOf5,
 v5:=Tryz.zeroValue5,
 i5:=by kernel_rfl,
 t9:=Tryz.underlying9,
 a9:=Tryz.isAgg9,
 z9:=Tryz.sizeOf9,
 v9:=Tryz.zeroValue9,
 i9:=by kernel_rfl,
 t37:=Tryz.underlying140,
 a37:=Tryz.isAgg140,
 z37:=Tryz.sizeOf140,
 v37:=Tryz.zeroValue140,
 i37:=by kernel_rfl,
 t47:=Tryz.underlying357,
 a47:=Tryz.isAgg357,
 z47:=Tryz.sizeOf357,
 v47:=Tryz.zeroValue357,
 i47:=by kernel_rfl}
end Go.Proofs
namespace Go.Proofs.YtfebdimolnobaaaGreatDoor
open Go.RowKit
section
open Go.Maps
attribute [local go_sem] ia ic ie
def GOK (w:an):Prop:=∃ev,w.cell? (ai 5 0)=some ev/\(ev= .nilIface\/∃te pe,ev= .iface te pe)
theorem GOK.keep {w w':an}(h:GOK w)(hb:w'.heap[5]?=w.heap[5]?):GOK w':=by
 obtain⟨ev,h1,h2⟩:=h;exact⟨ev,(aZ (a:=(ai 5 0)) hb).trans h1,h2⟩
theorem GOK.lt {w:an}(h:GOK w):5<w.heap.size:=by
 obtain⟨ev,h1,h2⟩:=h;exact aN _ _ h1
def fy (s:am):Nat:=
 match Lib.parseUintB 64 s.data.toList with
 | .ok u=>u
 |_=>18446744073709551615
def gT (s:am):Prop:=s.size<=2000/\((∃u,Lib.parseUintB 64 s.data.toList= .ok u)\/Lib.parseUintB 64 s.data.toList= .range)
theorem BL (s:am):fy s<18446744073709551616:=by
 unfold fy
 split
 ·rename_i u h
  have:=Lib.parseUintB_le h;omega
 ·omega
theorem NN (s:am)(w:an)(h:gT s)(hg:GOK w):
  Calls Tryz.prog 244 #[ae s,aa 10,aa 64] w fun e w'=>∃v,e= .returned (.tuple #[.int .u64 (fy s),v])/\aj w w':=by
 obtain⟨ev,h1,h2⟩:=hg;unfold fy
 rcases h.2 with⟨u,hp⟩|hp
 ·rw[hp];refine(Any.strconv_ParseUint_10_at64_ok Tryz.laysPu14 s (by have:=h.1;omega) u hp w).mono ?_;rintro e w' ⟨rfl,hw⟩;refine⟨_,rfl,?_⟩
  rcases hw with rfl|rfl
  ·exact Below.refl _ _
  ·exact Lib.bytesWorld_below _ _ _
 ·rw[hp];refine(Any.strconv_ParseUint_10_at64_range Tryz.laysPu14 s (by have:=h.1;omega) hp ev w h1 h2).mono ?_;rintro e w' ⟨N,rfl,-,-,hb⟩;exact⟨_,rfl,hb⟩
theorem NO (s:am)(w:an)(h:s.size<=2000):
  Calls Tryz.prog 108 #[ae s] w fun e w'=>e= .returned (ae s)/\aj w w':=by
 go_enter Tryz.func108,Tryz.ntmps108
 go_wp2_with fail
 refine(AnyPu.stringslite_Clone Tryz.laysPu25 s _ (by omega)).mono ?_;rintro e w1 ⟨rfl,hb⟩;go_wp2;go_ret;exact⟨rfl,hb⟩
theorem Jm (w:an)(k:Int)(s:am)(p:Nat)(h:gT s)(hg:GOK w):
  Calls Tryz.prog 165 #[.agg #[aa k,ae s,aa p]] w fun e w'=>e= .returned (.int .u64 (fy s))/\aj w w':=by
 have B0:=(Below.refl w.heap.size w).alloc (ay _) (ak #[aa k,ae s,aa p] 148);go_enter Tryz.func165,Tryz.ntmps165
 go_wp2_with fail
 refine(NN s _ h (hg.keep (Below.heap_alloc _ _ _ hg.lt))).mono ?_;rintro e w1 ⟨v,rfl,hb⟩;go_wp2;go_ret;exact⟨rfl,B0.trans (hb.mono (by simp))⟩
end
section
open Go.Maps
attribute [local go_sem] ia ic ie
attribute [local go_sem↓] Go.wp_at_zero Go.wp_at_succ
theorem Np (w:an)(k:Int)(s:am)(p:Nat):
  Calls Tryz.prog 260 #[.agg #[aa k,ae s,aa p]] w fun e w'=>e= .returned (.bool (gL k s))/\aj w w':=by
 have B0:=(Below.refl w.heap.size w).alloc (ay _) (ak #[aa k,ae s,aa p] 148)
 cases h0:(k==3)
 ·go_enter Tryz.func260,Tryz.ntmps260
  go_wp2;go_ret;exact⟨gw (by simp only[gL,h0];simp),B0⟩
 ·cases h1:(s.toList== [102,108,111,97,116])
  ·cases h2:(s.toList== [100,111,117,98,108,101])
   ·cases h3:(s.toList== [98,121,116,101,115])
    ·go_enter Tryz.func260,Tryz.ntmps260
     go_wp2;go_ret;exact⟨gw (by simp only[gL,h0,h1,h2,h3];simp),B0⟩
    ·go_enter Tryz.func260,Tryz.ntmps260
     go_wp2;go_ret;exact⟨gw (by simp only[gL,h0,h1,h2,h3];simp),B0⟩
   ·go_enter Tryz.func260,Tryz.ntmps260
    go_wp2;go_ret;exact⟨gw (by simp only[gL,h0,h1,h2];simp),B0⟩
  ·go_enter Tryz.func260,Tryz.ntmps260
   go_wp2;go_ret;exact⟨gw (by simp only[gL,h0,h1];simp),B0⟩
def nW (types:ar)(k:Int)(s:am):Bool:=k==1&&(decide (20<s.size)|| !dX types s)
theorem Jn (w:an)(tb nb mb:Nat)(k:Int)(s:am)(p:Nat)(hk:(k==1)=false):
  Calls Tryz.prog 261 #[.agg #[.map (some tb),.map (some nb),.map (some mb)],.agg #[aa k,ae s,aa p]] w fun e w'=>e= .returned (.tuple #[])/\aj w w':=by
 obtain⟨B0,KC,KW⟩:=eD w #[.map (some tb),.map (some nb),.map (some mb)] #[aa k,ae s,aa p] 306 148;obtain⟨r1,r2⟩:=KC.rules;obtain⟨r3,r4⟩:=KW.rules;clear r1 r2 r3 r4 KC KW;go_enter Tryz.func261,Tryz.ntmps261
 go_wp2;go_end0;exact⟨rfl,B0⟩
theorem Ef (w:an)(tb nb mb:Nat)(k:Int)(s:am)(p:Nat)(hk:(k==1)=true)(hl:20<s.size):
  Calls Tryz.prog 261 #[.agg #[.map (some tb),.map (some nb),.map (some mb)],.agg #[aa k,ae s,aa p]] w fun e w'=>e=da 3 p/\aj w w':=by
 obtain⟨B0,KC,KW⟩:=eD w #[.map (some tb),.map (some nb),.map (some mb)] #[aa k,ae s,aa p] 306 148;obtain⟨r1,r2⟩:=KC.rules;obtain⟨r3,r4⟩:=KW.rules;have hd:(20:Int)<(s.size:Int):=by omega
 go_enter Tryz.func261,Tryz.ntmps261
 go_wp2_with fail
 clear r1 r2 r3 r4;refine wp_region_held_drew (S:=fun w'=>w'.cell? (ai w.heap.size 0)=some (.map (some tb))/\w'.cell? (ai (w.heap.size+1) 0)=some (aa k)/\w'.cell? (ai (w.heap.size+1) 1)=some (ae s)/\w'.cell? (ai (w.heap.size+1) 2)=some (aa p)) (by kernel_rfl) ⟨KC.cell 0,KW.cell 0,KW.cell 1,KW.cell 2⟩ (fun hHeld=> ?_);refine NX 0 (.pointer (some (ai (w.heap.size+1) 1))) hHeld ?_;simp only[Act.put,NZ];refine NX 1 (ae s) hHeld ?_;simp only[Act.put,NZ];refine NX 2 (aa s.size) hHeld ?_;simp only[Act.put,NZ];refine NX 3 (.bool true) hHeld ?_;simp only[Act.put,NZ];refine NX 4 (.bool true) hHeld ?_;simp only[Act.put,NZ];refine NY 5 undef hHeld ?_;simp only[Act.put,NZ];refine NY 6 undef hHeld ?_;simp only[Act.put,NZ];refine NY 7 undef hHeld ?_;simp only[Act.put,NZ];refine NY 8 undef hHeld ?_;simp only[Act.put,NZ];refine NY 9 undef hHeld ?_;simp only[Act.put,NZ];refine NY 10 undef hHeld ?_;simp only[Act.put,NZ];refine NX 11 (.bool true) hHeld ?_;simp only[Act.put,NZ];refine NX 12 (.agg #[aa k,ae s,aa p]) hHeld ?_;simp only[Act.put,NZ];refine wpAnyH_ready (rs:= [13]) (by kernel_rfl) (by simp) (AllReadyH.cons rfl (fun K hK=> ?_) AllReadyH.nil);clear hK;go_simp;refine(iD _ k s p).mono ?_;rintro e w4 ⟨rfl,hb⟩;exact⟨rfl,rfl,B0.drew.trans (hb.mono (by simp;omega))⟩
theorem Eg (w:an)(tb nb mb:Nat)(types:ar)(k:Int)(s:am)(p:Nat)(H:dN w tb types)(hk:(k==1)=true)(hl:s.size<=20)(hm:dX types s=false):
  Calls Tryz.prog 261 #[.agg #[.map (some tb),.map (some nb),.map (some mb)],.agg #[aa k,ae s,aa p]] w fun e w'=>e=da 3 p/\aj w w':=by
 obtain⟨B0,KC,KW⟩:=eD w #[.map (some tb),.map (some nb),.map (some mb)] #[aa k,ae s,aa p] 306 148;obtain⟨r1,r2⟩:=KC.rules;obtain⟨r3,r4⟩:=KW.rules;have N7:decide ((20:Int)<(s.size:Int))=false:=by simp;omega
 have hx:s.size<=maxLen:=by unfold maxLen;omega
 have H1:dN ((w.alloc (ak #[.map (some tb),.map (some nb),.map (some mb)] 306)).alloc (ak #[aa k,ae s,aa p] 148)).drew tb types:=H.keep (B0.block _ H.lt);go_enter Tryz.func261,Tryz.ntmps261
 go_wp2_with fail
 clear r1 r2 r3 r4;refine wp_region_held_drew (S:=fun w'=>w'.cell? (ai w.heap.size 0)=some (.map (some tb))/\w'.cell? (ai (w.heap.size+1) 0)=some (aa k)/\w'.cell? (ai (w.heap.size+1) 1)=some (ae s)/\w'.cell? (ai (w.heap.size+1) 2)=some (aa p)) (by kernel_rfl) ⟨KC.cell 0,KW.cell 0,KW.cell 1,KW.cell 2⟩ (fun hHeld=> ?_);refine NX 0 (.pointer (some (ai (w.heap.size+1) 1))) hHeld ?_;simp only[Act.put,NZ];refine NX 1 (ae s) hHeld ?_;simp only[Act.put,NZ];refine NX 2 (aa s.size) hHeld ?_;simp only[Act.put,NZ];refine NX 3 (.bool false) hHeld ?_;simp only[Act.put,NZ];refine NX 4 (.bool false) hHeld ?_;simp only[Act.put,NZ];refine NX 5 (ag w.heap.size) hHeld ?_;simp only[Act.put,NZ];refine NX 6 (.map (some tb)) hHeld ?_;simp only[Act.put,NZ];refine NX 7 (.pointer (some (ai (w.heap.size+1) 1))) hHeld ?_;simp only[Act.put,NZ];refine NX 8 (ae s) hHeld ?_;simp only[Act.put,NZ];refine NX 12 (.agg #[aa k,ae s,aa p]) hHeld ?_;simp only[Act.put,NZ];refine wpAnyH_ready (rs:= [9]) (by kernel_rfl) (by simp) (AllReadyH.cons rfl (fun K hK=> ?_) AllReadyH.nil);go_simp;refine(Mj _ tb types s H1 hx).mono ?_;rw[hm];rintro e w3 ⟨rfl,N2⟩;have K3:=KC.drew.below N2 (by simp;omega);have K4:=KW.drew.below N2 (by simp);clear hHeld;refine hK.out _ _ ⟨K3.cell 0,K4.cell 0,K4.cell 1,K4.cell 2⟩ (fun hHeld=> ?_);clear hK K;refine NX 10 (.bool true) hHeld ?_;simp only[Act.put,NZ];refine NX 11 (.bool true) hHeld ?_;simp only[Act.put,NZ];refine wpAnyH_ready (rs:= [13]) (by kernel_rfl) (by simp) (AllReadyH.cons rfl (fun K hK=> ?_) AllReadyH.nil);clear hK;go_simp;refine(iD _ k s p).mono ?_;rintro e w4 ⟨rfl,hb⟩;exact⟨rfl,rfl,(B0.drew.trans (N2.mono (by simp;omega))).trans (hb.mono (by have:=N2.size;simp at this;omega))⟩
theorem Jo (w:an)(tb nb mb:Nat)(types:ar)(k:Int)(s:am)(p:Nat)(H:dN w tb types)(hk:(k==1)=true)(hl:s.size<=20)(hm:dX types s=true):
  Calls Tryz.prog 261 #[.agg #[.map (some tb),.map (some nb),.map (some mb)],.agg #[aa k,ae s,aa p]] w fun e w'=>e= .returned (.tuple #[])/\aj w w':=by
 obtain⟨B0,KC,KW⟩:=eD w #[.map (some tb),.map (some nb),.map (some mb)] #[aa k,ae s,aa p] 306 148;obtain⟨r1,r2⟩:=KC.rules;obtain⟨r3,r4⟩:=KW.rules;have N7:decide ((20:Int)<(s.size:Int))=false:=by simp;omega
 have hx:s.size<=maxLen:=by unfold maxLen;omega
 have H1:dN ((w.alloc (ak #[.map (some tb),.map (some nb),.map (some mb)] 306)).alloc (ak #[aa k,ae s,aa p] 148)).drew tb types:=H.keep (B0.block _ H.lt);go_enter Tryz.func261,Tryz.ntmps261
 go_wp2_with fail
 go_region_held3 (fun w'=>w'.cell? (ai w.heap.size 0)=some (.map (some tb))/\w'.cell? (ai (w.heap.size+1) 0)=some (aa k)/\w'.cell? (ai (w.heap.size+1) 1)=some (ae s)/\w'.cell? (ai (w.heap.size+1) 2)=some (aa p))
  (first|exact⟨K5.cell 0,K6.cell 0,K6.cell 1,K6.cell 2⟩|exact⟨K3.cell 0,K4.cell 0,K4.cell 1,K4.cell 2⟩|go_keep)
  (first|(go_at_call 179;refine(Mj _ tb types s H1 hx).mono ?_;rw[hm];rintro e w3 ⟨rfl,N2⟩;have K3:=KC.drew.below N2 (by simp;omega);have K4:=KW.drew.below N2 (by simp))|(go_at_call 123;refine(mS _ k s p).mono ?_;rintro e w4 ⟨rfl,N3⟩;have K5:=K3.below N3 K3.lt;have K6:=K4.below N3 K4.lt))
 go_wp2;go_end0;exact⟨rfl,(B0.drew.trans (N2.mono (by simp;omega))).trans (N3.mono (by have:=N2.size;simp at this;omega))⟩
theorem Nq (w:an)(tb nb mb:Nat)(types:ar)(k:Int)(s:am)(p:Nat)(H:dN w tb types):
  Calls Tryz.prog 261 #[.agg #[.map (some tb),.map (some nb),.map (some mb)],.agg #[aa k,ae s,aa p]] w fun e w'=>(if nW types k s then e=da 3 p else e= .returned (.tuple #[]))/\aj w w':=by
 unfold nW
 cases hk:(k==1)
 ·simp only[cl,aK,if_false];exact Jn w tb nb mb k s p hk
 ·by_cases hl:20<s.size
  ·simp only[hl,decide_true,cp,cD,if_true];exact Ef w tb nb mb k s p hk hl
  ·cases hm:dX types s
   ·simp only[hl,decide_false,cm,cj,cD,if_true];exact Eg w tb nb mb types k s p H hk (by omega) hm
   ·simp only[hl,decide_false,cr,cE,cg,aK,if_false];exact Jo w tb nb mb types k s p H hk (by omega) hm
def oZ (nums:au)(n:Nat):Bool:=decide (n<1)||(decide (536870911<n)||uI nums n)
theorem Hc (w:an)(tb nb mb:Nat)(k:Int)(s:am)(p:Nat)(hok:gT s)(hg:GOK w)(hn:fy s<1):
  Calls Tryz.prog 262 #[.agg #[.map (some tb),.map (some nb),.map (some mb)],.agg #[aa k,ae s,aa p]] w fun e w'=>e=da 3 p/\aj w w':=by
 obtain⟨B0,N3,N7⟩:=eD w #[.map (some tb),.map (some nb),.map (some mb)] #[aa k,ae s,aa p] 306 148;obtain⟨r1,r2⟩:=N3.rules;obtain⟨r3,r4⟩:=N7.rules;obtain⟨n,HN⟩:∃n,Hid (fy s=n):=⟨_,rfl⟩;rw[HN.out]at hn;have hd:(n:Int)<1:=by omega
 go_enter Tryz.func262,Tryz.ntmps262
 go_wp2_with fail
 refine(Jm _ k s p hok (hg.keep (B0.block _ hg.lt))).mono ?_;rw[HN.out];rintro e w2 ⟨rfl,N2⟩;have KC:=N3.below N2 (by simp;omega);have KW:=N7.below N2 (by simp);have B2:aj w w2:=B0.trans (N2.mono (by simp;omega));have z2:w.heap.size+1<w2.heap.size:=KW.lt;clear r1 r2 r3 r4 N3 N7 B0 N2;go_wp2_with fail
 refine wp_region_held_drew (S:=fun w'=>w'.cell? (ai w.heap.size 2)=some (.map (some mb))/\w'.cell? (ai (w.heap.size+1) 0)=some (aa k)/\w'.cell? (ai (w.heap.size+1) 1)=some (ae s)/\w'.cell? (ai (w.heap.size+1) 2)=some (aa p)) (by kernel_rfl) ⟨KC.cell 2,KW.cell 0,KW.cell 1,KW.cell 2⟩ (fun hHeld=> ?_);refine NX 0 (.int .u64 (n:Int)) hHeld ?_;simp only[Act.put,NZ];refine NX 1 (.bool true) hHeld ?_;simp only[Act.put,NZ];refine NX 2 (.bool true) hHeld ?_;simp only[Act.put,NZ];refine NY 3 undef hHeld ?_;simp only[Act.put,NZ];refine NY 4 undef hHeld ?_;simp only[Act.put,NZ];refine NX 5 (.bool true) hHeld ?_;simp only[Act.put,NZ];refine NX 6 (.bool true) hHeld ?_;simp only[Act.put,NZ];refine NY 7 undef hHeld ?_;simp only[Act.put,NZ];refine NY 8 undef hHeld ?_;simp only[Act.put,NZ];refine NY 9 undef hHeld ?_;simp only[Act.put,NZ];refine NY 10 undef hHeld ?_;simp only[Act.put,NZ];refine NX 11 (.bool true) hHeld ?_;simp only[Act.put,NZ];refine NX 12 (.agg #[aa k,ae s,aa p]) hHeld ?_;simp only[Act.put,NZ];refine wpAnyH_ready (rs:= [13]) (by kernel_rfl) (by simp) (AllReadyH.cons rfl (fun K hK=> ?_) AllReadyH.nil);clear hK;go_simp;refine(iD _ k s p).mono ?_;rintro e w4 ⟨rfl,hb⟩;exact⟨rfl,rfl,B2.drew.trans (hb.mono (by simp;omega))⟩
theorem Eh (w:an)(tb nb mb:Nat)(k:Int)(s:am)(p:Nat)(hok:gT s)(hg:GOK w)(hn:536870911<fy s):
  Calls Tryz.prog 262 #[.agg #[.map (some tb),.map (some nb),.map (some mb)],.agg #[aa k,ae s,aa p]] w fun e w'=>e=da 3 p/\aj w w':=by
 obtain⟨B0,N3,N7⟩:=eD w #[.map (some tb),.map (some nb),.map (some mb)] #[aa k,ae s,aa p] 306 148;obtain⟨r1,r2⟩:=N3.rules;obtain⟨r3,r4⟩:=N7.rules;obtain⟨n,HN⟩:∃n,Hid (fy s=n):=⟨_,rfl⟩;rw[HN.out]at hn;have hd:¬(n:Int)<1:=by omega
 have Oc:decide ((n:Int)<1)=false:=by simpa using hd
 have Od:(536870911:Int)<(n:Int):=by omega
 clear hd;go_enter Tryz.func262,Tryz.ntmps262
 go_wp2_with fail
 refine(Jm _ k s p hok (hg.keep (B0.block _ hg.lt))).mono ?_;rw[HN.out];rintro e w2 ⟨rfl,N2⟩;have KC:=N3.below N2 (by simp;omega);have KW:=N7.below N2 (by simp);have B2:aj w w2:=B0.trans (N2.mono (by simp;omega));have z2:w.heap.size+1<w2.heap.size:=KW.lt;clear r1 r2 r3 r4 N3 N7 B0 N2;go_wp2_with fail
 refine wp_region_held_drew (S:=fun w'=>w'.cell? (ai w.heap.size 2)=some (.map (some mb))/\w'.cell? (ai (w.heap.size+1) 0)=some (aa k)/\w'.cell? (ai (w.heap.size+1) 1)=some (ae s)/\w'.cell? (ai (w.heap.size+1) 2)=some (aa p)) (by kernel_rfl) ⟨KC.cell 2,KW.cell 0,KW.cell 1,KW.cell 2⟩ (fun hHeld=> ?_);refine NX 0 (.int .u64 (n:Int)) hHeld ?_;simp only[Act.put,NZ];refine NX 1 (.bool false) hHeld ?_;simp only[Act.put,NZ];refine NX 2 (.bool false) hHeld ?_;simp only[Act.put,NZ];refine NX 3 (.int .u64 (n:Int)) hHeld ?_;simp only[Act.put,NZ];refine NX 4 (.bool true) hHeld ?_;simp only[Act.put,NZ];refine NX 5 (.bool true) hHeld ?_;simp only[Act.put,NZ];refine NX 6 (.bool true) hHeld ?_;simp only[Act.put,NZ];refine NY 7 undef hHeld ?_;simp only[Act.put,NZ];refine NY 8 undef hHeld ?_;simp only[Act.put,NZ];refine NY 9 undef hHeld ?_;simp only[Act.put,NZ];refine NY 10 undef hHeld ?_;simp only[Act.put,NZ];refine NX 11 (.bool true) hHeld ?_;simp only[Act.put,NZ];refine NX 12 (.agg #[aa k,ae s,aa p]) hHeld ?_;simp only[Act.put,NZ];refine wpAnyH_ready (rs:= [13]) (by kernel_rfl) (by simp) (AllReadyH.cons rfl (fun K hK=> ?_) AllReadyH.nil);clear hK;go_simp;refine(iD _ k s p).mono ?_;rintro e w4 ⟨rfl,hb⟩;exact⟨rfl,rfl,B2.drew.trans (hb.mono (by simp;omega))⟩
theorem Hd (w:an)(tb nb mb:Nat)(k:Int)(s:am)(p:Nat)(hok:gT s)(hg:GOK w)(nums:au)(H:eC w mb nums)(hn:1<=fy s)(hn2:fy s<=536870911)(hm:uI nums (fy s)=true):
  Calls Tryz.prog 262 #[.agg #[.map (some tb),.map (some nb),.map (some mb)],.agg #[aa k,ae s,aa p]] w fun e w'=>e=da 3 p/\aj w w':=by
 obtain⟨B0,N3,N7⟩:=eD w #[.map (some tb),.map (some nb),.map (some mb)] #[aa k,ae s,aa p] 306 148;obtain⟨r1,r2⟩:=N3.rules;obtain⟨r3,r4⟩:=N7.rules;obtain⟨n,HN⟩:∃n,Hid (fy s=n):=⟨_,rfl⟩;rw[HN.out]at hn hn2 hm;have Oc:decide ((n:Int)<1)=false:=by simp;omega
 have Od:decide ((536870911:Int)<(n:Int))=false:=by simp;omega
 have Oa:Hid (n<18446744073709551616):=by have:=BL s;rw[HN.out]at this;exact this
 clear hn hn2;go_enter Tryz.func262,Tryz.ntmps262
 go_wp2_with fail
 refine(Jm _ k s p hok (hg.keep (B0.block _ hg.lt))).mono ?_;rw[HN.out];rintro e w2 ⟨rfl,N2⟩;have KC:=N3.below N2 (by simp;omega);have KW:=N7.below N2 (by simp);have B2:aj w w2:=B0.trans (N2.mono (by simp;omega));have z2:w.heap.size+1<w2.heap.size:=KW.lt;clear r1 r2 r3 r4 N3 N7 B0 N2;go_wp2_with fail
 have H2:eC w2.drew mb nums:=H.keep (B2.block _ H.lt);refine wp_region_held_drew (S:=fun w'=>w'.cell? (ai w.heap.size 2)=some (.map (some mb))/\w'.cell? (ai (w.heap.size+1) 0)=some (aa k)/\w'.cell? (ai (w.heap.size+1) 1)=some (ae s)/\w'.cell? (ai (w.heap.size+1) 2)=some (aa p)) (by kernel_rfl) ⟨KC.cell 2,KW.cell 0,KW.cell 1,KW.cell 2⟩ (fun hHeld=> ?_);refine NX 0 (.int .u64 (n:Int)) hHeld ?_;simp only[Act.put,NZ];refine NX 1 (.bool false) hHeld ?_;simp only[Act.put,NZ];refine NX 2 (.bool false) hHeld ?_;simp only[Act.put,NZ];refine NX 3 (.int .u64 (n:Int)) hHeld ?_;simp only[Act.put,NZ];refine NX 4 (.bool false) hHeld ?_;simp only[Act.put,NZ];refine NX 5 (.bool false) hHeld ?_;simp only[Act.put,NZ];refine NX 6 (.bool false) hHeld ?_;simp only[Act.put,NZ];refine NX 7 (.pointer (some (ai w.heap.size 2))) hHeld ?_;simp only[Act.put,NZ];refine NX 8 (.map (some mb)) hHeld ?_;simp only[Act.put,NZ];refine NX 9 (.int .u64 (n:Int)) hHeld ?_;simp only[Act.put,NZ];refine NX 12 (.agg #[aa k,ae s,aa p]) hHeld ?_;simp only[Act.put,NZ];refine wpAnyH_ready (rs:= [10]) (by kernel_rfl) (by simp) (AllReadyH.cons rfl (fun K hK=> ?_) AllReadyH.nil);go_simp;refine(No _ mb nums n H2 Oa.out).mono ?_;rw[hm];rintro e w3 ⟨rfl,N8⟩;have K3:=KC.drew.below N8 KC.lt;have K4:=KW.drew.below N8 KW.lt;clear hHeld;refine hK.out _ _ ⟨K3.cell 2,K4.cell 0,K4.cell 1,K4.cell 2⟩ (fun hHeld=> ?_);clear hK K;refine NX 11 (.bool true) hHeld ?_;simp only[Act.put,NZ];refine wpAnyH_ready (rs:= [13]) (by kernel_rfl) (by simp) (AllReadyH.cons rfl (fun K hK=> ?_) AllReadyH.nil);clear hK;go_simp;refine(iD _ k s p).mono ?_;rintro e w4 ⟨rfl,hb⟩;exact⟨rfl,rfl,(B2.drew.trans (N8.mono (by simp;omega))).trans (hb.mono (by have:=N8.size;simp at this;omega))⟩
theorem Jp (w:an)(tb nb mb:Nat)(k:Int)(s:am)(p:Nat)(hok:gT s)(hg:GOK w)(nums:au)(H:eC w mb nums)(hl:nums.length<5000)(hn:1<=fy s)(hn2:fy s<=536870911)(hm:uI nums (fy s)=false):
  Calls Tryz.prog 262 #[.agg #[.map (some tb),.map (some nb),.map (some mb)],.agg #[aa k,ae s,aa p]] w fun e w'=>e= .returned (.tuple #[])/\eC w' mb (nums++ [fy s])/\dl [mb] w w':=by
 obtain⟨B0,N3,N7⟩:=eD w #[.map (some tb),.map (some nb),.map (some mb)] #[aa k,ae s,aa p] 306 148;obtain⟨r1,r2⟩:=N3.rules;obtain⟨r3,r4⟩:=N7.rules;obtain⟨n,HN⟩:∃n,Hid (fy s=n):=⟨_,rfl⟩;rw[HN.out]at hn hn2 hm;have Oc:decide ((n:Int)<1)=false:=by simp;omega
 have Od:decide ((536870911:Int)<(n:Int))=false:=by simp;omega
 have Oa:Hid (n<18446744073709551616):=by have:=BL s;rw[HN.out]at this;exact this
 clear hn hn2;go_enter Tryz.func262,Tryz.ntmps262
 go_wp2_with fail
 refine(Jm _ k s p hok (hg.keep (B0.block _ hg.lt))).mono ?_;rw[HN.out];rintro e w2 ⟨rfl,N2⟩;have KC:=N3.below N2 (by simp;omega);have KW:=N7.below N2 (by simp);have B2:aj w w2:=B0.trans (N2.mono (by simp;omega));have z2:w.heap.size+1<w2.heap.size:=KW.lt;clear r1 r2 r3 r4 N3 N7 B0 N2;go_wp2_with fail
 have H2:eC w2.drew mb nums:=H.keep (B2.block _ H.lt)
 go_region_held3 (fun w'=>w'.cell? (ai w.heap.size 2)=some (.map (some mb))/\w'.cell? (ai (w.heap.size+1) 0)=some (aa k)/\w'.cell? (ai (w.heap.size+1) 1)=some (ae s)/\w'.cell? (ai (w.heap.size+1) 2)=some (aa p))
  (first|exact⟨K5.cell 2,K6.cell 0,K6.cell 1,K6.cell 2⟩|exact⟨K3.cell 2,K4.cell 0,K4.cell 1,K4.cell 2⟩|exact⟨KC.cell 2,KW.cell 0,KW.cell 1,KW.cell 2⟩)
  (first|(go_at_call 342;refine(No _ mb nums n H2 Oa.out).mono ?_;rw[hm];rintro e w3 ⟨rfl,N8⟩;have K3:=KC.drew.below N8 KC.lt;have K4:=KW.drew.below N8 KW.lt)|(go_at_call 123;refine(mS _ k s p).mono ?_;rintro e w4 ⟨rfl,Ob⟩;have K5:=K3.below Ob K3.lt;have K6:=K4.below Ob K4.lt))
 have Hk:aj w w4:=(B2.drew.trans (N8.mono (by simp;omega))).trans (Ob.mono (by have:=N8.size;simp at this;omega));have H4:eC w4 mb nums:=H.keep (Hk.block _ H.lt);obtain⟨k1,k2⟩:=K5.rules;go_wp2_with fail
 refine(NM _ mb nums n H4 (by unfold maxLen;omega) Oa.out).mono ?_;rintro e w5 ⟨rfl,H5,Oe⟩;go_wp2;go_end0;rw[HN.out];exact⟨rfl,H5,(dl.of_below Hk).trans Oe⟩
theorem Nr (w:an)(tb nb mb:Nat)(k:Int)(s:am)(p:Nat)(hok:gT s)(hg:GOK w)(nums:au)(H:eC w mb nums)(hl:nums.length<5000):
  Calls Tryz.prog 262 #[.agg #[.map (some tb),.map (some nb),.map (some mb)],.agg #[aa k,ae s,aa p]] w fun e w'=>if oZ nums (fy s)then e=da 3 p/\aj w w' else e= .returned (.tuple #[])/\eC w' mb (nums++ [fy s])/\dl [mb] w w':=by
 unfold oZ
 by_cases h1:fy s<1
 ·simp only[h1,decide_true,cp,if_true];exact Hc w tb nb mb k s p hok hg h1
 ·by_cases h2:536870911<fy s
  ·simp only[h2,decide_true,cp,cj,if_true];exact Eh w tb nb mb k s p hok hg h2
  ·cases hm:uI nums (fy s)
   ·simp only[h1,h2,decide_false,cE,aK,if_false];exact Jp w tb nb mb k s p hok hg nums H hl (by omega) (by omega) hm
   ·simp only[cj,if_true];exact Hd w tb nb mb k s p hok hg nums H (by omega) (by omega) hm
end
end Go.Proofs.YtfebdimolnobaaaGreatDoor
