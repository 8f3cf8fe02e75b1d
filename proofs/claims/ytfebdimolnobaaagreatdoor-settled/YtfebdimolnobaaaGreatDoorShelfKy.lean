import Derived.Test.YtfebdimolnobaaaGreatDoorWkI
import Derived.Shelf.SlSortCmp.WholeK
import Derived.Laws.IdiomStrings
import Derived.Defers
import Derived.Recover
import Derived.Laws.EntriesVeiled
import Derived.Lib.Builder
import Derived.Lib.UnsafeStr
import Derived.Lib.MakeNoZero
import Derived.Shelf.RegionOpenPlain
set_option maxRecDepth 100000
set_option maxHeartbeats 8000000
set_option linter.all false
namespace Go.Proofs.YtfebdimolnobaaaGreatDoor
open Go.RowKit Go.Proofs.Tryz
end Go.Proofs.YtfebdimolnobaaaGreatDoor
namespace Go.Proofs
open Go.Shelf
def Tryz.sortK_ren:Go.Shelf.Ren:=⟨fun|6=>355|15=>169|14=>408|28=>254|29=>255|20=>427|21=>428|22=>429|23=>430|24=>431|25=>432|26=>433|27=>434|46=>441|47=>332|48=>333|49=>442|50=>443|57=>446|n=>n,fun|22=>389|24=>386|25=>394|3=>3|39=>295|0=>0|53=>164|55=>53|4=>4|46=>367|45=>366|50=>331|5=>5|9=>9|66=>428|70=>431|76=>468|77=>469|n=>n,fun|n=>n⟩
theorem Tryz.sortK:Go.Proofs.SlLaysF0.n6 Tryz.prog Tryz.sortK_ren:={
 mixed:=by kernel_rfl
 f6:=⟨Tryz.f355.name,by decide,Tryz.func355.trans (congrArg some (by kernel_rfl))⟩
 f14:=⟨Tryz.f408.name,by decide,Tryz.func408.trans (congrArg some (by kernel_rfl))⟩
 f15:=Tryz.func169.trans (congrArg some (by kernel_rfl))
 f20:=⟨Tryz.f427.name,by decide,Tryz.func427.trans (congrArg some (by kernel_rfl))⟩
 f21:=⟨Tryz.f428.name,by decide,Tryz.func428.trans (congrArg some (by kernel_rfl))⟩
 f22:=⟨Tryz.f429.name,by decide,Tryz.func429.trans (congrArg some (by kernel_rfl))⟩
 f23:=⟨Tryz.f430.name,by decide,Tryz.func430.trans (congrArg some (by kernel_rfl))⟩
 f24:=⟨Tryz.f431.name,by decide,Tryz.func431.trans (congrArg some (by kernel_rfl))⟩
 f25:=⟨Tryz.f432.name,by decide,Tryz.func432.trans (congrArg some (by kernel_rfl))⟩
 f26:=⟨Tryz.f433.name,by decide,Tryz.func433.trans (congrArg some (by kernel_rfl))⟩
 f27:=⟨Tryz.f434.name,by decide,Tryz.func434.trans (congrArg some (by kernel_rfl))⟩
 f28:=Tryz.func254.trans (congrArg some (by kernel_rfl))
 f29:=Tryz.func255.trans (congrArg some (by kernel_rfl))
 f46:=⟨Tryz.f441.name,by decide,Tryz.func441.trans (congrArg some (by kernel_rfl))⟩
 f47:=Tryz.func332.trans (congrArg some (by kernel_rfl))
 f48:=Tryz.func333.trans (congrArg some (by kernel_rfl))
 f49:=⟨Tryz.f442.name,by decide,Tryz.func442.trans (congrArg some (by kernel_rfl))⟩
 f50:=⟨Tryz.f443.name,by decide,Tryz.func443.trans (congrArg some (by kernel_rfl))⟩
 f57:=⟨Tryz.f446.name,by decide,Tryz.func446.trans (congrArg some (by kernel_rfl))⟩
 t0:=Tryz.underlying0
 a0:=Tryz.isAgg0
 z0:=Tryz.sizeOf0
 v0:=Tryz.zeroValue0
 t3:=Tryz.underlying3
 a3:=Tryz.isAgg3
 z3:=Tryz.sizeOf3
 v3:=Tryz.zeroValue3
 t4:=Tryz.underlying4
 a4:=Tryz.isAgg4
 z4:=Tryz.sizeOf4
 v4:=Tryz.zeroValue4
 t5:=Tryz.underlying5
 a5:=Tryz.isAgg5
 z5:=Tryz.sizeOf5
 v5:=Tryz.zeroValue5
 t9:=Tryz.underlying9
 a9:=Tryz.isAgg9
 z9:=Tryz.sizeOf9
 v9:=Tryz.zeroValue9
 t22:=Tryz.underlying389
 a22:=Tryz.isAgg389
 z22:=Tryz.sizeOf389
 v22:=Tryz.zeroValue389
 t25:=Tryz.underlying394
 a25:=Tryz.isAgg394
 z25:=Tryz.sizeOf394
 v25:=Tryz.zeroValue394
 t39:=Tryz.underlying295
 a39:=Tryz.isAgg295
 z39:=Tryz.sizeOf295
 v39:=Tryz.zeroValue295
 t45:=Tryz.underlying366
 a45:=Tryz.isAgg366
 z45:=Tryz.sizeOf366
 v45:=Tryz.zeroValue366
 t46:=Tryz.underlying367
 a46:=Tryz.isAgg367
 z46:=Tryz.sizeOf367
 v46:=Tryz.zeroValue367
 t50:=Tryz.underlying331
 a50:=Tryz.isAgg331
 z50:=Tryz.sizeOf331
 v50:=Tryz.zeroValue331
 t53:=Tryz.underlying164
 a53:=Tryz.isAgg164
 z53:=Tryz.sizeOf164
 v53:=Tryz.zeroValue164
 t55:=Tryz.underlying53
 a55:=Tryz.isAgg53
 z55:=Tryz.sizeOf53
 v55:=Tryz.zeroValue53
 t66:=Tryz.underlying428
 a66:=Tryz.isAgg428
 z66:=Tryz.sizeOf428
 v66:=Tryz.zeroValue428
 t70:=Tryz.underlying431
 a70:=Tryz.isAgg431
 z70:=Tryz.sizeOf431
 v70:=Tryz.zeroValue431
 t76:=Tryz.underlying468
 a76:=Tryz.isAgg468
 z76:=Tryz.sizeOf468
 v76:=Tryz.zeroValue468
 t77:=Tryz.underlying469
 a77:=Tryz.isAgg469
 z77:=Tryz.sizeOf469
 v77:=Tryz.zeroValue469}
end Go.Proofs
namespace Go.Proofs.YtfebdimolnobaaaGreatDoor
open Go.RowKit Go.Proofs.Tryz
section
open Go.Maps Go.Sort
attribute [local go_sem↓] Go.wp_at_zero Go.wp_at_succ
def vL (x:Int)(w:an):Calls prog 409 #[.int .u64 x] w λe w'=>e= .returned (.bool false)/\w'=w:=by
 go_enter func409,ntmps409;go_wp2;go_ret;exact⟨rfl,rfl⟩
def vM (x:am)(w:an):Calls prog 410 #[ae x] w λe w'=>e= .returned (.bool false)/\w'=w:=by
 go_enter func410,ntmps410;go_wp2;go_ret;exact⟨rfl,rfl⟩
def Hx (x y:am):Int:=if Op.bytesLess x.toList y.toList then-1 else if x.toList==y.toList then 0 else 1
def Dn (x y:Int)(w:an):Calls prog 358 #[.int .u64 x,.int .u64 y] w λe w'=>e= .returned (aa (jV x y))/\w'=w:=by
 unfold jV
 by_cases h:x<y
 ·rw[dB h];go_enter func358,ntmps358;go_wp2_with (first|(go_at_call 409;refine(vL _ _).mono ?_;rintro e w' ⟨rfl,rfl⟩))
  go_ret;exact⟨rfl,rfl⟩
 ·have hd:decide (x<y)=false:=by simp[h]
  rw[dA h]
  by_cases h2:y<x
  ·rw[dB h2];go_enter func358,ntmps358;go_wp2_with (first|(go_at_call 409;refine(vL _ _).mono ?_;rintro e w' ⟨rfl,rfl⟩))
   go_ret;exact⟨rfl,rfl⟩
  ·have hd2:decide (y<x)=false:=by simp[h2]
   rw[dA h2];go_enter func358,ntmps358;go_wp2_with (first|(go_at_call 409;refine(vL _ _).mono ?_;rintro e w' ⟨rfl,rfl⟩))
   go_ret;exact⟨rfl,rfl⟩
def Do (x y:am)(w:an):Calls prog 359 #[ae x,ae y] w λe w'=>e= .returned (aa (Hx x y))/\w'=w:=by
 unfold Hx
 cases h:Op.bytesLess x.toList y.toList with
 |true=>
  rw[dB rfl];go_enter func359,ntmps359;go_wp2_with (first|(go_at_call 410;refine(vM _ _).mono ?_;rintro e w' ⟨rfl,rfl⟩))
  go_ret;exact⟨rfl,rfl⟩
 |false=>
  rw[dA QG]
  cases h2:x.toList==y.toList with
  |true=>
   rw[dB rfl];go_enter func359,ntmps359;go_wp2_with (first|(go_at_call 410;refine(vM _ _).mono ?_;rintro e w' ⟨rfl,rfl⟩))
   go_ret;exact⟨rfl,rfl⟩
  |false=>
   rw[dA QG];go_enter func359,ntmps359;go_wp2_with (first|(go_at_call 410;refine(vM _ _).mono ?_;rintro e w' ⟨rfl,rfl⟩))
   go_ret;exact⟨rfl,rfl⟩
def OR (x y:Int):Int:=if x=0 then y else x
def O6 (x y:Int)(b:Nat)(w:an)(h0:w.cell? (ai b 0)=some (aa x))(h1:w.cell? (ai b 1)=some (aa y)):
  Calls prog 357 #[.slice (some (ai b 0)) 2 2] w λe w'=>e= .returned (aa (OR x y))/\w'=w:=by
 unfold OR
 by_cases hx:x=0
 ·rw[dB hx];subst hx
  by_cases hy:y=0
  ·subst hy;go_enter func357,ntmps357;go_wp2;refine wp_loop_rounds 3 ?_;rw[rounds_succ];go_wp2;rw[rounds_succ];go_wp2;rw[rounds_succ];go_wp2;go_ret;exact⟨rfl,rfl⟩
  ·go_enter func357,ntmps357;go_wp2;refine wp_loop_rounds 2 ?_;rw[rounds_succ];go_wp2;rw[rounds_succ];go_wp2;go_ret;exact⟨rfl,rfl⟩
 ·rw[dA hx];go_enter func357,ntmps357;go_wp2;refine wp_loop_rounds 1 ?_;rw[rounds_succ];go_wp2;go_ret;exact⟨rfl,rfl⟩
def vN (x y:LV):Int:=OR (jV x.1 y.1) (Hx x.2 y.2)
def vO (x y:LV)(w:an):Calls prog 275 #[kV x,kV y] w λe w'=>e= .returned (aa (vN x y))/\∃q os,w'=grow (w.drewN q) os:=by
 obtain⟨x1,x2⟩:=x;obtain⟨y1,y2⟩:=y;unfold kV;go_enter func275,ntmps275
 have hc:∀(o1 o2:Obj) (v0 v1:Value),(((w.alloc o1).alloc o2).alloc (.cells #[v0,v1] 3)).drew.cell? (ai (w.heap.size+1+1) 0)=some v0/\(((w.alloc o1).alloc o2).alloc (.cells #[v0,v1] 3)).drew.cell? (ai (w.heap.size+1+1) 1)=some v1:=λo1 o2 v0 v1=>by
  have h:=lG ((w.alloc o1).alloc o2) v0 v1 3;have h0:=h 0 v0 rfl;have h1:=h 1 v1 rfl;simp only[ck,Addr.add]at h0 h1;exact⟨h0,h1⟩
 go_upto_region 1 with fail
 go_region_held2 (λW=>W.cell? (ai w.heap.size 0)=some (.int .u64 x1)/\W.cell? (ai w.heap.size 1)=some (ae x2)/\W.cell? (ai (w.heap.size+1) 0)=some (.int .u64 y1)/\W.cell? (ai (w.heap.size+1) 1)=some (ae y2)) (go_keep) (first
  |(go_at_call 358;refine(Dn _ _ _).mono ?_;rintro e w' ⟨rfl,rfl⟩)
  |(go_at_call 359;refine(Do _ _ _).mono ?_;rintro e w' ⟨rfl,rfl⟩)
  |(go_at_call 357;refine(O6 _ _ _ _ (hc _ _ _ _).1 (hc _ _ _ _).2).mono ?_;rintro e w' ⟨rfl,rfl⟩))
 go_wp2;go_ret;exact⟨rfl,1,#[_,_,_],rfl⟩
def Ki (x y:am):Hx x y<0<->Op.bytesLess x.toList y.toList=true:=by
 unfold Hx
 split
 ·rename_i h;simp[h]
 ·rename_i h;split<;>simp[h]
def Er (x y:Int):jV x y=0<->x=y:=by
 unfold jV
 split
 ·simp;omega
 ·split
  ·simp;omega
  ·simp;omega
def zV (x y:LV):vN x y<0<->lC x y:=by
 unfold vN OR lC
 by_cases h:x.1=y.1
 ·rw[dB ((Er _ _).2 h),Ki];simp[h]
 ·rw[dA (λq=>h ((Er _ _).1 q)),mI];simp[h]
def NK (x y:LV):ltOf vN x y=true<->lC x y:=by
 unfold ltOf;simp[zV]
def O7:SWO (ltOf vN)where
 irrefl x:=by rw[cg];exact λh=>oe _ ((NK _ _).1 h)
 trans x y z h1 h2:=(NK _ _).2 (jR ((NK _ _).1 h1) ((NK _ _).1 h2))
 ntrans x y z h1 h2:=by
  rw[cg,Ne,NK]at*;intro h
  rcases uy y x with q|q|q
  ·exact h2 (jR q h)
  ·exact h2 (rz q h)
  ·exact h1 q
def BJ {a b:LV}(h:je a b):a=b:=by
 obtain⟨h1,h2⟩:=h;exact cO h1 (cK (cN.1 (by rw[<-ByteArray.toList_eq,<-ByteArray.toList_eq];exact h2)))
def tT (k:LV):aq:= [.int .u64 k.1,ae k.2]
def BK:∀(ss:List LV) (t:Nat),t<ss.length*2->(jX ss)[t]?=some ((tT ss.toArray[t/2]!)[t%2]!)
 | [],t,h=>by simp at h
 |k::ss,0,_=>by simp[jX,tT]
 |k::ss,1,_=>by simp[jX,tT]
 |k::ss,t+2,h=>by
  have e1:(t+2)/2=t/2+1:=QD;have e2:(t+2)%2=t%2:=QD;have h':t<ss.length*2:=by simp at h;omega
  have QY:t/2<ss.length:=QD;rw[e1,e2];have:=BK ss t h';simp only[jX,cu];rw[this]
  congr 3;simp[QY]
def xY (ss:List LV):(flatK tT 2 ss.toArray).toList=jX ss:=by
 apply List.ext_getElem?;intro t
 by_cases h:t<ss.length*2
 ·rw[BK ss t h,bt,bz (by simpa using h),<-get_flatK tT 2 ss.toArray t (by simpa using h),getElem!_pos _ t (by simpa using h)]
 ·rw[aU QF,aU (by rw[jS];omega)]
def O8 (w:an)(lo:Nat)(v:Value)(l:List LV)(e:Ending)(w':an):Prop:=
 e= .returned (.tuple #[])/\∃l':List LV,l'.Perm l/\l'.Pairwise (λa b=>¬lC b a)/\w'.ownsRow lo 386 2 v l.length (jX l')/\w.grownBy w' v.ownBlock
def MB (w:an)(lo:Nat)(v:Value)(l:List LV)(QP:w.ownsRow lo 386 2 v l.length (jX l))(hl:l.length<=1099511627776):
  Calls prog 355 #[v,.func (.func 275) #[] #[]] w (O8 w lo v l):=by
 by_cases h0:l= []
 ·subst h0;obtain⟨a,c,rfl⟩:=iW QP;refine(AnyF.slices_SortFunc_none (P:=prog) (ρ:=Tryz.sortK_ren) Tryz.sortK a c _ w).mono ?_;rintro e w' ⟨rfl,rfl⟩;exact⟨rfl,[],List.Perm.refl _,List.Pairwise.nil,QP,⟨rfl,rfl,rfl,ay _,λ_ _ _=>rfl⟩⟩
 ·rcases QP.2 with⟨rfl,h1⟩|⟨g,cap,Q1,rfl,hg,hb,hn,hm,hs,ht⟩
  ·exact absurd (bA h1) h0
  ·have QZ:g<w.heap.size:=dK.lt hb;have eg:∀args w,(callFunc 275 args).run prog w= .ok (.enter 275 args) w:=enters_of func275 QI rfl;have QU:CmpLays prog 275 #[] tT 2 vN g 0 l.toArray.size w:=λm os dk hsz x y=>vO x y _
   have hH:HoldsK tT 2 w g 0 l.toArray:=by
    have:=xy (enc:=id) (w:=w) (g:=g) (ss:=jX l) hb (by rw[jS,List.map_id,Nat.mul_comm];exact ht);rw[<-xY]at this;exact this
   have QR:=AnyQ.slices_SortFunc Tryz.sortK 2 (λ_=>isAgg386 _) (λ_=>sizeOf386 _) tT (λ_=>rfl) (λx v hv=>by simp[tT]at hv;rcases hv with rfl|rfl<;>rfl) vN O7 275 #[] g 0 cap l.toArray w eg QU hH QZ QF;have e1:l.toArray.size=l.length:=QE;rw[e1]at QR;refine QR.mono ?_;rintro e w' ⟨rfl,d',n,os,QQ,QS,rfl⟩;have hsz:d'.size=l.length:=by rw[QQ.1];exact e1
   obtain⟨l',rfl⟩:∃l':List LV,l'.toArray=d':=⟨d'.toList,QE⟩;have QW:l'.length=l.length:=by simpa using hsz
   refine⟨rfl,l',?_,?_,?_,se (enc:=id) (flatK tT 2 l'.toArray)⟩
   ·have h2:=QQ.2.2;rw[<-e1]at h2;rw[du,show l.toArray.size=l'.toArray.size from by simp[QW],du]at h2;simpa using h2
   ·rw[bH];intro i j hi hj Q2;have h2:=QS i j (aM _) Q2 QD;rw[getElem!_pos l'.toArray i (by simpa using hi),getElem!_pos l'.toArray j (by simpa using hj),cg,Ne,NK]at h2;simpa using h2
   ·refine⟨by rw[jS];omega,.inr ⟨g,cap,_,rfl,hg,AZ (enc:=id) (flatK tT 2 l'.toArray) hb,hn,hm,by simp[putCells,hs],?_⟩⟩;have:=Ba (enc:=id) Q1 (jX l') (by rw[jS];omega);rw[jS,List.map_id]at this;have e3:flatK tT 2 l'.toArray=(jX l').toArray:=by rw[<-xY]
    rw[e3,Nat.mul_comm,<-QW];exact this
def Og (w:an)(S:List LV->Prop)(e:Ending)(w':an):Prop:=
 ∃(v:Value) (ss l:List LV),e= .returned v/\S ss/\l.Perm ss/\l.Pairwise (λa b=>¬lC b a)/\w'.ownsRow w.heap.size 386 2 v l.length (jX l)/\aj w w'
def BL (w:an)(Bm N:Nat)(S:List LV->Prop)(hN:N<=1099511627776)(hS:∀ss,S ss->ss.length<=N)(hk:Dj w Bm S N):
  Calls prog 273 #[.func (.func 356) #[] #[ag Bm],.func (.func 275) #[] #[]] w (Og w S):=by
 have eg:∀args w,(callFunc 356 args).run prog w= .ok (.enter 356 args) w:=enters_of func356 QI rfl;have hm:maxLen=9223372036854775807:=rfl;have QV:=(Hw {fn:=λ_=>True} 3 (λ_=>trivial) rfl QD _ #[ag Bm] eg S N QD QD w (hk _ _ (λ_=>trivial) rfl QD)).calls (λ_ _ h=>by cases h);go_enter func273,ntmps273;go_wp2_with fail;refine QV.mono ?_;rintro e w1 ⟨v,ss,rfl,QX,QP,hb⟩;obtain⟨a,c,rfl⟩:=iW QP;go_wp2_with fail;refine(MB w1 w.heap.size _ ss QP (aH (hS ss QX) hN)).mono ?_;rintro e w2 ⟨rfl,l,hp,Q3,QT,hg⟩;go_wp2;go_ret;have Q0:l.length=ss.length:=hp.length_eq;exact⟨_,ss,l,rfl,QX,hp,Q3,by rw[Q0];exact QT,hb.grown hg hb.size (λk e=>(QP.lt k e).1)⟩
end
section
open Go.Maps Go.Sort
section
variable {ks:List LV} {ps:au} {w:an}
attribute [local go_sem↓] Go.wp_at_zero Go.wp_at_succ
theorem xZ:∀{ks:List LV} {ps:au} {q:LV},ks.length=ps.length->q∈ks->∃p,jr ks ps q=some p
 | [],_,_,_,h=>by cases h
 |_::_,[],_,h,_=>by simp at h
 |k::ks,p::ps,q,hl,h=>by
  rw[jr]
  by_cases e:k.1=q.1/\gE k.2 q.2=true
  ·exact⟨p,dB e⟩
  ·rw[dA e]
   rcases aN.1 h with rfl|h
   ·exact absurd ⟨rfl,gk.2 rfl⟩ e
   ·exact xZ (by simpa using hl) h
theorem BM:∀{ks:List LV} {ps:au} {i:Nat} {q:LV} {p:Nat},ks.Pairwise lC->ks[i]?=some q->ps[i]?=some p->jr ks ps q=some p
 | [],_,_,_,_,_,h,_=>by simp at h
 |_::_,[],_,_,_,_,_,h=>by simp at h
 |k::ks,p::ps,0,q,p',_,h,h'=>by
  simp at h h';subst h h';rw[jr,dB ⟨rfl,gk.2 rfl⟩]
 |k::ks,p::ps,i+1,q,p',hp,h,h'=>by
  simp at h h';rw[ba]at hp;have QW:=hp.1 q (aI h);rw[jr,dA (λe=>kE QW ⟨e.1,gk.1 e.2⟩)];exact BM hp.2 h h'
theorem ya:∀{a b:List LV},a.Pairwise lC->b.Pairwise lC->(∀x,x∈a<->x∈b)->a=b
 | [],[],_,_,_=>rfl
 | [],y::b,_,_,h=>by have:=(h y).2 QE;cases this
 |x::a,[],_,_,h=>by have:=(h x).1 QE;cases this
 |x::a,y::b,h1,h2,h=>by
  rw[ba]at h1 h2
  have e:x=y:=by
   rcases aN.1 ((h x).1 QE)with e|e
   ·exact e
   ·rcases aN.1 ((h y).2 QE)with e'|e'
    ·exact e'.symm
    ·exact absurd (jR (h1.1 y e') (h2.1 x e)) (oe _)
  subst e
  congr 1;refine ya h1.2 h2.2 λz=>⟨λhz=> ?_,λhz=> ?_⟩
  ·rcases aN.1 ((h z).1 (by simp[hz]))with e|e
   ·subst e;exact absurd (h1.1 _ hz) (oe _)
   ·exact e
  ·rcases aN.1 ((h z).2 (by simp[hz]))with e|e
   ·subst e;exact absurd (h2.1 _ hz) (oe _)
   ·exact e
theorem Kj {D:DataW Unit}{ss l:List LV}(hD:∀(k:LV) kl,Go.keyOf prog 386 (kV k)=some kl->∀z,D.atKey kl z=Oc (jr ks ps k) z)
  (hl:ks.length=ps.length) (hk:∀k∈ks,xj k) (hs:ks.Pairwise lC) (hC:o8 D (λ_=>false) ss) (hp:l.Perm ss) (Q5:l.Pairwise (λa b=>¬lC b a)):l=ks:=by
 have Q4:∀x,x∈ss<->x∈ks:=λx=>by
  have Q6:xj x->(x∈ss<->x∈ks):=λhx=>by
   obtain⟨kl,QV⟩:=Mz hx;rw[hC.2.2 x kl QV];simp only[and_true]
   constructor
   ·intro h
    by_cases hm:x∈ks
    ·exact hm
    ·have hn:jr ks ps x=none:=vC λy hy e=>hm (BJ e▸hy)
     have:=has_false_of_atKey (D:=D) (k:=kl) λz=>by rw[hD x kl QV z,hn];rfl
     rw[this]at h;cases h
   ·intro h;obtain⟨p,hp⟩:=xZ hl h;exact has_true_of_atKey (y:=nl (some p)) λz=>by rw[hD x kl QV z,hp];rfl
  exact⟨λh=>(Q6 (hC.2.1 x h)).1 h,λh=>(Q6 (hk x h)).2 h⟩
 have Q9:l.Nodup:=hp.nodup_iff.2 hC.1;refine ya ?_ hs (λx=>(hp.mem_iff).trans (Q4 x));refine(Q5.and Q9).imp ?_;rintro a b ⟨h1,h2⟩
 rcases uy a b with h|h|h
 ·exact h
 ·exact absurd (BJ h) h2
 ·exact absurd h h1
theorem Kk (w:an):(zeroValue 180).run prog w= .ok (.pointer none) w:=QI
theorem Hy {mb:Nat}{i p:Nat}{q:LV}(h:js w mb ks ps)(hs:ks.Pairwise lC)(hk:xj q)(h1:ks[i]?=some q)(h2:ps[i]?=some p):
  (Instr.lookup 247 (.map (some mb)) (.agg #[.int .u64 q.1,ae q.2]) false).run prog w= .ok (ag p) w:=by
 obtain⟨D,QP,_,hD⟩:=h;obtain⟨kl,QV⟩:=Mz hk;obtain⟨v,pl,QZ,hR⟩:=QP.lookup Dc underlying247 (Kk w) (kA none) QV;have e:=hD q kl QV;rw[BM hs h1 h2]at e;simp only[Oc]at e;unfold nl at e;rw[e]at hR;unfold kV at QZ;rw[QZ,oF (o:=some p) hR];rfl
theorem Hz (w:an)(v:Option Nat):Calls prog 274 #[.map v] w λe w'=>
  e= .returned (.func (.func 356) #[] #[ag w.heap.size])/\w'=w.alloc (ak #[.map v] 247):=by
 go_enter func274,ntmps274;go_wp2;go_ret;exact⟨rfl,rfl⟩
def Dp (w:an)(v:Value)(ks:List LV)(ps:au):Prop:=
 (v= .map none/\ks= []/\ps= [])\/∃mb,v= .map (some mb)/\js w mb ks ps/\ks.length=ps.length/\(∀k∈ks,xj k)/\ks.Pairwise lC
theorem BN {v:Value}(h:Dp w v ks ps)(hn:ks.length<=1099511627776):
  Calls prog 273 #[.func (.func 356) #[] #[ag w.heap.size],.func (.func 275) #[] #[]] (w.alloc (ak #[v] 247))
   λe w'=>∃v',e= .returned v'/\w'.ownsRow w.heap.size 386 2 v' ks.length (jX ks)/\aj w w':=by
 have Q3:aj w (w.alloc (ak #[v] 247)):=(Below.refl _ _).alloc (ay _) _;have hc:(w.alloc (ak #[v] 247)).cell? (ai w.heap.size 0)=some v:=(dK.new w #[v] 247).cell 0
 rcases h with⟨rfl,rfl,rfl⟩|⟨mb,rfl,hm,hl,hk,hs⟩
 ·refine(BL _ w.heap.size 0 (λss=>ss= []) QD (λss h=>by simp[h]) (BI QE hc)).mono ?_;rintro e w' ⟨v',ss,l,rfl,rfl,hp,_,QQ,hb⟩;obtain rfl:=hp.eq_nil;exact⟨v',rfl,ownsRow_base_a QQ QE,Q3.trans (hb.mono Q3.size)⟩
 ·obtain⟨D,QP,hsz,hD⟩:=hm
  have QX:(w.alloc (ak #[.map (some mb)] 247)).ownsMap prog 386 gj mb ks.length D:=by
   have QW:=QP.lt;obtain⟨es,clock,Rc,Ft,hs,hD⟩:=QP;exact⟨es,clock,(Below.heap_alloc _ _ _ QW).trans Rc,Ft,hs,hD⟩
  refine(BL _ w.heap.size (Go.Maps.size D) (λss=>o8 D (λ_=>false) ss/\ss.length<=Go.Maps.size D) QD (λ_ h=>h.2) (Dk QE hc QX)).mono ?_;rintro e w' ⟨v',ss,l,rfl,⟨hC,_⟩,hp,Q5,QQ,hb⟩;obtain rfl:=Kj hD hl hk hs hC hp Q5;exact⟨v',rfl,ownsRow_base_a QQ QE,Q3.trans (hb.mono Q3.size)⟩
def H6 (w:an)(ps:au)(e:Ending)(w':an):Prop:=
 ∃v,e= .returned v/\w'.ownsRow w.heap.size 180 1 v ps.length (eQ ps)/\aj w w'
theorem Es:∀{ks:List LV} {i:Nat} {q:LV},ks[i]?=some q->(jX ks)[i*2]?=some (.int .u64 q.1)/\(jX ks)[i*2+1]?=some (ae q.2)
 | [],_,_,h=>by simp at h
 |k::ks,0,q,h=>by simp at h;subst h;simp[jX]
 |k::ks,i+1,q,h=>by
  have:=Es (ks:=ks) (i:=i) (q:=q) (by simpa using h);have e1:(i+1)*2=i*2+1+1:=QD;rw[e1];simpa [jX]using this
theorem sH {o:Option Nat}(h:Dp w (.map o) ks ps)(hn:ks.length<=1099511627776)(hlp:ks.length=ps.length):
  Calls prog 198 #[.map o] w (H6 w ps):=by
 obtain⟨i0,Re,Rf,Rg,Rh⟩:=info_parts (show(prog.info? 180).map (λi=>(i.zero,i.size,i.bytes))=some (some (.pointer none),1,8)by kernel_rfl);go_enter func198,ntmps198;go_wp2_with (first|(go_at_call 274;refine(Hz w o).mono ?_;rintro e w' ⟨rfl,rfl⟩)|(go_at_call 273;refine(BN h hn).mono ?_;rintro e w1 ⟨v',rfl,QQ,hb⟩;obtain⟨ad,n,c,rfl⟩:=dL QQ;obtain rfl:n=ks.length:=eI QQ))
 go_loopw [3,5,10] (λv _ i wr=>∃(k:Nat),k<=ks.length/\i=aa k/\wr.ownsRow w1.heap.size 180 1 v (ps.take k).length (eQ (ps.take k))/\aj w1 wr) (λ_ _ i _=>ks.length-(intOf i).toNat)
 case atStart=>exact⟨0,aM _,rfl,bf _ _ _ _,Below.refl _ _⟩
 case round=>
  obtain⟨k,hk,rfl,QP,QS⟩:=hrel
  by_cases QW:k<ks.length
  ·obtain⟨q,hq⟩:=gx QW;obtain⟨p,hp⟩:=gx (l:=ps) (i:=k) QD;obtain⟨c0,c1⟩:=Es hq;obtain⟨gf,rfl,_,Q0,QR⟩:=eh QQ QD;have t0:=QR wr (QS.block gf Q0) _ _ c0;have t1:=QR wr (QS.block gf Q0) _ _ c1;have QT:ps.take (k+1)=ps.take k++ [p]:=by rw[bB,hp];rfl
   have hlook:(Instr.lookup 247 (.map o) (.agg #[.int .u64 q.1,ae q.2]) false).run prog (wr.alloc (ak #[.int .u64 q.1,ae q.2] 386))= .ok (ag p) (wr.alloc (ak #[.int .u64 q.1,ae q.2] 386)):=by
    rcases h with⟨_,rfl,_⟩|⟨mb,e,Q8,hl,Ri,hs⟩
    ·simp at hq
    ·cases e
     have QU:=Q8.lt;have Ra:(wr.alloc (ak #[.int .u64 q.1,ae q.2] 386)).heap[mb]?=w.heap[mb]?:=(Below.heap_alloc _ _ _ (aC (aC QU hb.size) QS.size)).trans ((QS.block mb (aC QU hb.size)).trans (hb.block mb QU));exact Hy (Q8.keep Ra) hs (Ri q (aI hq)) hq hp
   have Rb:(ps.take k).length<=1099511627776:=by rw[bn];omega
   have Q7:Hid (ps.take (k+1)=ps.take k++ [p]):=QT;have QY:=cell_one_new (wr.alloc (ak #[.int .u64 q.1,ae q.2] 386)) (ag p) 180;rw[ck]at QY;clear QR QT;generalize ps.take k=L at QP Rb Q7;go_wp2_with (first|(at_builtin;refine wpList_append_own_at _ rfl _ _ 245 rfl w1.heap.size 180 i0 _ 1 8 underlying245 Re Rf Rg Rh rfl QG u3 _ _ rfl ((QP.alloc _).alloc _) _ 1 1 [_] rfl rfl QY ?h1 ?h63 ?hby ?hba ?_;rotate_right;intro v' w5 Q1 Q2 hnil hloc))
   case h1=>intro u hu;simp at hu;subst hu;rfl
   case h63=>unfold maxLen;omega
   case hby=>omega
   case hba=>have:=QS.size;simp;omega
   refine⟨⟨k+1,QD,by go_num,?_,?_⟩,by simp[intOf];omega⟩
   ·rw[Q7.out];simpa [eQ,gC]using Q1
   ·exact((QS.alloc QS.size _).alloc (by have:=QS.size;simp;omega) _).grown Q2 (by have:=QS.size;simp;omega) (λj hj=>(QP.lt j hj).1)
  ·have hli:decide ((k:Int)<(ks.length:Int))=false:=QF;obtain rfl:k=ks.length:=QD;rw[hlp,bg]at QP;go_wp2;go_ret;exact⟨_,rfl,ownsRow_base_a QP hb.size,hb.trans (QS.mono hb.size)⟩
end
end
section
open Go.Maps
section
variable {w:an} {k:Nat} {x:fZ} {f:PF} {A:ap} {S:d8} {T:Option MT} {ps:au} {t:am}
attribute [local go_sem↓] Go.wp_at_zero Go.wp_at_succ
theorem LQ (w:an)(x0 x1 x2 x3:Value)(t:TypeId):∀j u,[x0,x1,x2,x3][j]?=some u->(w.alloc (.cells #[x0,x1,x2,x3] t)).cell? (((ai w.heap.size 0):Addr).add j)=some u:=br (dK.new w _ _)
def vP (S:d8)(k:Nat):Prop:=∀(T:Option MT) (w:an) (Z:ap) (db:Nat) (m:PM),ed S k T w Z db m->Calls prog 85 #[ag db] w (Oe k w Z m)
theorem Kl {lv:List LV}(h:PU w x f A lv)(hA:∀b,A b->b<w.heap.size):
  Calls prog 137 #[.agg #[aa x.1,x.2.1,x.2.2.1,x.2.2.2]] w (qK k w A f.2):=by
 obtain⟨xn,xv,xm,xe⟩:=x;obtain⟨_,Rz,QU,rfl,rfl⟩:=h;simp only at QU;obtain⟨a,n,c,rfl⟩:=dL QU.1;have B0:∀o,aj w (w.alloc o):=λo=>(Below.refl w.heap.size w).alloc (ay _) o
 go_enter func137,ntmps137;go_wp2;refine wp_loop_rounds 1 ?_;rw[rounds_succ];have Rh:∀w0:an,Calls prog 198 #[.map none] w0 (H6 w0 []):=λw0=>sH (ks:= []) (.inl ⟨rfl,rfl,rfl⟩) QE rfl
 go_wp2_with (first|(go_at_call 198;refine(Rh _).mono ?_;rintro e w1 ⟨v,rfl,Rb,QQ⟩;obtain⟨a1,n1,c1,rfl⟩:=dL Rb;obtain rfl:n1=0:=eI Rb))
 refine wp_loop_rounds 1 ?_;rw[rounds_succ];go_wp2;go_ret;have Ri:=dG (B0 _) QQ;refine⟨_,A,rfl,?_,λb hb=>⟨aC (hA b hb) Ri.size,.inl hb⟩,Ri⟩;rw[Rz];exact Kg (QU.keep λb _ hl=>Ri.block b hl)
theorem Km (HF:vP S k){L:Prop}{B:ap}(h:PW (ed S k) w T L x f A ps B)(hA:∀b,A b->b<w.heap.size):
  Calls prog 137 #[.agg #[aa x.1,x.2.1,x.2.2.1,x.2.2.2]] w (qK k w A f.2):=by
 obtain⟨xn,xv,xm,xe⟩:=x;obtain⟨_,_,rfl,rfl,QU,Rc,_,QV,RA⟩:=h;obtain⟨fn,vs⟩:=f;simp only at QU QV⊢;obtain⟨a,c,rfl⟩:=iW QU.1;obtain⟨i0,Rl,Rm,Q6,Q0⟩:=info_parts Tryz.infoV;have hlen:Hid (ps.length=vs.length):=QV.len;have Ru:ps.length<=vs.length/\vs.length<=ps.length:=by have:=hlen.out;omega
 obtain⟨B0,KB⟩:=dR w #[aa xn,ah,.slice a ps.length c,.map none] 249;have QR:=QU.keep λb _ hl=>B0.block b hl
 have QX:=QV.imp (Q:=λp v C=>v=mV v.2.2/\ed S k T (w.alloc (ak #[aa xn,ah,.slice a ps.length c,.map none] 249)) C p v.2.2) λ_ _ _ _ _ _ h=>⟨h.1,h.2.keep λb _ hl=>B0.block b hl⟩
 go_enter func137,ntmps137;go_wp2;generalize w.alloc (ak #[aa xn,ah,.slice a ps.length c,.map none] 249)=wB at*;have zB:=B0.size;have Rj:∀b,B b->b<wB.heap.size:=λb hb=>by have:=hA b (Rc b hb);omega
 go_loopw [3,5,13] (λu _ i wr=>∃(q:Nat),q<=ps.length/\i=aa q/\tS S k T wB B wr u (vs.take q) (ps.drop q) (vs.drop q)/\Below wB.heap.size wB wr) (λ_ _ i _=>ps.length-(intOf i).toNat)
 case atStart=>exact⟨0,aM _,rfl,tS.start QX,Below.refl _ _⟩
 case round=>
  obtain⟨q,hq,rfl,QP,QT⟩:=hrel
  by_cases hlt:q<ps.length
  ·obtain⟨p,hp⟩:=gx hlt;obtain⟨v,hv⟩:=gx (l:=vs) (i:=q) QD;obtain⟨gf,rfl,_,Q7,QW⟩:=eh QR.1 QD;have t0:=QW wr (QT.block gf Q7) q (qb p) (by simp[hp]);have e1:ps.drop q=p::ps.drop (q+1):=by rw[aZ hlt];congr 1;exact Option.some.inj ((aK hlt).symm.trans hp)
   have e2:vs.drop q=v::vs.drop (q+1):=by rw[aZ QD];congr 1;exact Option.some.inj ((aK QD).symm.trans hv)
   have e3:Hid (vs.take (q+1)=vs.take q++ [v]):=by show _=_;rw[bB,hv];rfl
   rw[e1,e2]at QP;obtain⟨ms,Y,B1,B2,hs,Rn,Ro,Rp,Q1,Q8,QY,hY⟩:=QP;obtain⟨C,RB,⟨Re,hdr⟩,Rq,hC,Rr,Rs⟩:=hs;obtain⟨v1,v2,m⟩:=v;have Q2:v1=0:=dF Prod.fst Re;have Q3:v2=eS:=dF (λz:PV=>z.2.1) Re;subst Q2 Q3;have Q4:=HF T wr C p m (hdr.keep λb _ hl=>QT.block b hl);have Rk:(vs.take q).length<=1073741824:=by rw[bn];omega
   unfold qb at t0;generalize vs.take q=D at Q1 QY Rk e3;go_wp2_with fail;refine Q4.mono ?_;rintro e w1 ⟨mv,Z',rfl,hm,hZ,QQ⟩;obtain⟨a3,c3,rfl⟩:=hm.form;have Q5:=eF QQ Q1;have z1:=QQ.size;go_wp2_with (first|(at_builtin;refine wpList_append_own_at _ rfl _ _ 56 rfl wB.heap.size 55 i0 _ 4 64 underlying56 Rl Rm Q6 Q0 rfl QG u3 _ _ rfl (Q5.alloc _) _ 1 1 [_,_,_,_] rfl rfl (LQ _ _ _ _ _ _) ?h1 ?h63 ?hby ?hba ?_;rotate_right;intro v' w5 QZ QS Rt Q9))
   case h1=>intro u hu;simp at hu;rcases hu with rfl|rfl|rfl|rfl<;>rfl
   case h63=>unfold maxLen;omega
   case hby=>omega
   case hba=>have:=QT.size;simp;omega
   have zr:=QT.size;refine⟨⟨q+1,QD,by go_num,?_,?_⟩,by simp[intOf];omega⟩
   ·rw[e3.out];refine tS.step Rj QT.size Rq hC Rr Rs Rn Ro Rp Q1 Q8 QY hY (dG QQ ((Below.refl _ _).alloc (ay _) _)) (hm.keep λb _ hl=>Below.heap_alloc _ _ b hl) (λb hb=>⟨by have:=(hZ b hb).1;simp;omega,(hZ b hb).2⟩) QS (by simpa [qd,eS]using QZ) ?_
    rcases Q9 with h|h
    ·exact .inl h
    ·exact .inr ⟨_,h,QE⟩
   ·exact(dG QT (dG QQ ((Below.refl _ _).alloc (ay _) _))).grown QS QF (λj hj=>(Q1.lt j hj).1)
  ·have Rw:decide ((q:Int)<(ps.length:Int))=false:=QF;obtain rfl:q=ps.length:=QD;rw[co,hlen.out,bg,co]at QP;have Rh:∀w0:an,Calls prog 198 #[.map none] w0 (H6 w0 []):=λw0=>sH (ks:= []) (.inl ⟨rfl,rfl,rfl⟩) QE rfl
   obtain⟨k1,k2⟩:=(KB.below QT KB.lt).rules;go_wp2_with (first|(go_at_call 198;refine(Rh _).mono ?_;rintro e w1 ⟨v,rfl,Rb,QQ⟩;obtain⟨a1,n1,c1,rfl⟩:=dL Rb;obtain rfl:n1=0:=eI Rb))
   refine wp_loop_rounds 1 ?_;rw[rounds_succ];go_wp2;go_ret;obtain⟨Z',Q6,Q0⟩:=QP.done;have z1:=QQ.size;refine⟨_,Z',rfl,Q6.keep (λb _ hl=>QQ.block b hl) (λmv m C _ hm=>hm.keep λb _ hl=>QQ.block b hl),λb hb=>⟨by have:=(Q0 b hb).1;omega,(Q0 b hb).2.imp (Rc b) (λh=>QD)⟩,dG B0 (dG QT QQ)⟩
theorem CK.kv {v:PV}(h:CK t v):xj (jz t v):=by
 have:=h.lo;have:=h.hi;have:=h.sz;unfold jz;refine⟨?_,?_,by show _<=maxLen;unfold maxLen;simp only;omega⟩
 ·simp only
  split<;>omega
 ·simp only
  split<;>omega
theorem Kn (HF:vP S k){B:ap}{mb:Nat}(h:PX (ed S k) w x f A t mb ps B)(hA:∀b,A b->b<w.heap.size):
  Calls prog 137 #[.agg #[aa x.1,x.2.1,x.2.2.1,x.2.2.2]] w (qK k w A f.2):=by
 obtain⟨xn,xv,xm,xe⟩:=x;obtain⟨_,rfl,rfl,rfl,Ra,Rc,_,_,Rf,Rg,QV,RA⟩:=h;obtain⟨fn,vs⟩:=f;simp only at Ra Rf Rg QV⊢;obtain⟨i0,Rl,Rm,Q6,Q0⟩:=info_parts Tryz.infoV;have hlen:Hid (ps.length=vs.length):=QV.len;have Ru:ps.length<=vs.length/\vs.length<=ps.length:=by have:=hlen.out;omega
 have B0:aj w (w.alloc (ak #[aa xn,ah,ah,.map (some mb)] 249)):=(Below.refl w.heap.size w).alloc (ay _) _
 have Rx:Dp (w.alloc (ak #[aa xn,ah,ah,.map (some mb)] 249)) (.map (some mb)) (vs.map λv=>jz t (fo v)) ps:=
  .inr ⟨mb,rfl,Ra.keep (B0.block mb Ra.lt),by rw[bm];exact hlen.out.symm,(by
   intro q hq;obtain⟨v,hv,rfl⟩:=aQ.1 hq
   exact(Rf v hv).kv),bY.2 Rg⟩
 have Ry:=sH Rx (by rw[bm];omega) (by rw[bm];exact hlen.out.symm);go_enter func137,ntmps137;go_wp2;refine wp_loop_rounds 1 ?_;rw[rounds_succ];go_wp2_with (first|(go_at_call 198;refine Ry.mono ?_;rintro e wB ⟨v,rfl,QR,QQ⟩;obtain⟨a,n1,c,rfl⟩:=dL QR;obtain rfl:n1=ps.length:=eI QR))
 have BB:aj w wB:=dG B0 QQ;have zB:=BB.size;have QX:=QV.imp (Q:=λp v C=>v=mV v.2.2/\ed S k none wB C p v.2.2) λ_ _ _ _ _ _ h=>⟨h.1,h.2.keep λb _ hl=>BB.block b hl⟩
 have Rj:∀b,B b->b<wB.heap.size:=λb hb=>by have:=hA b (Rc b hb);omega
 go_loopw [3,7,28] (λu _ i wr=>∃(q:Nat),q<=ps.length/\i=aa q/\tS S k none wB B wr u (vs.take q) (ps.drop q) (vs.drop q)/\Below wB.heap.size wB wr) (λ_ _ i _=>ps.length-(intOf i).toNat)
 case atStart=>exact⟨0,aM _,rfl,tS.start QX,Below.refl _ _⟩
 case round=>
  obtain⟨q,hq,rfl,QP,QT⟩:=hrel
  by_cases hlt:q<ps.length
  ·obtain⟨p,hp⟩:=gx hlt;obtain⟨v,hv⟩:=gx (l:=vs) (i:=q) QD;obtain⟨gf,rfl,_,Q7,QW⟩:=eh QR QD;have t0:=QW wr (QT.block gf Q7) q (qb p) (by simp[eQ,hp,qb,gC]);have e1:ps.drop q=p::ps.drop (q+1):=by rw[aZ hlt];congr 1;exact Option.some.inj ((aK hlt).symm.trans hp)
   have e2:vs.drop q=v::vs.drop (q+1):=by rw[aZ QD];congr 1;exact Option.some.inj ((aK QD).symm.trans hv)
   have e3:Hid (vs.take (q+1)=vs.take q++ [v]):=by show _=_;rw[bB,hv];rfl
   rw[e1,e2]at QP;obtain⟨ms,Y,B1,B2,hs,Rn,Ro,Rp,Q1,Q8,QY,hY⟩:=QP;obtain⟨C,RB,⟨Re,hdr⟩,Rq,hC,Rr,Rs⟩:=hs;obtain⟨v1,v2,m⟩:=v;have Q2:v1=0:=dF Prod.fst Re;have Q3:v2=eS:=dF (λz:PV=>z.2.1) Re;subst Q2 Q3;have Q4:=HF none wr C p m (hdr.keep λb _ hl=>QT.block b hl);have Rk:(vs.take q).length<=1073741824:=by rw[bn];omega
   unfold qb at t0;generalize vs.take q=D at Q1 QY Rk e3;go_wp2_with fail;refine Q4.mono ?_;rintro e w1 ⟨mv,Z',rfl,hm,hZ,QQ⟩;obtain⟨a3,c3,rfl⟩:=hm.form;have Q5:=eF QQ Q1;have z1:=QQ.size;go_wp2_with (first|(at_builtin;refine wpList_append_own_at _ rfl _ _ 56 rfl wB.heap.size 55 i0 _ 4 64 underlying56 Rl Rm Q6 Q0 rfl QG u3 _ _ rfl (Q5.alloc _) _ 1 1 [_,_,_,_] rfl rfl (LQ _ _ _ _ _ _) ?h1 ?h63 ?hby ?hba ?_;rotate_right;intro v' w5 QZ QS Rt Q9))
   case h1=>intro u hu;simp at hu;rcases hu with rfl|rfl|rfl|rfl<;>rfl
   case h63=>unfold maxLen;omega
   case hby=>omega
   case hba=>have:=QT.size;simp;omega
   have zr:=QT.size;refine⟨⟨q+1,QD,by go_num,?_,?_⟩,by simp[intOf];omega⟩
   ·rw[e3.out];refine tS.step Rj QT.size Rq hC Rr Rs Rn Ro Rp Q1 Q8 QY hY (dG QQ ((Below.refl _ _).alloc (ay _) _)) (hm.keep λb _ hl=>Below.heap_alloc _ _ b hl) (λb hb=>⟨by have:=(hZ b hb).1;simp;omega,(hZ b hb).2⟩) QS (by simpa [qd,eS]using QZ) ?_
    rcases Q9 with h|h
    ·exact .inl h
    ·exact .inr ⟨_,h,QE⟩
   ·exact(dG QT (dG QQ ((Below.refl _ _).alloc (ay _) _))).grown QS QF (λj hj=>(Q1.lt j hj).1)
  ·have Rw:decide ((q:Int)<(ps.length:Int))=false:=QF;obtain rfl:q=ps.length:=QD;rw[co,hlen.out,bg,co]at QP;go_wp2;go_ret;obtain⟨Z',Q6,Q0⟩:=QP.done;exact⟨_,Z',rfl,Q6,λb hb=>⟨(Q0 b hb).1,(Q0 b hb).2.imp (Rc b) (λh=>QD)⟩,dG BB QT⟩
theorem MC (HF:vP S k)(h:gq S (ed S k) w T x f A)(hA:∀b,A b->b<w.heap.size):Calls prog 137 #[.agg #[aa x.1,x.2.1,x.2.2.1,x.2.2.2]] w (qK k w A f.2):=by
 rcases h.2 with⟨_,lv,h⟩|⟨_,ps,B,h⟩|⟨t,_,mb,ps,B,h⟩
 ·exact Kl h hA
 ·exact Km HF h hA
 ·exact Kn HF h hA
end
section
variable {w w0 wr:an} {u:Value} {S:d8} {k N0:Nat} {T:Option MT} {B:ap} {l:List fZ} {f:PF}
attribute [local go_sem↓] Go.wp_at_zero Go.wp_at_succ
theorem Fq {uv:Value}{u:am}(h:w.ownsRow 0 5 1 uv u.size (Lib.strCells u)):(convert 140 9 uv).run prog w= .ok (ae u) w:=by
 rcases h.2 with⟨rfl,h0⟩|⟨g,cap,RJ,rfl,_,hb,h1,h2,h3,h4⟩
 ·have hu:u=⟨#[]⟩:=by
   cases u with|mk d=>exact dF _ (Array.eq_empty_of_size_eq_zero h0)
  subst hu;exact run_convert_bytes_nil w 140 5 underlying140 underlying5 0 0 9 underlying9
 ·have hl:u.data.toList.length=u.size:=cT
  have:=run_convert_bytes_back (P:=prog) w 140 9 5 (ai g 0) cap u.data.toList underlying140 underlying5 underlying9 (λj hj=>by
   have h5:(RJ.toList.take (u.size*1))[j]?=(Lib.strCells u)[j]?:=by rw[h4]
   rw[ci QD]at h5;have ea:((ai g 0):Addr).add j=(ai g j):=by unfold Addr.add;split<;>simp_all
   rw[ea];simp only[World.cell?,hb];simp only[Option.isSome_none,aL,if_false];rw[<-bt,h5];unfold Lib.strCells;rw[aO,aK hj]
   rfl)
  rw[hl]at this;simpa using this
def zW (S:d8)(k:Nat)(T:Option MT)(w0:an)(N0:Nat)(B:ap)(wr:an)(u:Value)(done:List PF)(l:List fZ)(rest:List PF):Prop:=
 ∃QR Y,∃B1 B2:ap,jq (gq S (ed S k) w0 T) B2 l rest/\(∀b,B1 b->B b)/\(∀b,B2 b->B b)/\(∀b,B1 b->¬B2 b)/\
  wr.ownsRow N0 58 2 u done.length (qe QR done)/\(∀b,u.ownBlock=some b->¬Y b)/\jq (λvv f A=>jE (o0 (k+1) wr) wr A vv f.2) Y QR done/\(∀b,Y b->b<wr.heap.size/\(B1 b\/N0<=b))
theorem zW.start {fs:List PF}(h:jq (gq S (ed S k) w0 T) B l fs):zW S k T w0 N0 B wr (ah) [] l fs:=
 ⟨[],λ_=>False,λ_=>False,B,h,λ_ q=>q.elim,λ_ q=>q,λ_ q=>q.elim,bf _ _ _ _,(λ_ q=>by cases q),trivial,λ_ q=>q.elim⟩
theorem zW.done {m:PM}(h:zW S k T w0 N0 B wr u m.fs [] []):
  ∃Z',o0 (k+1+1) wr u m Z'/\∀b,Z' b->b<wr.heap.size/\(B b\/N0<=b):=by
 obtain⟨QR,Y,B1,B2,_,Q3,_,_,QS,QT,QQ,hY⟩:=h;refine⟨λb=>Y b\/u.ownBlock=some b,⟨QR,Y,⟨ownsRow_base_a QS (aM _),λb hb=> .inr hb⟩,QT,λb hb=> .inl hb,QQ⟩,?_⟩;rintro b (hb|hb)
 ·exact⟨(hY b hb).1,(hY b hb).2.imp (Q3 b) id⟩
 ·exact⟨(QS.lt b hb).2,.inr (QS.lt b hb).1⟩
theorem zW.step {w1 w2:an}{u' vv:Value}{done rest:List PF}{A B2 Q7 B1 Y Z':ap}{QR:aq}
  (hlB:∀b,B b->b<N0) (h0:N0<=wr.heap.size)
  (hs:jq (gq S (ed S k) w0 T) Q7 l rest) (hA:∀b,A b->B2 b) (Rf:∀b,Q7 b->B2 b) (hAB:∀b,A b->¬Q7 b)
  (Q3:∀b,B1 b->B b) (QZ:∀b,B2 b->B b) (Re:∀b,B1 b->¬B2 b) (QS:wr.ownsRow N0 58 2 u done.length (qe QR done)) (QT:∀b,u.ownBlock=some b->¬Y b)
  (QQ:jq (λvv f A=>jE (o0 (k+1) wr) wr A vv f.2) Y QR done) (hY:∀b,Y b->b<wr.heap.size/\(B1 b\/N0<=b))
  (hb1:aj wr w1) (hm:jE (o0 (k+1) w1) w1 Z' vv f.2) (hZ:∀b,Z' b->b<w1.heap.size/\(A b\/wr.heap.size<=b))
  (hg:∀b,(Y b\/Z' b)->b<w1.heap.size->u.ownBlock≠some b->w2.heap[b]?=w1.heap[b]?) (hsz:w1.heap.size<=w2.heap.size)
  (hrow':w2.ownsRow N0 58 2 u' (done.length+1) (qe QR done++qe [vv] [f])) (hu':u'.ownBlock=u.ownBlock\/∃g,u'.ownBlock=some g/\w1.heap.size<=g):
  zW S k T w0 N0 B w2 u' (done++ [f]) l rest:=by
 have hlen:QR.length=done.length:=QQ.len
 have RA:∀b,Y b->¬Z' b:=λb hb hz=>by
  have q1:=hY b hb;have q2:=hZ b hz
  rcases q2.2 with q|q
  ·rcases q1.2 with q'|q'
   ·exact Re b q' (hA b q)
   ·have:=hlB b (QZ b (hA b q));omega
  ·omega
 have Rq:∀b,u.ownBlock=some b->¬(Y b\/Z' b):=λb hb h=>by
  rcases h with h|h
  ·exact QT b hb h
  ·have q:=QS.lt b hb
   rcases(hZ b h).2 with q'|q'
   ·have:=hlB b (QZ b (hA b q'));omega
   ·omega
 have hk:∀b,(Y b\/Z' b)->b<w1.heap.size->w2.heap[b]?=w1.heap[b]?:=λb hb hl=>hg b hb hl (λe=>Rq b e hb)
 refine⟨QR++ [vv],λb=>Y b\/Z' b,λb=>B1 b\/A b,Q7,hs,?_,λb hb=>QZ b (Rf b hb),?_,?_,?_,?_,?_⟩
 ·rintro b (hb|hb)
  ·exact Q3 b hb
  ·exact QZ b (hA b hb)
 ·rintro b (hb|hb)
  ·exact λh=>Re b hb (Rf b h)
  ·exact hAB b hb
 ·rw[tC hlen];simpa using hrow'
 ·intro b hb h
  rcases hu' with e|⟨g,e,hge⟩
  ·exact Rq b (e▸hb) h
  ·rw[e]at hb
   cases hb
   rcases h with h|h
   ·have:=(hY _ h).1;have:=hb1.size;omega
   ·have:=(hZ _ h).1;omega
 ·refine jq.append (A:=Y) (B:=Z') ?_ ?_ (λb h=> .inl h) (λb h=> .inr h) RA
  ·refine QQ.imp λvv f C _ _ hC h=> ?_
   have QY:∀b,C b->b<wr.heap.size->w2.heap[b]?=wr.heap[b]?:=λb hb hl=>(hk b (.inl (hC b hb)) (aC hl hb1.size)).trans (hb1.block b hl)
   exact h.keep QY (λ_ _ _ Ro hm=>hm.keep λb hb hl=>QY b (Ro b hb) hl)
  ·have QY:∀b,Z' b->b<w1.heap.size->w2.heap[b]?=w1.heap[b]?:=λb hb hl=>hk b (.inr hb) hl
   exact⟨Z',λ_=>False,hm.keep QY (λ_ _ _ Ro hm=>hm.keep λb hb hl=>QY b (Ro b hb) hl),trivial,λb h=>h,λb h=>h.elim,λb _ h=>h⟩
 ·rintro b (hb|hb)
  ·have q:=hY b hb;have:=hb1.size;exact⟨QD,q.2.imp .inl id⟩
  ·have q:=hZ b hb;exact⟨QD,q.2.imp .inr (λh=>QD)⟩
theorem Ko (HF:vP S k){W:an}{x0:Int}{x1 x2 x3:Value}{C:ap}(h:gq S (ed S k) w T (x0,x1,x2,x3) f C)(hW:aj w W)
  (hC:∀b,C b->b<w.heap.size):Calls prog 137 #[.agg #[aa x0,x1,x2,x3]] W (qK k W C f.2):=by
 have RB:gq S (ed S k) W T (x0,x1,x2,x3) f C:=gq.keep (λ_ _ _ _ _ h=>ed.keep h λb _ hl=>hW.block b hl) (λb _ hl=>hW.block b hl) h;have:=MC HF RB (λb hb=>aC (hC b hb) hW.size);exact this
theorem Fr (HF:vP S k):vP S (k+1):=by
 intro T w Z db m h;obtain⟨sv,uv,l,Y0,hy,hs⟩:=h;obtain⟨i0,RK,RL,Rb,Q6⟩:=info_parts Tryz.infoF;obtain⟨sa,sc,rfl⟩:=iW hy.c.row;obtain⟨ua,n1,uc,rfl⟩:=dL hy.un;have Rr:∀w':an,aj w w'->(convert 140 9 (.slice ua n1 uc)).run prog w'= .ok (ae m.unk) w':=λw' hb=>Fq (eF hb hy.un)
 have hlen:Hid (l.length=m.fs.length):=hs.len;have hle:l.length<=m.fs.length/\m.fs.length<=l.length:=by have:=hlen.out;omega
 have hlc:l.length<=1073741824:=hy.c.len;have KD:=hy.c.blk;have B0:aj w (w.alloc (ak #[ah,ae ⟨#[]⟩] 49)):=(Below.refl w.heap.size w).alloc (ay _) _;have B1:aj w ((w.alloc (ak #[ah,ae ⟨#[]⟩] 49)).alloc (ak #[ah,ae m.unk] 49)):=B0.alloc B0.size _;have Rg:=Rr _ B0;have KR:=(dK.new w #[ah,ae ⟨#[]⟩] 49).alloc (ak #[ah,ae m.unk] 49);have KA:=dK.newAt (w:=w.alloc (ak #[ah,ae ⟨#[]⟩] 49)) (n:=w.heap.size+1) QE #[ah,ae m.unk] 49;obtain⟨d1,d2⟩:=(KD.below B0 KD.lt).rules;obtain⟨d3,d4⟩:=(KD.below B1 KD.lt).rules;go_enter func85,ntmps85;go_wp2;clear d1 d2 d3 d4 Rg Rr B0;generalize(w.alloc (ak #[ah,ae ⟨#[]⟩] 49)).alloc (ak #[ah,ae m.unk] 49)=wB at*;have hN:w.heap.size+2<=wB.heap.size:=KA.lt
 go_loopw [5,17] (λ_ i wr=>∃(q:Nat) (u:Value),q<=l.length/\i=aa q/\dK wr w.heap.size #[ah,ae ⟨#[]⟩] 49/\dK wr (w.heap.size+1) #[u,ae m.unk] 49/\
  zW S k T w (w.heap.size+2) Y0 wr u (m.fs.take q) (l.drop q) (m.fs.drop q)/\aj w wr) (λ_ i _=>l.length-(intOf i).toNat)
 case atStart=>exact⟨0,_,aM _,rfl,KR,KA,zW.start hs,B1⟩
 case round=>
  obtain⟨q,u,hq,rfl,KR,KA,QW,Rc⟩:=hrel
  by_cases hlt:q<l.length
  ·obtain⟨x,hx⟩:=gx hlt;obtain⟨f,hf⟩:=gx (l:=m.fs) (i:=q) QD;obtain⟨gf,rfl,_,Rp,QU⟩:=eh hy.c.row QD;have Q5:=QU wr (Rc.block gf Rp);have t0:=Q5 (q*4+0) _ (fL dY 4 fS l q x hx 0 QD);have t1:=Q5 (q*4+1) _ (fL dY 4 fS l q x hx 1 QD);have t2:=Q5 (q*4+2) _ (fL dY 4 fS l q x hx 2 QD);have t3:=Q5 (q*4+3) _ (fL dY 4 fS l q x hx 3 QD);rw[Nat.add_zero]at t0;have e1:l.drop q=x::l.drop (q+1):=by rw[aZ hlt];congr 1;exact Option.some.inj ((aK hlt).symm.trans hx)
   have e2:m.fs.drop q=f::m.fs.drop (q+1):=by rw[aZ QD];congr 1;exact Option.some.inj ((aK QD).symm.trans hf)
   have e3:Hid (m.fs.take (q+1)=m.fs.take q++ [f]):=by show _=_;rw[bB,hf];rfl
   rw[e1,e2]at QW;obtain⟨QR,Y,B1',B2,RM,Q3,QZ,Re,Q4,QT,QQ,hY⟩:=QW;obtain⟨C,Q7,QV,RN,hC,Rf,RO⟩:=RM;obtain⟨⟨xa,xn,xc,hx1⟩,⟨Q0,Q1,Q2,Rw⟩,xo,Rx⟩:=hy.c.form x (aI hx);obtain⟨x0,x1,x2,x3⟩:=x;simp only at hx1 Rw Rx;subst hx1 Rw Rx;have Rh:f.1=x0:=QV.1.symm;have Rs:∀b,C b->b<w.heap.size:=λb hb=>hy.yl b (QZ b (hC b hb))
   have Ri:Hid (∀W:an,aj w W->Calls prog 137 #[.agg #[aa x0,.slice xa xn xc,.slice Q0 Q1 Q2,.map xo]] W (qK k W C f.2)):=λW hW=>Ko HF QV hW Rs
   have B4:=Rc.alloc Rc.size (ak #[aa x0,.slice xa xn xc,.slice Q0 Q1 Q2,.map xo] 249);obtain⟨Ry,KB⟩:=dR wr #[aa x0,.slice xa xn xc,.slice Q0 Q1 Q2,.map xo] 249;have RC:=KR.alloc (ak #[aa x0,.slice xa xn xc,.slice Q0 Q1 Q2,.map xo] 249);have RD:=KA.alloc (ak #[aa x0,.slice xa xn xc,.slice Q0 Q1 Q2,.map xo] 249);have RE:(m.fs.take q).length<=1073741824:=by rw[bn];omega
   have hua:w.heap.size+2<=wr.heap.size:=KA.lt;clear QU Q5 e1 e2 QV hx hf;generalize m.fs.take q=D at Q4 QQ RE e3;obtain⟨ub,un,QX,rfl⟩:=dL Q4;have Rj:∀b,(Value.slice ub un QX).ownBlock=some b->w.heap.size+2<=b:=λb hb=>(Q4.lt b hb).1
   go_upto_region 5 with fail
   clear t0 t1 t2 t3;generalize wr.alloc (ak #[aa x0,.slice xa xn xc,.slice Q0 Q1 Q2,.map xo] 249)=w4 at*;have Rk:=RD.drew;have Q9:=KB.drew;have Rt:=RC.drew;have HC:Hid (Calls prog 137 #[.agg #[aa x0,.slice xa xn xc,.slice Q0 Q1 Q2,.map xo]] w4.drew (qK k w4.drew C f.2)):=Ri.out w4.drew B4.drew;have Rl:w4.drew.ownsRow (w.heap.size+2) 58 2 (.slice ub un QX) D.length (qe QR D):=eF Ry.drew Q4;have HO:Hid (some (w.heap.size+1)≠(Value.slice ub un QX).ownBlock):=λe=>by have:=Rj _ e.symm;omega
   have HB:Hid (some wr.heap.size≠(Value.slice ub un QX).ownBlock):=λe=>by have:=(Q4.lt _ e.symm).2;omega
   have HW:Hid (w.heap.size+1≠wr.heap.size):=λe=>QD
   have RF:Hid (some w.heap.size≠(Value.slice ub un QX).ownBlock):=λe=>by have:=Rj _ e.symm;omega
   obtain⟨p1,p2⟩:=Rk.rules;obtain⟨p3,p4⟩:=Q9.rules;have zr:wr.heap.size<w4.drew.heap.size:=Q9.lt;go_region_law (first|(refine step_append_lies _ QJ _ _ _ QJ (w.heap.size+2) 58 i0 _ 2 32 underlying47 RK RL Rb Q6 rfl QD (.slice ub un QX) D.length (qe QR D) QJ (Rn.alloc _) (ai w5.heap.size 0) 1 1 [_,_] QJ QJ (br (dK.new _ _ _)) QL QD QK QD QF (w5.heap.size+1) QE ?_;intro gg cap w6 Q8 QP RP hlt6;have Ru:=(Rm.alloc _).grown QP HO.out;obtain⟨r1,r2⟩:=Ru.rules)|(go_simp;go_at_call 137;refine HC.out.mono ?_;rintro e w5 ⟨vv,Z',rfl,Rz,hZ,b5⟩;obtain⟨va,vc,rfl⟩:=Rz.form;have Rm:=Rk.below b5 Rk.lt;have RG:=Q9.below b5 Q9.lt;have Rn:=eF b5 Rl;have z5:=b5.size;obtain⟨q1,q2⟩:=Rm.rules;obtain⟨q3,q4⟩:=RG.rules;obtain⟨y3,y4,y5,y6⟩:=fT (w:=w5) (b:=w.heap.size+1) Rm.lt))
   all_goals
    go_wp2;go_roundw
    case rel=>
     have RH:=QP.size;simp only[ck]at RH
     have RI:∀b,(Y b\/Z' b)->w.heap.size+1≠b:=by
      rintro b (hb|hb) e
      ·rcases(hY b hb).2 with h|h
       ·have:=hy.yl b (Q3 b h);omega
       ·omega
      ·rcases(hZ b hb).2 with h|h
       ·have:=Rs b h;omega
       ·omega
     refine⟨q+1,_,QD,by go_num,(((Rt.below b5 Rt.lt).alloc _).grown QP RF.out).other 0 _ QD,Ru.set 0 _,?_,?_⟩
     ·rw[e3.out];refine zW.step (λb hb=>by have:=hy.yl b hb;omega) QD RN hC Rf RO Q3 QZ Re Q4 QT QQ hY (w1:=w5) (dG Ry.drew b5) Rz (λb hb=>⟨(hZ b hb).1,(hZ b hb).2.imp id (λh=>QD)⟩) ?_ ?_ ?_ ?_
      ·intro b hb hl Ra;rw[dJ,dA (RI b hb)];exact(QP.block b QF (λe=>Ra e.symm)).trans (Below.heap_alloc _ _ b hl)
      ·simp only[cp];omega
      ·have:=ownsRow_setCell_below Q8 (a:=(ai (w.heap.size+1) 0)) QE (.slice (some (ai gg 0)) (D.length+1) cap);simpa [qe,Rh]using this
      ·rcases RP with h|h
       ·exact .inl h.symm
       ·exact .inr ⟨gg,rfl,QD⟩
     ·have z4:w.heap.size<=w5.heap.size:=QD;exact(((dG B4.drew b5).alloc z4 _).grown QP (by rw[ck];omega) (λj hj=>by have:=Rj j hj;omega)).setCell (p:=(ai (w.heap.size+1) 0)) (bI _) _
    case measure=>simp[intOf];omega
  ·have hli:decide ((q:Int)<(l.length:Int))=false:=QF;obtain rfl:q=l.length:=QD;rw[co,hlen.out,bg,co]at QW;obtain⟨Z',Rb,Q6⟩:=QW.done;obtain⟨ub,QX,rfl⟩:=Rb.form;obtain⟨p1,p2⟩:=KA.rules;obtain⟨p3,p4⟩:=KR.rules;go_wp2
   have QY:∀b,Z' b->b<wr.heap.size->((wr.setCell (ai w.heap.size 0) (.slice ub m.fs.length QX)).setCell (ai w.heap.size 1) (ae m.unk)).heap[b]?=wr.heap[b]?:=λb hb _=>by
    have Ra:w.heap.size≠b:=λe=>by
     rcases(Q6 b hb).2 with h|h
     ·have:=hy.yl b h;omega
     ·omega
    rw[dJ,dA Ra,dJ,dA Ra]
   refine dE (dZ results85 _ _ rfl ((KR.set 0 _).set 1 _) underlying49 QI) rfl ⟨_,Z',rfl,Rb.keep QY,λb hb=>⟨by simp only[cp];exact(Q6 b hb).1,(Q6 b hb).2.imp (hy.yz b) (λh=>QD)⟩,(Rc.setCell (p:=(ai w.heap.size 0)) (ay _) _).setCell (p:=(ai w.heap.size 1)) (ay _) _⟩
theorem vQ:∀k,vP S k
 |0=>λ_ _ _ _ _ h=>h.elim
 |k+1=>Fr (vQ k)
end
end
section
open Go.Maps
attribute [local go_sem↓] Go.wp_at_zero Go.wp_at_succ
def lu (w:an)(R:Fx PM)(e:Ending)(w':an):Prop:=
 match R with
 | .error x=>e=dI x.1 x.2/\aj w w'
 | .ok m=>∃v Z',e= .returned (.agg #[v,ae m.unk])/\o0 9 w' v m Z'/\(∀b,Z' b->w.heap.size<=b/\b<w'.heap.size)/\aj w w'
def el.belowW {w w':an}{Z Z':ap}{rb:Nat}(h:el w Z rb w' Z'){n:Nat}(hn:n<=w.heap.size)(hZ:∀x,Z x->n<=x)(hr:n<=rb):Below n w w':=
 ⟨h.os,h.tape,h.output,h.size,λi hi=>h.block i (aC hi hn) (λq=>by have:=hZ i q;omega) QD⟩
def Dq (S:d8)(mp:am->Option Nat)(B:Nat)(b:am)(hS:Bt S)(hbs:b.size<=268435456)(w:an)(d:MT)(mb:Nat)(gs:List GF)(nm:am)(cx:rC w B S mp)(hM:iF w (λb=>b<B) mp mb nm gs)
  (hG:kc S mp d gs) (hgd:kU S d):
  Calls prog 47 #[ag mb,ae b] w (lu w (ew S b (b.size+1) d PM.none 0 b.size 1)):=by
 have hex:b.extract 0 b.size=b:=QE;have QX:=cx.le;have B1:aj w (w.alloc (ak #[ah,ae ⟨#[]⟩] 49)):=(Below.refl _ _).alloc (ay _) _;have B2:=B1.alloc QE (ak #[ah,ah] 183);have B3:=B2.alloc QF (ak #[ae b,aa 0,aa 1] 244);have KR:=((dK.new w #[ah,ae ⟨#[]⟩] 49).alloc (ak #[ah,ah] 183)).alloc (ak #[ae b,aa 0,aa 1] 244);have KD:=(dK.newAt (w:=w.alloc (ak #[ah,ae ⟨#[]⟩] 49)) (n:=w.heap.size+1) QE #[ah,ah] 183).alloc (ak #[ae b,aa 0,aa 1] 244);have KW:=dK.newAt (w:=(w.alloc (ak #[ah,ae ⟨#[]⟩] 49)).alloc (ak #[ah,ah] 183)) (n:=w.heap.size+1+1) QE #[ae b,aa 0,aa 1] 244;have QP:=GJ ((w.alloc (ak #[ah,ae ⟨#[]⟩] 49)).alloc (ak #[ah,ah] 183)) b;simp only[ck]at QP;go_enter func47,ntmps47;go_wp2_with fail;refine QP.mono ?_;rintro e w' ⟨rfl,rfl⟩;have hsz:w.heap.size+3=(((w.alloc (ak #[ah,ae ⟨#[]⟩] 49)).alloc (ak #[ah,ah] 183)).alloc (ak #[ae b,aa 0,aa 1] 244)).heap.size:=QE;clear QP B1 B2;go_wp2_with fail;generalize(((w.alloc (ak #[ah,ae ⟨#[]⟩] 49)).alloc (ak #[ah,ah] 183)).alloc (ak #[ae b,aa 0,aa 1] 244))=w3 at*;have BB:Below B w w3:=⟨B3.os,B3.tape,B3.output,B3.size,λi hi=>B3.block i (aC hi QX)⟩
 have QR:=xp S mp B b hS hbs (b.size+1) w3 (λx=>x=w.heap.size+1) d PM.none 0 b.size 1 7 mb gs nm (w.heap.size+1+1) (w.heap.size+1) (cx.on BB) (hM.keep (λx q _=>BB.block x q)) hG hgd (by rw[hex];exact KW) (ed.fresh KD)
  (λx hx=>by subst hx;omega) QD QD (aM _) (ay _) QD rfl (WM.none _ _ _)
 refine QR.mono ?_;intro e w4 hq
 rcases hq.part with⟨x,hP,rfl,Z',st⟩|⟨m',hP,rfl,Z',st,hdr⟩
 ·unfold dI;go_wp2;exact⟨rfl,rfl,B3.trans (st.belowW QD (λx hx=>QD) QD)⟩
 ·have B4:aj w w4:=B3.trans (st.belowW QD (λx hx=>QD) QD);have QS:dK w4 w.heap.size #[ah,ae ⟨#[]⟩] 49:=(st.block w.heap.size QD QD QD).trans KR;have z4:=st.size;have hg:=st.grow;clear QR hq st;go_wp2_with fail;refine(vQ (S:=S) 8 (some d) w4 Z' (w.heap.size+1) m' hdr).mono ?_;rintro e w5 ⟨v,Z2,rfl,hm,QV,QW⟩;obtain⟨va,vc,rfl⟩:=hm.form;have QT:=QS.below QW QS.lt;obtain⟨r1,r2⟩:=QT.rules
  have QQ:∀x,Z2 x->w.heap.size<x:=λx hx=>by
   rcases(QV x hx).2 with h|h
   ·rcases hg x h with h|h
    ·omega
    ·omega
   ·omega
  go_wp2
  have QY:∀x,Z2 x->x<w5.heap.size->((w5.setCell (ai w.heap.size 0) (.slice va m'.fs.length vc)).setCell (ai w.heap.size 1) (ae m'.unk)).heap[x]?=w5.heap[x]?:=λx hx _=>by
   have QU:w.heap.size≠x:=by have:=QQ x hx;omega
   rw[dJ,dA QU,dJ,dA QU]
  rw[hP];refine dE (dZ results47 _ _ rfl ((QT.set 0 _).set 1 _) underlying49 QI) rfl ⟨_,Z2,rfl,hm.keep QY,λx hx=>⟨bG (QQ x hx),by simp only[cp];exact(QV x hx).1⟩,?_⟩;exact((dG B4 QW).setCell (p:=(ai w.heap.size 0)) (ay _) _).setCell (p:=(ai w.heap.size 1)) (ay _) _
def H7 (w:an)(kp mk n:Nat)(pm:am->Option Nat):Prop:=dK w kp #[.int .i32 0,.int .u32 0,.map (some mk)] 170/\fR w mk n pm
def Fs (w:an):Calls prog 37 #[] w λe w'=>∃kp mk,e= .returned (ag kp)/\H7 w' kp mk 0 (λ_=>none)/\w.heap.size<=kp/\w.heap.size<=mk/\mk≠kp/\aj w w':=by
 have hmm:= @run_makeMap prog;go_enter func37,ntmps37;go_wp2;go_ret;refine⟨_,_,rfl,⟨dK.newAt QE _ _,?_⟩,bI _,ay _,QD,((Below.refl w.heap.size w).alloc (ay _) _).alloc QE _⟩;exact(fR.made w).keep (Below.heap_alloc _ _ _ QE)
end
section
open Go.Maps
def eV.keep {w w':an}{P:ap}{v:Value}{bs:List dO}{y:List YM}(hk:∀b,P b->b<w.heap.size->w'.heap[b]?=w.heap[b]?)(h:eV w P v bs y):eV w' P v bs y:=
 ⟨h.row.keep hk,h.names,λm hm=>(h.msg m hm).keep hk,h.g⟩
def eV.mono {w:an}{P Q:ap}{v:Value}{bs:List dO}{y:List YM}(hs:∀b,P b->b<w.heap.size->Q b)(h:eV w P v bs y):eV w Q v bs y:=
 ⟨h.row.mono hs,h.names,λm hm=>(h.msg m hm).mono hs,h.g⟩
def BO (w:an)(sb kp mk:Nat)(bs:List dO)(lo:Nat):Prop:=
 ∃v y,dK w sb #[v,ag kp] 92/\(lo<=sb/\lo<=kp/\lo<=mk/\sb≠kp/\sb≠mk/\mk≠kp)/\eV w (λb=>lo<=b/\b≠sb/\b≠kp/\b≠mk) v bs y/\H7 w kp mk 0 (λ_=>none)
def Kq (w:an)(r:Except (Int×Nat) (List dO))(e:Ending)(w':an):Prop:=
 (match r with
 | .error (k,p)=>e=dI k p
 | .ok bs=>∃sb kp mk,e= .returned (ag sb)/\BO w' sb kp mk bs w.heap.size)/\aj w w'
def NL (w:an)(tb:Nat)(t:am)(hmax:t.size<=140737488355328)(hc:w.cell? (ai tb 0)=some (ae t))(hg:GOK w)(hbo:BOK w):
  Calls prog 34 #[ag tb] w (Kq w (iw t)):=by
 generalize hr:iw t=r;have HR:Hid (iw t=r):=hr;clear hr;go_enter func34,ntmps34;go_wp2_with fail;refine(Qn _ t hmax hg).mono ?_
 cases h:iw t with
 |error q=>
  obtain⟨k,p⟩:=q;rintro e w2 ⟨he,QP⟩;obtain rfl:e=dI k p:=he;obtain rfl:r= .error (k,p):=HR.out.symm.trans h;unfold dI;go_wp2;exact⟨rfl,rfl,QP⟩
 |ok bs=>
  rintro e w2 ⟨⟨a,n,c,cs,rfl,QT,Q5⟩,QP⟩;have OK:=qA h;obtain rfl:n=bs.length:=eI QT.1;obtain rfl:r= .ok bs:=HR.out.symm.trans h;go_wp2_with fail;refine(JO w2 a c bs cs _ QT Q5 OK (hg.keep (QP.block _ hg.lt)) (hbo.keep (QP.block _ hbo.lt))).mono ?_;rintro e w3 ⟨v,y,rfl,hM,Q6⟩;obtain⟨va,vn,vc,rfl⟩:=dL hM.row.1;have C3:=er QP Q6;go_wp2_with fail;refine(Fs w3).mono ?_;rintro e w4 ⟨kp,mk,rfl,hK,hkp,hmk,Q7,QU⟩;have C4:=er C3 QU;have z3:=C3.size;have z2:=QP.size;have zk:=hK.1.lt;have zm:=hK.2.lt;go_wp2;go_ret;refine⟨⟨w4.heap.size,kp,mk,rfl,_,y,dK.new w4 _ _,⟨C4.size,QD,QD,QD,QD,Q7⟩,?_,(hK.1.alloc _),hK.2.keep (Below.heap_alloc _ _ _ zm)⟩,C4.alloc C4.size _⟩;have QV:=hM.mono (Q:=λb=>w.heap.size<=b/\b<w3.heap.size) (λx hx hl=>⟨QD,hl⟩);have h5:=QV.keep (w':=w4) (λx _ hl=>QU.block x hl);have h6:=h5.mono (Q:=λb=>w.heap.size<=b/\b≠w4.heap.size/\b≠kp/\b≠mk) (λx hx hl=>⟨hx.1,QD,QD,QD⟩);exact h6.keep (λx _ hl=>Below.heap_alloc _ _ _ hl)
def Kr (k p:Int)(w:an):(Instr.typeAssert (.iface 142 (.agg #[aa k,aa p])) 20 142 true).run prog w= .ok (.tuple #[.agg #[aa k,aa p],.bool true]) w:=QI
def tE (x y v:Value): #[x,y]++(((Array.replicate 18 undef).setIfInBounds 3 v).setIfInBounds 0 v)= #[x,y,v,undef,undef,v,undef,undef,undef,undef,undef,undef,undef,undef,undef,undef,undef,undef,undef,undef]:=QI
def H8 (a b:Addr)(w:an):
  CallsD prog 65 #[.pointer (some a),.pointer (some b)] .returning w λe u' w'=>e= .returned (.tuple #[])/\u'= .returning/\w'=w:=by
 refine callsD_of_wpS func65 rfl λc₀ cs hu=> ?_
 apply wpS_seq;apply wpS_region;simp[wpOpsS,go_sem,recoverD,hu,ntmps65,Exit.thenS];refine wpS_of_wp ?_;rw[tE];go_wp2
 cases c₀
 simp_all [bodyPostS,results,results65]
def Dr (ab bb:Nat)(k p:Int)(older:List PanicEntry)(w:an)(x y:Value)(ha:w.cell? (ai ab 0)=some x)(hb:w.cell? (ai bb 0)=some y)(fa:w.frozen? (ai ab 0)=false)(fb:w.frozen? (ai bb 0)=false)(hab:¬ab=bb):
  CallsD prog 65 #[ag ab,ag bb] (.panicking ({v:= .iface 142 (.agg #[aa k,aa p]),recovered:=false}::older)) w λe u' w'=>
   e= .returned (.tuple #[])/\u'= .panicking ({v:= .iface 142 (.agg #[aa k,aa p]),recovered:=true}::older)/\
    w'=(((w.setCell (ai ab 0) (aa k)).setCell (ai bb 0) (aa p)).alloc (ak #[aa k,aa p] 142)).drew:=by
 have hta:=Kr k p;have la:=aP _ _ ha;have lb:=aP _ _ hb;simp only at la lb;obtain⟨p1,p2,p3,p4⟩:=fT (w:=w) (b:=ab) la;obtain⟨s1,s2,s3,s4⟩:=fT (w:=w) (b:=bb) lb;have hba:¬bb=ab:=λe=>hab e.symm
 refine callsD_of_wpS func65 rfl λc₀ cs hu=> ?_
 apply wpS_seq;apply wpS_region;simp[wpOpsS,go_sem,recoverD,hu,ntmps65,Exit.thenS];refine wpS_of_wp ?_;rw[tE];go_wp2;go_region
 exact⟨rfl,_,rfl,.tuple #[],by simp[results,results65],rfl,rfl,rfl⟩
def BP (w:an)(r:Except (Int×Nat) (List dO))(e:Ending)(w':an):Prop:=
 (match r with
 | .error (k,p)=>e= .returned (.tuple #[.pointer none,aa k,aa p])
 | .ok bs=>∃sb kp mk,e= .returned (.tuple #[ag sb,aa 0,aa 0])/\BO w' sb kp mk bs w.heap.size)/\aj w w'
def NM (w:an)(tb:Nat)(t:am)(hmax:t.size<=140737488355328)(hc:w.cell? (ai tb 0)=some (ae t))(hg:GOK w)(hbo:BOK w):
  Calls prog 33 #[.func (Fn.func 34) #[] #[ag tb]] w (BP w (iw t)):=by
 have hmf:= @ti;generalize hr:iw t=r;have HR:Hid (iw t=r):=hr;clear hr;have QW:=aP _ _ hc;have B0:=((Below.refl w.heap.size w).alloc (ay _) (ak #[aa 0] 24)).alloc QE (ak #[aa 0] 3);go_enter_defers func33,ntmps33
 have QX:((w.alloc (ak #[aa 0] 24)).alloc (ak #[aa 0] 3)).cell? (ai tb 0)=some (ae t):=(B0.cell (p:=(ai tb 0)) QW).trans hc;have QY:GOK ((w.alloc (ak #[aa 0] 24)).alloc (ak #[aa 0] 3)):=hg.keep (B0.block _ hg.lt);have QR:BOK ((w.alloc (ak #[aa 0] 24)).alloc (ak #[aa 0] 3)):=hbo.keep (B0.block _ hbo.lt);have K0:=(dK.new w #[aa 0] 24).alloc (ak #[aa 0] 3)
 have K1:dK ((w.alloc (ak #[aa 0] 24)).alloc (ak #[aa 0] 3)) (w.heap.size+1) #[aa 0] 3:=by
  have:=dK.new (w.alloc (ak #[aa 0] 24)) #[aa 0] 3;simpa using this
 go_wp2_with fail;refine(NL _ tb t hmax QX QY QR).mono ?_
 cases h:iw t with
 |error q=>
  obtain⟨k,p⟩:=q;rintro e w2 ⟨he,QP⟩;obtain rfl:e=dI k p:=he;obtain rfl:r= .error (k,p):=HR.out.symm.trans h;have K2:=K0.below QP K0.lt;have K3:=K1.below QP K1.lt;have C2:=B0.trans (QP.mono B0.size);obtain⟨k1,k2⟩:=K2.rules;obtain⟨k3,k4⟩:=K3.rules;have z3:=K3.lt;unfold dI;refine leaves_cons (f:=65) (args:= #[ag w.heap.size,ag (w.heap.size+1)]) QE (by simp[go_sem]) ?_;refine(Dr w.heap.size (w.heap.size+1) k p [] w2 _ _ (k1 0) (k3 0) (k2 0) (k4 0) QD).mono ?_;rintro e u' Q8 ⟨rfl,rfl,rfl⟩;have q0:=(((K2.set 0 (aa k)).other (c:=w.heap.size+1) 0 (aa p) QD).alloc (ak #[aa k,aa p] 142)).cell 0;have q1:=(((K3.other (c:=w.heap.size) 0 (aa k) QD).set 0 (aa p)).alloc (ak #[aa k,aa p] 142)).cell 0;have C3:aj w (((w2.setCell (ai w.heap.size 0) (aa k)).setCell (ai (w.heap.size+1) 0) (aa p)).alloc (ak #[aa k,aa p] 142)).drew:=(((C2.setCell (p:=(ai w.heap.size 0)) (ay _) (aa k)).setCell (p:=(ai (w.heap.size+1) 0)) (bI _) (aa p)).alloc (by simp[World.setCell];omega) _).drew;simp at q0 q1;simp[Leaves,settle,results,results33,go_sem,q0,q1];exact⟨rfl,C3⟩
 |ok bs=>
  rintro e w2 ⟨⟨sb,kp,mk,rfl,QS⟩,QP⟩;obtain rfl:r= .ok bs:=HR.out.symm.trans h;have K2:=K0.below QP K0.lt;have K3:=K1.below QP K1.lt;have C2:=B0.trans (QP.mono B0.size);obtain⟨k1,k2⟩:=K2.rules;obtain⟨k3,k4⟩:=K3.rules;have z3:=K3.lt;go_wp2;refine leaves_cons (f:=65) (args:= #[ag w.heap.size,ag (w.heap.size+1)]) QE (by simp[go_sem]) ?_;refine(H8 (ai w.heap.size 0) (ai (w.heap.size+1) 0) _).mono ?_;rintro e u' Q8 ⟨rfl,rfl,rfl⟩;have q0:=((K2.set 0 (aa 0)).other (c:=w.heap.size+1) 0 (aa 0) QD).cell 0;have q1:=((K3.other (c:=w.heap.size) 0 (aa 0) QD).set 0 (aa 0)).cell 0;have C3:aj w ((w2.setCell (ai w.heap.size 0) (aa 0)).setCell (ai (w.heap.size+1) 0) (aa 0)):=(C2.setCell (p:=(ai w.heap.size 0)) (ay _) (aa 0)).setCell (p:=(ai (w.heap.size+1) 0)) (bI _) (aa 0)
  have QZ:BO ((w2.setCell (ai w.heap.size 0) (aa 0)).setCell (ai (w.heap.size+1) 0) (aa 0)) sb kp mk bs w.heap.size:=by
   obtain⟨v,y,h1,⟨h3,h4,h5,h6,h7,h8⟩,hM,hK⟩:=QS;have Q0:w.heap.size+2<=sb:=by simpa using h3
   have Q1:w.heap.size+2<=kp:=by simpa using h4
   have Q2:w.heap.size+2<=mk:=by simpa using h5
   have QQ:∀x,w.heap.size+2<=x->((w2.setCell (ai w.heap.size 0) (aa 0)).setCell (ai (w.heap.size+1) 0) (aa 0)).heap[x]?=w2.heap[x]?:=λx hx=>by rw[dJ,dA QD,dJ,dA QD]
   have Q3:=hM.keep (w':=((w2.setCell (ai w.heap.size 0) (aa 0)).setCell (ai (w.heap.size+1) 0) (aa 0))) (λx hx _=>QQ x (by simpa using hx.1))
   have Q4:=Q3.mono (Q:=λb=>w.heap.size<=b/\b≠sb/\b≠kp/\b≠mk) (λx hx _=>by
    have h9:w.heap.size+2<=x:=by simpa using hx.1
    exact⟨QD,hx.2⟩)
   exact⟨v,y,(QQ sb Q0).trans h1,⟨QD,QD,QD,h6,h7,h8⟩,Q4,(QQ kp Q1).trans hK.1,hK.2.keep (QQ mk Q2)⟩
  simp at q0 q1;simp[Leaves,settle,results,results33,go_sem,q0,q1];exact⟨⟨sb,kp,mk,rfl,QZ⟩,C3⟩
end
section
open Go.Maps
attribute [local go_sem↓] Go.wp_at_zero Go.wp_at_succ
def Et (w:an)(R:Fx PM)(e:Ending)(w':an):Prop:=
 match R with
 | .error x=>e= .returned (.tuple #[.agg #[ah,ae ⟨#[]⟩],aa x.1,aa x.2])/\aj w w'
 | .ok m=>∃v Z',e= .returned (.tuple #[.agg #[v,ae m.unk],aa 0,aa 0])/\o0 9 w' v m Z'/\(∀b,Z' b->w.heap.size<=b/\b<w'.heap.size)/\aj w w'
def Ks (a b:Addr)(w:an):
  CallsD prog 82 #[.pointer (some a),.pointer (some b)] .returning w λe u' w'=>e= .returned (.tuple #[])/\u'= .returning/\w'=w:=by
 refine callsD_of_wpS func82 rfl λc₀ cs hu=> ?_
 apply wpS_seq;apply wpS_region;simp[wpOpsS,go_sem,recoverD,hu,ntmps82,Exit.thenS];refine wpS_of_wp ?_;rw[tE];go_wp2
 cases c₀
 simp_all [bodyPostS,results,results82]
def Fu (ab bb:Nat)(k p:Int)(older:List PanicEntry)(w:an)(x y:Value)(ha:w.cell? (ai ab 0)=some x)(hb:w.cell? (ai bb 0)=some y)(fa:w.frozen? (ai ab 0)=false)(fb:w.frozen? (ai bb 0)=false)(hab:¬ab=bb):
  CallsD prog 82 #[ag ab,ag bb] (.panicking ({v:= .iface 142 (.agg #[aa k,aa p]),recovered:=false}::older)) w λe u' w'=>
   e= .returned (.tuple #[])/\u'= .panicking ({v:= .iface 142 (.agg #[aa k,aa p]),recovered:=true}::older)/\
    w'=(((w.setCell (ai ab 0) (aa k)).setCell (ai bb 0) (aa p)).alloc (ak #[aa k,aa p] 142)).drew:=by
 have hta:=Kr k p;have la:=aP _ _ ha;have lb:=aP _ _ hb;simp only at la lb;obtain⟨p1,p2,p3,p4⟩:=fT (w:=w) (b:=ab) la;obtain⟨s1,s2,s3,s4⟩:=fT (w:=w) (b:=bb) lb;have hba:¬bb=ab:=λe=>hab e.symm
 refine callsD_of_wpS func82 rfl λc₀ cs hu=> ?_
 apply wpS_seq;apply wpS_region;simp[wpOpsS,go_sem,recoverD,hu,ntmps82,Exit.thenS];refine wpS_of_wp ?_;rw[tE];go_wp2;go_region
 exact⟨rfl,_,rfl,.tuple #[],by simp[results,results82],rfl,rfl,rfl⟩
def yc {fn:Func}{p q r:Tmp}{ty ty' ty'':TypeId}{b b1 b2:Nat}{cs:Array Value}{fs:Array Field}{v1 v2:Value}(h:fn.results= #[.cell p ty,.cell q ty',.cell r ty''])(tmps:Array Value)(W:an)
  (hp:tmps.getD p undef=ag b) (hq:tmps.getD q undef=ag b1) (hr:tmps.getD r undef=ag b2) (K:dK W b cs ty)
  (hu:prog.underlying ty=some (.struct fs)) (hi:(prog.info? ty).map (·.size)=some cs.size) (h1:(loadVar ty' (ai b1 0)).run prog W= .ok v1 W) (h2:(loadVar ty'' (ai b2 0)).run prog W= .ok v2 W):
  (results fn tmps).run prog W= .ok (.tuple #[.agg cs,v1,v2]) W:=by
 have hl:=run_loadVar_row (P:=prog) W b ty ty cs (0,0) _ K hu rfl hi;have QP:tmps[p]?.getD undef=ag b:=by simpa using hp
 have QQ:tmps[q]?.getD undef=ag b1:=by simpa using hq
 have QR:tmps[r]?.getD undef=ag b2:=by simpa using hr
 simp only[results,h];simp[QP,QQ,QR,asAddr,hl,h1,h2]
def Oh (w:an)(y:List YM)(nm:am)(e:Ending)(w':an):Prop:=
 w'=w/\((∃(i:Nat) (m:YM),y[i]?=some m/\(m.1.1.toList==nm.toList)=true/\e= .returned (.tuple #[ag m.1.2,aa 0]))\/
  ((∀m∈y,(m.1.1.toList==nm.toList)=false)/\e= .returned (.tuple #[.pointer none,aa 5])))
def vR (w:an)(sb:Nat)(v kv:Value)(bs:List dO)(y:List YM)(P:ap)(nm:am)(way:Int)(h1:dK w sb #[v,kv] 92)(hM:eV w P v bs y)(hl:y.length<=2001)(hw:way=1\/way=2):
  Calls prog 44 #[ag sb,aa way,ae nm] w (Oh w y nm):=by
 obtain⟨va,vc,rfl⟩:=iW hM.row.1;obtain⟨k1,k2⟩:=h1.rules
 ·go_enter func44,ntmps44
  rcases hw with rfl|rfl
  all_goals
   go_wp2;go_loopw [9,23] (λ_ i wr=>∃(q:Nat),q<=y.length/\i=aa q/\(∀m∈y.take q,(m.1.1.toList==nm.toList)=false)/\wr=w) (λ_ i _=>y.length-(intOf i).toNat)
   case atStart=>exact⟨0,aM _,rfl,QE,rfl⟩
   case round=>
    obtain⟨q,hq,rfl,QR,rfl⟩:=hrel
    by_cases hlt:q<y.length
    ·obtain⟨m,hm⟩:=gx hlt;have QQ:Hid (y.take (q+1)=y.take q++ [m]):=by show _=_;rw[bB,hm];rfl
     obtain⟨g,rfl,_,hgl,QP⟩:=eh hM.row.1 QD;have t0:=QP wr rfl q (gC (some m.1.2)) (by simp[eQ,hm]);unfold gC at t0;obtain⟨fv,fbs,QS,_,_,_⟩:=hM.msg m (aI hm);obtain⟨k3,k4⟩:=QS.rules;clear QP
     cases hc:m.1.1.toList==nm.toList with
     |true=>
      have HM:Hid (y[q]?=some m):=hm;clear hm;go_wp2;go_ret2;exact⟨rfl,.inl ⟨q,m,HM.out,hc,rfl⟩⟩
     |false=>
      clear hm;go_wp2;go_roundw
      case rel=>
       refine⟨q+1,QD,by go_num,?_,trivial⟩;rw[QQ.out];intro x hx
       rcases aV.1 hx with hx|hx
       ·exact QR x hx
       ·rw[bJ.1 hx];exact hc
      case measure=>simp[intOf];omega
    ·have hli:decide ((q:Int)<(y.length:Int))=false:=QF;obtain rfl:q=y.length:=QD;rw[bg]at QR;go_wp2;go_ret2;exact⟨rfl,.inr ⟨QR,rfl⟩⟩
def MD (R:Fx PM)(w:an)(q0 q1 q2 q3 mb:Nat)(b:am)(hc0:w.cell? (ai q0 0)=some (aa 1))(hc1:w.cell? (ai q1 0)=some (ag mb))(hc2:w.cell? (ai q2 0)=some (ae b))
  (h:∀w0,aj w w0->Calls prog 47 #[ag mb,ae b] w0 (lu w0 R)):
  Calls prog 46 #[ag q0,ag q1,ag q2,ag q3] w (lu w R):=by
 obtain⟨B0,KM⟩:=dR w #[ah,ae ⟨#[]⟩] 49;have d0:=(B0.cell (p:=(ai q0 0)) (aP _ _ hc0)).trans hc0;have d1:=(B0.cell (p:=(ai q1 0)) (aP _ _ hc1)).trans hc1;have d2:=(B0.cell (p:=(ai q2 0)) (aP _ _ hc2)).trans hc2;have HC:Hid (Calls prog 47 #[ag mb,ae b] _ (lu _ R)):=h _ B0;clear h;go_enter func46,ntmps46;go_wp2_with fail;generalize w.alloc (ak #[ah,ae ⟨#[]⟩] 49)=w1 at*;refine HC.out.mono ?_
 cases R with
 |error x=>
  rintro e w2 ⟨rfl,QP⟩;unfold dI;go_wp2;exact⟨rfl,rfl,dG B0 QP⟩
 |ok m=>
  rintro e w2 ⟨v,Z',rfl,hm,hZ,QP⟩;obtain⟨va,vc,rfl⟩:=hm.form;have QQ:=KM.below QP KM.lt;have C2:=dG B0 QP;have z1:=KM.lt;obtain⟨k5,k6⟩:=QQ.rules;clear d0 d1 d2 hc0 hc1 hc2;go_wp2
  have QR:=hm.keep (w':=(w2.setCell (ai w.heap.size 0) (.slice va m.fs.length vc)).setCell (ai w.heap.size 1) (ae m.unk)) (λx hx _=>by
   have:=(hZ x hx).1
   rw[dJ,dA QD,dJ,dA QD])
  exact dE (dZ results46 _ _ rfl ((QQ.set 0 _).set 1 _) underlying49 QI) rfl ⟨_,Z',rfl,QR,λx hx=>⟨by have:=(hZ x hx).1;omega,by simp only[cp];exact(hZ x hx).2⟩,(C2.setCell (p:=(ai w.heap.size 0)) (ay _) _).setCell (p:=(ai w.heap.size 1)) (ay _) _⟩
def sI {fn:Func}{p q r:Tmp}{ty:TypeId}{b:Nat}{cs:Array Value}{fs:Array Field}(h:fn.results= #[.cell p ty,.tmp q,.tmp r])(tmps:Array Value)(W:an)(hp:tmps.getD p undef=ag b)(K:dK W b cs ty)
  (hu:prog.underlying ty=some (.struct fs)) (hi:(prog.info? ty).map (·.size)=some cs.size):
  (results fn tmps).run prog W= .ok (.tuple #[.agg cs,tmps.getD q undef,tmps.getD r undef]) W:=by
 have hl:=run_loadVar_row (P:=prog) W b ty ty cs (0,0) _ K hu rfl hi;have QS:tmps[p]?.getD undef=ag b:=by simpa using hp
 simp only[results,h];simp[QS,asAddr,hl]
end
section
variable {bs:List dO} {t:am} {w:an} {P:ap} {v:Value} {y:List YM}
theorem BQ (h:jt bs)(hm:eM (dX bs) t=true):dH t=1/\eM (fH bs) t=true:=by
 obtain⟨x,hx,QR⟩:=(iG _ _).1 hm;obtain⟨c,hc,rfl⟩:=aQ.1 hx;have QT:=(bN.1 hc).1;exact⟨by rw[<-qH QR];exact h.nm c QT,(iG _ _).2 ⟨_,aQ.2 ⟨c,QT,rfl⟩,QR⟩⟩
theorem Eu (h:((dV bs).msg t).isSome=true):eM (dX bs) t=true:=by
 cases hm:eM (dX bs) t with
 |true=>rfl
 |false=>
  rw[(uY (z:=(dX bs).map λn=>(n,0)) (by rw[bC];simp[Function.comp_def]) hm).1]at h
  cases h
theorem zN (bs:List dO):((dX bs).map λn=>((n,0):am×Nat)).map (·.1)=dX bs:=by rw[bC];simp[Function.comp_def]
theorem H9 (h3:dH t=3)(hk:ii 3 t=true):(ei (mS t)=2->gE t j9=true)/\(gE t j9=true->ei (mS t)=2):=by
 have hm:t.toList∈mz:=by have:=lS h3;simpa [jh]using this
 unfold mS gE;unfold ii at hk;generalize t.toList=l at hm hk
 revert l;decide+kernel
theorem qL (h:jt bs)(h3:dH t=3):(dV bs).base t=mS t:=by
 rw[ug h.ok (zN bs) (.inl h3)];unfold iU;rw[dB h3]
theorem LR (h:jt bs){b:dO}(hb:b∈bs)(he:b.enum=false):kU (dV bs) (nr b):=by
 intro f hf QQ;obtain⟨p,hp,f0,QX,rfl⟩:=sD.1 hf;obtain⟨_,f2,_⟩:=sC (h.ok.shape b hb p hp) QX;rw[f2]at QQ;obtain⟨k3,kg⟩:=vG h hb he hp QX (dC QQ);obtain⟨w1,w2⟩:=H9 k3 kg;refine⟨rD h k3,λe=>w1 ?_,λe=> ?_⟩
 ·rw[<-qL h k3];exact e
 ·show ei ((dV bs).base (jm f0.key))=2;rw[qL h k3];exact w2 e
theorem ME (h:jt bs):Bt (dV bs):=by
 have QU:∀d∈(dV bs).ms,∃b,b∈bs/\b.enum=false/\d=nr b:=λd hd=>by
  obtain⟨b,hb,rfl⟩:=aQ.1 hd;have:=bN.1 hb
  grind
 refine⟨⟨λt ht=> ?_,λd hd=> ?_⟩,λd hd=> ?_⟩
 ·have hk:=BQ h (Eu ht);have:=(sB h (zN bs) (.inr hk)).2 ht;show ei _=2;rw[this];rfl
 ·obtain⟨b,hb,he,rfl⟩:=QU d hd;exact LR h hb he
 ·obtain⟨b,hb,he,rfl⟩:=QU d hd
  cases q:gE (nr b).name eS with
  |false=>rfl
  |true=>
   have h1:=h.nm b hb;rw[qH (gk.1 q:b.name.1.toList=eS.toList)]at h1;exact absurd h1 QH
theorem pP (hM:eV w P v bs y)(h:jt bs){d:MT}(ht:(dV bs).msg t=some d):
  ∃(i:Nat) (m:YM),y[i]?=some m/\wX (kB (y.map (·.1))) t=some m.1.2/\m.1.1=d.name/\m.1.1.toList=t.toList/\iF w (λb=>b<w.heap.size) (kB (y.map (·.1))) m.1.2 d.name m.2/\kc (dV bs) (kB (y.map (·.1))) d m.2/\kU (dV bs) d:=by
 have hz:(y.map (·.1)).map (·.1)=dX bs:=by rw[bC];exact hM.names
 have hm:=Eu (bs:=bs) (t:=t) (by simp_all);obtain⟨i,b,blk,h1,h2,h3,h4⟩:=oJ h.ok hz hm;rw[ht]at h2
 cases h2
 obtain⟨m,QS,hg⟩:=hM.g i b h1;rw[aO,QS]at h3;have e:m.1=(b.name.1,blk):=Option.some.inj h3;have QV:=bN.1 (aI h1);have QW:b.enum=false:=by simp_all
 have hk:=BQ h hm;have QP:=hM.msg m (aI QS);rw[e]at QP
 have hnm:b.name.1.toList=t.toList:=by
  obtain⟨i2,b2,q1,q2,q3⟩:=oH (t:=t) (l:=fW bs) (by
   obtain⟨x,hx,QR⟩:=(iG _ _).1 hm;obtain⟨c,hc,rfl⟩:=aQ.1 hx
   exact⟨c,hc,QR⟩)
  have:(dV bs).msg t=some (nr b2):=q3;rw[ht]at this;have e2:=dF MT.name (Option.some.inj this);have e3:b.name.1=b2.name.1:=e2
  simp_all
 refine⟨i,m,QS,?_,by rw[e];rfl,by simp_all,?_,Od h hz QV.1 QW hg,LR h QV.1 QW⟩
 ·unfold wX;rw[dA QD,h4,e]
 ·rw[e];exact QP.mono λb _ hl=>hl
theorem sJ (hM:eV w P v bs y)(h:jt bs)(hu:UOK w):rC w w.heap.size (dV bs) (kB (y.map (·.1))):=
 ⟨hu,hu.lt1,hu.lt2,ay _,λ_ _ ht=>by
  obtain⟨_,m,_,h1,_,_,h2,h3,_⟩:=pP hM h ht
  grind⟩
end
section
attribute [local go_sem↓] Go.wp_at_zero Go.wp_at_succ
def AH (f:Nat):Value:= .func (.func f) #[] #[]
def Ev (k:Nat):Nat:=if ei k=0 then 182 else if ei k=5 then 352 else 353
def BS (k:Nat):Option Nat:=
 if k=0\/k=9\/k=15 then some 347 else if k=2 then some 348 else if k=4 then some 349 else if k=5 then some 350 else if k=6 then some 351 else none
def mj (w:an)(Q:ap)(k:Nat)(v:Value):Prop:=
 (BS k=none/\v=AH (Ev k))\/∃t nb bb,BS k=some t/\v= .func (.func 447) #[] #[ag nb,ag bb]/\dK w nb #[AH t] 423/\dK w bb #[AH (Ev k)] 489/\Q nb/\Q bb
def mj.keep {w w':an}{Q:ap}{k:Nat}{v:Value}(h:mj w Q k v)(hk:∀b,Q b->b<w.heap.size->w'.heap[b]?=w.heap[b]?):mj w' Q k v:=by
 rcases h with h|⟨t,nb,bb,h1,h2,h3,h4,h5,h6⟩
 ·exact .inl h
 ·exact .inr ⟨t,nb,bb,h1,h2,(hk nb h5 h3.lt).trans h3,(hk bb h6 h4.lt).trans h4,h5,h6⟩
def Ia (w:an)(f t:Nat):Calls prog 444 #[AH f,AH t] w λe w'=>∃nb bb,e= .returned (.func (.func 447) #[] #[ag nb,ag bb])/\
  dK w' nb #[AH t] 423/\dK w' bb #[AH f] 489/\w.heap.size<=nb/\w.heap.size<=bb/\aj w w':=by
 have hmf:= @ti;unfold AH;go_enter func444,ntmps444;go_wp2;go_ret;exact⟨_,_,rfl,dK.newAt QE _ _,(dK.new w _ _).alloc _,QD,ay _,((Below.refl _ _).alloc (ay _) _).alloc QE _⟩
def Oi (w:an)(k:Nat)(e:Ending)(w':an):Prop:=∃v,e= .returned v/\mj w' (λb=>w.heap.size<=b) k v/\aj w w'
def Ds (w:an)(k:Nat)(hn:eK k=true):Calls prog 437 #[aa k] w (Oi w k):=by
 have hk:k=0\/k=1\/k=2\/k=3\/k=4\/k=5\/k=6\/k=7\/k=8\/k=9\/k=10\/k=11\/k=12\/k=15:=by
  unfold eK at hn;simp at hn;omega
 clear hn;have hT:∀f t,Calls prog 444 #[.func (.func f) #[] #[],.func (.func t) #[] #[]] w _:=Ia w
 rcases hk with rfl|rfl|rfl|rfl|rfl|rfl|rfl|rfl|rfl|rfl|rfl|rfl|rfl|rfl
 all_goals
  go_enter func437,ntmps437;go_wp2_with (first|(go_at_call 444;refine(hT _ _).mono ?_;rintro e w' ⟨nb,bb,rfl,h1,h2,h3,h4,h5⟩))
  go_ret
  first
   |exact⟨_,rfl,.inl ⟨QG,rfl⟩,Below.refl _ _⟩
   |exact⟨_,rfl,.inr ⟨_,nb,bb,rfl,rfl,h1,h2,h3,h4⟩,h5⟩
end
section
variable (w:an) {s:am} {a k:Nat} {x:Int×Nat}
attribute [local go_sem↓] Go.wp_at_zero Go.wp_at_succ
theorem dS.ofDrew {bs:au}{w w':an}(h:dS bs w.drew w'):dS bs w w':=⟨h.os,h.tape,h.output,h.size,h.block⟩
def lw (v:Value)(args:aq)(w:an)(R:Ending->an->Prop):Prop:=∃(f:Nat) (cap:aq),v= .func (.func f) #[] cap.toArray/\(∀args w,(callFunc f args).run prog w= .ok (.enter f args) w)/\Calls prog f (args++cap).toArray w R
def sK (s:am)(a k:Nat):Fx (Int×Nat):=if ei k=0 then gy s a s.size else if ei k=5 then gD s a 4 else gD s a 8
theorem Fv {x:Int×Int}(h:sK s a k= .error x):gp s a k= .error x:=by
 unfold gp;unfold sK at h;rw[h]
theorem Ib (h:sK s a k= .ok x):gp s a k= .ok (fN k x.1,x.2):=by
 unfold gp;unfold sK at h;rw[h]
theorem Kt (h:gy s a s.size= .ok x):0<=x.1/\x.1<18446744073709551616:=by
 obtain⟨n,z⟩:=x;obtain⟨v0,v1,v2,v3⟩:=gM h;exact⟨QN,QN⟩
def Pa (n:Int):Int:=if 0<n then 1 else 0
theorem Ic (n:Int)(h0:0<=n):Calls prog 351 #[.int .u64 n] w λe w'=>e= .returned (.int .u64 (Pa n))/\w'=w:=ui w n h0
theorem Dt (rb:Nat)(s:am)(a:Nat)(deep:Int)(k t nb bb:Nat)(h:dU w rb s a deep)(ha:a<=s.size)(hs:s.size<=140737488355328)(ht:BS k=some t)(hn:dK w nb #[AH t] 423)(hb:dK w bb #[AH (Ev k)] 489)(hnr:nb≠rb)(hbr:bb≠rb):
  Calls prog 447 #[ag rb,ag nb,ag bb] w (oL w rb s deep (gp s a k) (Value.int .u64)):=by
 have hk:k=0\/k=2\/k=4\/k=5\/k=6\/k=9\/k=15:=by
  unfold BS at ht
  by_cases h1:k=0\/k=9\/k=15
  ·omega
  ·rw[dA h1]at ht
   by_cases h2:k=2
   ·omega
   ·rw[dA h2]at ht
    by_cases h3:k=4
    ·omega
    ·rw[dA h3]at ht
     by_cases h4:k=5
     ·omega
     ·rw[dA h4]at ht
      by_cases h5:k=6
      ·omega
      ·rw[dA h5]at ht;cases ht
 have hV:=im w.drew rb s a deep h hs;have hF:=si w.drew rb s a deep h ha hs;have QQ:=hn.drew;have QR:=hb.drew;have n0:=QQ.cell 0;have b0:=QR.cell 0;obtain⟨r,HR⟩:∃r,Hid (gp s a k=r):=⟨_,rfl⟩;have HE:Hid (∀x,sK s a k= .error x->r= .error x):=λx hx=>HR.out.symm.trans (Fv hx)
 have HO:Hid (∀x,sK s a k= .ok x->r= .ok (fN k x.1,x.2)):=λx hx=>HR.out.symm.trans (Ib hx)
 rw[HR.out];obtain⟨fb,QT⟩:∃fb,Ev k=fb:=⟨_,rfl⟩
 have QS:fb=if k=9 then 352 else 182:=by
  rw[<-QT]
  rcases hk with rfl|rfl|rfl|rfl|rfl|rfl|rfl<;>decide
 rw[QT]at b0;unfold AH at n0 b0
 rcases hk with rfl|rfl|rfl|rfl|rfl|rfl|rfl
 all_goals
  cases ht
  simp at QS;subst QS;clear QT;go_enter func447,ntmps447;go_upto_region 1 with fail
  go_region_held2 (λW=>W.cell? (ai nb 0)=w.drew.cell? (ai nb 0)/\W.cell? (ai bb 0)=w.drew.cell? (ai bb 0))
   (first|exact a1|exact⟨rfl,rfl⟩)
   (first
    |(
      go_at_call 182;refine hV.mono ?_;intro e w1 hq
      rcases hq.part with⟨x,hx,rfl,QP⟩|⟨x,hx,rfl,QP,QU⟩
      ·obtain rfl:=HE.out x hx;unfold dI;go_wp2;exact⟨rfl,QP.ofDrew,rfl⟩
      obtain rfl:=HO.out x hx;obtain⟨v0,v1⟩:=Kt hx
      have a1:w1.cell? (ai nb 0)=w.drew.cell? (ai nb 0)/\w1.cell? (ai bb 0)=w.drew.cell? (ai bb 0):=⟨((QQ.kept QP (by simpa using hnr)).cell 0).trans (QQ.cell 0).symm,((QR.kept QP (by simpa using hbr)).cell 0).trans (QR.cell 0).symm⟩)
    |(
      go_at_call 352;refine hF.mono ?_;intro e w1 hq
      rcases hq.part with⟨x,hx,rfl,QP⟩|⟨x,hx,rfl,QP,QU⟩
      ·obtain rfl:=HE.out x hx;unfold dI;go_wp2;exact⟨rfl,QP.ofDrew,rfl⟩
      obtain rfl:=HO.out x hx
      have a1:w1.cell? (ai nb 0)=w.drew.cell? (ai nb 0)/\w1.cell? (ai bb 0)=w.drew.cell? (ai bb 0):=⟨((QQ.kept QP (by simpa using hnr)).cell 0).trans (QQ.cell 0).symm,((QR.kept QP (by simpa using hbr)).cell 0).trans (QR.cell 0).symm⟩)
    |(go_at_call 347;refine(kD _ _).mono ?_;rintro e w2 ⟨rfl,rfl⟩)
    |(go_at_call 348;refine(rj _ _).mono ?_;rintro e w2 ⟨rfl,rfl⟩)
    |(go_at_call 349;refine(GN _ _).mono ?_;rintro e w2 ⟨rfl,rfl⟩)
    |(go_at_call 350;refine(CS _ _ v0 v1).mono ?_;rintro e w2 ⟨rfl,rfl⟩)
    |(go_at_call 351;refine(Ic _ _ v0).mono ?_;rintro e w2 ⟨rfl,rfl⟩))
  go_wp2;go_ret;exact⟨QP.ofDrew,rfl,QU⟩
theorem Oj {w:an}{Q:ap}{v:Value}(hv:mj w Q k v)(rb:Nat)(s:am)(a:Nat)(deep:Int)(h:dU w rb s a deep)(ha:a<=s.size)(hs:s.size<=140737488355328)(hQ:¬Q rb)(hn:eK k=true):
  lw v [ag rb] w (oL w rb s deep (gp s a k) (Value.int .u64)):=by
 rcases hv with⟨ht,rfl⟩|⟨t,nb,bb,ht,rfl,h1,h2,q1,q2⟩
 ·have hk:k=1\/k=3\/k=7\/k=8\/k=10\/k=11\/k=12:=by
   have QV:k<=15:=by unfold eK at hn;simp at hn;omega
   have:∀j:Nat,j<=15->eK j=true->BS j=none->j=1\/j=3\/j=7\/j=8\/j=10\/j=11\/j=12:=QG;exact this k QV hn ht
  have e:∀(r:Fx (Int×Nat)),(match r with| .error x=> .error x| .ok x=> .ok (x.1,x.2):Fx (Int×Nat))=r:=λr=>by cases r<;>rfl
  rcases hk with rfl|rfl|rfl|rfl|rfl|rfl|rfl
  ·exact⟨182,[],rfl,enters_of func182 QI rfl,by have:=im w rb s a deep h hs;rw[<-e (gy s a s.size)]at this;exact this⟩
  ·exact⟨182,[],rfl,enters_of func182 QI rfl,by have:=im w rb s a deep h hs;rw[<-e (gy s a s.size)]at this;exact this⟩
  ·exact⟨352,[],rfl,enters_of func352 QI rfl,by have:=si w rb s a deep h ha hs;rw[<-e (gD s a 4)]at this;exact this⟩
  ·exact⟨353,[],rfl,enters_of func353 QI rfl,by have:=pI w rb s a deep h ha hs;rw[<-e (gD s a 8)]at this;exact this⟩
  ·exact⟨353,[],rfl,enters_of func353 QI rfl,by have:=pI w rb s a deep h ha hs;rw[<-e (gD s a 8)]at this;exact this⟩
  ·exact⟨352,[],rfl,enters_of func352 QI rfl,by have:=si w rb s a deep h ha hs;rw[<-e (gD s a 4)]at this;exact this⟩
  ·exact⟨353,[],rfl,enters_of func353 QI rfl,by have:=pI w rb s a deep h ha hs;rw[<-e (gD s a 8)]at this;exact this⟩
 ·exact⟨447,[_,_],rfl,enters_of func447 QI rfl,Dt w rb s a deep k t nb bb h ha hs ht h1 h2 (λe=>hQ (e▸q1)) (λe=>hQ (e▸q2))⟩
end
section
variable {w:an} {Q:ap} {k:Nat} {v:Value}
attribute [local go_sem↓] Go.wp_at_zero Go.wp_at_succ
def mm (w:an)(Q:ap)(k:Nat)(v:Value):Prop:=
 (k=13/\v=AH 435)\/(k=14/\v=AH 436)\/(eK k=true/\∃nb nv,v= .func (.func 438) #[] #[ag nb]/\dK w nb #[nv] 489/\Q nb/\mj w Q k nv)
theorem mm.keep {w':an}(h:mm w Q k v)(hk:∀b,Q b->b<w.heap.size->w'.heap[b]?=w.heap[b]?):mm w' Q k v:=by
 rcases h with h|h|⟨h0,nb,nv,h1,h2,h3,h4⟩
 ·exact .inl h
 ·exact .inr (.inl h)
 ·exact .inr (.inr ⟨h0,nb,nv,h1,(hk nb h3 h2.lt).trans h2,h3,h4.keep hk⟩)
theorem mj.form (h:mj w Q k v):∃f cap,v= .func (.func f) #[] cap:=by
 rcases h with⟨_,rfl⟩|⟨t,nb,bb,_,rfl,_⟩
 ·exact⟨_,_,rfl⟩
 ·exact⟨_,_,rfl⟩
theorem mj.mono {Q':ap}(h:mj w Q k v)(hq:∀b,Q b->Q' b):mj w Q' k v:=by
 rcases h with h|⟨t,nb,bb,h1,h2,h3,h4,h5,h6⟩
 ·exact .inl h
 ·exact .inr ⟨t,nb,bb,h1,h2,h3,h4,hq _ h5,hq _ h6⟩
def Ok (w:an)(k:Nat)(e:Ending)(w':an):Prop:=∃v,e= .returned v/\mm w' (λb=>w.heap.size<=b) k v/\aj w w'
theorem ye (w:an)(k:Nat)(pv:Value)(hk:k<=15):Calls prog 420 #[.agg #[aa k,pv]] w (Ok w k):=by
 have hmf:= @ti;have B0:∀o,aj w (w.alloc o):=λo=>(Below.refl w.heap.size w).alloc (ay _) o
 have KT:=dK.new w #[aa k,pv] 216;obtain⟨k1,k2⟩:=KT.rules
 by_cases h13:k=13
 ·subst h13;go_enter func420,ntmps420;go_wp2;go_ret;exact⟨_,rfl,.inl ⟨rfl,rfl⟩,B0 _⟩
 ·by_cases h14:k=14
  ·subst h14;go_enter func420,ntmps420;go_wp2;go_ret;exact⟨_,rfl,.inr (.inl ⟨rfl,rfl⟩),B0 _⟩
  ·have hn:eK k=true:=by
    have:∀j:Nat,j<=15->j≠13->j≠14->eK j=true:=QG;exact this k hk h13 h14
   have e13:((k:Int)==13)=false:=QF;have e14:((k:Int)==14)=false:=QF;have hN:=Ds (w.alloc (ak #[aa k,pv] 216)) k hn;go_enter func420,ntmps420;go_wp2_with fail;refine hN.mono ?_;rintro e w1 ⟨nv,rfl,QP,QQ⟩;obtain⟨nf,ncap,rfl⟩:=QP.form;go_wp2;go_ret;have C1:=dG (B0 _) QQ;refine⟨_,rfl,.inr (.inr ⟨hn,_,_,rfl,dK.new w1 _ _,C1.size,?_⟩),C1.alloc C1.size _⟩;exact(QP.mono (λb hb=>by simp at hb;omega)).keep λb _ hl=>Below.heap_alloc _ _ b hl
end
section
attribute [local go_sem↓] Go.wp_at_zero Go.wp_at_succ
def zX {w w1 w2:an}{rb vb:Nat}{s:am}{z:Nat}{deep:Int}(x:LV)(k1:dS [rb] w w1)(v1:dK w1 vb #[.int .u64 0,ae ⟨#[]⟩,ah,ae ⟨#[]⟩] 55)(hv:w.heap.size<=vb)(hr:rb<w.heap.size)(k2:dS [rb] w1 w2)(r2:dU w2 rb s z deep):
  dK (((((w2.setCell (ai vb 0) (.int .u64 x.1)).setCell (ai vb 1) (ae x.2)).setCell (ai vb 2) (ah)).setCell (ai vb 3) (ae ⟨#[]⟩))) vb #[.int .u64 x.1,ae x.2,ah,ae ⟨#[]⟩] 55/\
  dS [rb] w (((((w2.setCell (ai vb 0) (.int .u64 x.1)).setCell (ai vb 1) (ae x.2)).setCell (ai vb 2) (ah)).setCell (ai vb 3) (ae ⟨#[]⟩)))/\
  dU (((((w2.setCell (ai vb 0) (.int .u64 x.1)).setCell (ai vb 1) (ae x.2)).setCell (ai vb 2) (ah)).setCell (ai vb 3) (ae ⟨#[]⟩))) rb s z deep:=by
 have v2:dK w2 vb #[.int .u64 0,ae ⟨#[]⟩,ah,ae ⟨#[]⟩] 55:=(k2.block _ v1.lt QF).trans v1;refine⟨(((v2.set 0 _).set 1 _).set 2 _).set 3 _,?_,(((dK.other r2 0 _ QD).other 1 _ QD).other 2 _ QD).other 3 _ QD⟩;have k3:=k1.trans k2
 exact⟨k3.os,k3.tape,k3.output,by simpa using k3.size,λi hi hn=>by
  rw[dJ,dA QD,dJ,dA QD,dJ,dA QD,dJ,dA QD]
  exact k3.block i hi hn⟩
def Id {w:an}{Q:ap}{k:Nat}{v:Value}(hv:mm w Q k v)(rb:Nat)(s:am)(a:Nat)(deep:Int)(h:dU w rb s a deep)(ha:a<=s.size)(hs:s.size<=140737488355328)(hQ:¬Q rb)(hu:UOK w)(hu1:rb≠2)(hu2:rb≠3):
  lw v [ag rb] w (oL w rb s deep (fY s a k) tO):=by
 have K1:dS [rb] w (w.alloc (ak #[.int .u64 0,ae ⟨#[]⟩,ah,ae ⟨#[]⟩] 55)):=(dS.refl _ _).alloc _;have h1:dU (w.alloc (ak #[.int .u64 0,ae ⟨#[]⟩,ah,ae ⟨#[]⟩] 55)) rb s a deep:=dK.alloc h _;have V1:=dK.new w #[.int .u64 0,ae ⟨#[]⟩,ah,ae ⟨#[]⟩] 55;have QU:UOK (w.alloc (ak #[.int .u64 0,ae ⟨#[]⟩,ah,ae ⟨#[]⟩] 55)):=hu.keep (K1.block _ hu.lt1 (by simp;exact λe=>hu1 e.symm)) (K1.block _ hu.lt2 (by simp;exact λe=>hu2 e.symm));have QS:rb<w.heap.size:=dK.lt h;obtain⟨r,HR⟩:∃r,Hid (fY s a k=r):=⟨_,rfl⟩;rw[HR.out]
 rcases hv with⟨rfl,rfl⟩|⟨rfl,rfl⟩|⟨hn,nb,nv,rfl,QV,qn,QW⟩
 ·refine⟨435,[],rfl,enters_of func435 QI rfl,?_⟩;have HV:Hid (fY s a 13=(match qq s a with| .error x=> .error x| .ok x=> .ok ((0,x.1),x.2))):=rfl;show Calls prog 435 #[ag rb] w _;go_enter func435,ntmps435;go_wp2_with fail;generalize(w.alloc (ak #[.int .u64 0,ae ⟨#[]⟩,ah,ae ⟨#[]⟩] 55))=w1 at*;refine(GO w1 rb s a deep h1 hs QU hu1 hu2).mono ?_
  cases hv:qq s a with
  |error x=>
   rintro e w2 ⟨QP,he⟩;obtain rfl:e=dI x.1 x.2:=he;obtain rfl:r= .error x:=by rw[<-HR.out,HV.out,hv]
   unfold dI;go_wp2;exact⟨rfl,K1.trans QP,rfl⟩
  |ok x=>
   rintro e w2 ⟨QP,rfl,hr⟩;obtain rfl:r= .ok (((0,x.1):LV),x.2):=by rw[<-HR.out,HV.out,hv]
   obtain⟨q1,q2,q3⟩:=zX ((0,x.1):LV) K1 V1 (ay _) QS QP hr;obtain⟨y7,y8⟩:=(show dK w2 w.heap.size _ _ from(QP.block _ V1.lt QF).trans V1).rules;go_wp2;exact dE (dZ results435 _ _ rfl q1 underlying55 QI) rfl ⟨q2,rfl,q3⟩
 ·refine⟨436,[],rfl,enters_of func436 QI rfl,?_⟩;have HV:Hid (fY s a 14=(match mU s a with| .error x=> .error x| .ok x=> .ok ((0,x.1),x.2))):=rfl;show Calls prog 436 #[ag rb] w _;go_enter func436,ntmps436;go_wp2_with fail;generalize(w.alloc (ak #[.int .u64 0,ae ⟨#[]⟩,ah,ae ⟨#[]⟩] 55))=w1 at*;refine(D7 w1 rb s a deep h1 hs).mono ?_
  cases hv:mU s a with
  |error x=>
   rintro e w2 ⟨QP,he⟩;obtain rfl:e=dI x.1 x.2:=he;obtain rfl:r= .error x:=by rw[<-HR.out,HV.out,hv]
   unfold dI;go_wp2;exact⟨rfl,K1.trans QP,rfl⟩
  |ok x=>
   rintro e w2 ⟨QP,rfl,hr⟩;obtain rfl:r= .ok (((0,x.1):LV),x.2):=by rw[<-HR.out,HV.out,hv]
   obtain⟨q1,q2,q3⟩:=zX ((0,x.1):LV) K1 V1 (ay _) QS QP hr;obtain⟨y7,y8⟩:=(show dK w2 w.heap.size _ _ from(QP.block _ V1.lt QF).trans V1).rules;go_wp2;exact dE (dZ results436 _ _ rfl q1 underlying55 QI) rfl ⟨q2,rfl,q3⟩
 ·have QQ:k≠13/\k≠14:=by
   constructor
   ·intro e;rw[e]at hn;exact absurd hn QG
   ·intro e;rw[e]at hn;exact absurd hn QG
  have HV:Hid (fY s a k=(match gp s a k with| .error x=> .error x| .ok x=> .ok ((x.1,⟨#[]⟩),x.2))):=by
   show fY s a k=_;unfold fY;rw[dA QQ.1,dA QQ.2]
   all_goals (cases gp s a k<;>rfl)
  refine⟨438,[ag nb],rfl,enters_of func438 QI rfl,?_⟩;have QT:mj (w.alloc (ak #[.int .u64 0,ae ⟨#[]⟩,ah,ae ⟨#[]⟩] 55)) Q k nv:=QW.keep λb _ hl=>Below.heap_alloc _ _ b hl
  obtain⟨f,cap,rfl,eg,QR⟩:=Oj QT rb s a deep h1 ha hs hQ hn;have n0:=(QV.alloc (ak #[.int .u64 0,ae ⟨#[]⟩,ah,ae ⟨#[]⟩] 55)).cell 0;simp only[cY,cw]at n0;show Calls prog 438 #[ag rb,ag nb] w _;go_enter func438,ntmps438;go_wp2_with fail;clear n0;generalize(w.alloc (ak #[.int .u64 0,ae ⟨#[]⟩,ah,ae ⟨#[]⟩] 55))=w1 at*;refine QR.mono ?_;clear QR
  cases hv:gp s a k with
  |error x=>
   rintro e w2 ⟨QP,he⟩;obtain rfl:e=dI x.1 x.2:=he;obtain rfl:r= .error x:=by rw[<-HR.out,HV.out,hv]
   unfold dI;go_wp2;exact⟨rfl,K1.trans QP,rfl⟩
  |ok x=>
   rintro e w2 ⟨QP,rfl,hr⟩;obtain rfl:r= .ok (((x.1,⟨#[]⟩):LV),x.2):=by rw[<-HR.out,HV.out,hv]
   obtain⟨q1,q2,q3⟩:=zX ((x.1,⟨#[]⟩):LV) K1 V1 (ay _) QS QP hr;obtain⟨y7,y8⟩:=(show dK w2 w.heap.size _ _ from(QP.block _ V1.lt QF).trans V1).rules;go_wp2;exact dE (dZ results438 _ _ rfl q1 underlying55 QI) rfl ⟨q2,rfl,q3⟩
structure qM where
 n:Int
 c1:Value
 c2:Value
 c3:Value
 c4:Value
 c5:Value
 c6:Value
 c7:Value
def iD (x:qM):aq:= [aa x.n,x.c1,x.c2,x.c3,x.c4,x.c5,x.c6,x.c7]
def pd (x:qM):(iD x).length=8:=rfl
def Du (x:qM)(n:Int)(w:an):
  Calls prog 215 #[.agg #[aa x.n,x.c1,x.c2,x.c3,x.c4,x.c5,x.c6,x.c7],aa n] w λe w'=>e= .returned (aa (jV x.n n))/\aj w w':=by
 have hC:=pF x.n n;have B0:∀o,aj w (w.alloc o):=λo=>(Below.refl w.heap.size w).alloc (ay _) o
 generalize jV x.n n=c at hC⊢;go_enter func215,ntmps215;go_wp2_with fail;refine(hC _).mono ?_;rintro e w' ⟨rfl,rfl⟩;go_wp2;go_ret;exact⟨rfl,B0 _⟩
def Ie (w:an)(v:Value)(l:List qM)(t:Int)(lo:Nat)(hrow:w.ownsRow lo 268 8 v l.length (l.flatMap iD))(h1:∀x∈l,x.c1.oneCell'=true/\x.c2.oneCell'=true/\x.c3.oneCell'=true/\x.c4.oneCell'=true/\x.c5.oneCell'=true/\x.c6.oneCell'=true/\x.c7.oneCell'=true)(hs:l.Pairwise (λa b=>a.n<=b.n))(hl:l.length<=1073741824):
  Calls prog 214 #[v,aa t,.func (.func 215) #[] #[]] w λe w'=>um (l.map (·.n)) t e/\aj w w':=by
 obtain⟨a,c,rfl⟩:=iW hrow
 have HS:Hid (∀(i j:Nat) (x y:qM),l[i]?=some x->l[j]?=some y->i<=j->x.n<=y.n):=λi j x y hx hy QS=>by
  by_cases e:i=j
  ·subst e;rw[hx]at hy;obtain rfl:=Option.some.inj hy;exact dj _
  ·rw[bH]at hs;have hi:=gl hx;have hj:=gl hy;have:=hs i j hi hj QD;rw[aK hi]at hx;rw[aK hj]at hy;rw[<-Option.some.inj hx,<-Option.some.inj hy];exact this
 have HG:Hid (∀(i:Nat) (x:qM),l[i]?=some x->∃g,a=some (ai g 0)/\g<w.heap.size/\∀w':an,w'.heap[g]?=w.heap[g]?->w'.cell? (ai g (i*8))=some (aa x.n)/\w'.cell? (ai g (i*8+1))=some x.c1/\w'.cell? (ai g (i*8+2))=some x.c2/\w'.cell? (ai g (i*8+3))=some x.c3/\w'.cell? (ai g (i*8+4))=some x.c4/\w'.cell? (ai g (i*8+5))=some x.c5/\w'.cell? (ai g (i*8+6))=some x.c6/\w'.cell? (ai g (i*8+7))=some x.c7):=λi x hx=>by
  have hi:=gl hx;obtain⟨g,rfl,_,QQ,QP⟩:=eh hrow QD;have hf:=λj hj=>fL iD 8 pd l i x hx j hj
  refine⟨g,rfl,QQ,λw' hw=>⟨?_,?_,?_,?_,?_,?_,?_,?_⟩⟩
  ·exact QP w' hw _ _ ((hf 0 QD).trans rfl)
  ·exact QP w' hw _ _ ((hf 1 QD).trans rfl)
  ·exact QP w' hw _ _ ((hf 2 QD).trans rfl)
  ·exact QP w' hw _ _ ((hf 3 QD).trans rfl)
  ·exact QP w' hw _ _ ((hf 4 QD).trans rfl)
  ·exact QP w' hw _ _ ((hf 5 QD).trans rfl)
  ·exact QP w' hw _ _ ((hf 6 QD).trans rfl)
  ·exact QP w' hw _ _ ((hf 7 QD).trans rfl)
 clear hs hrow;go_enter func214,ntmps214;go_wp2;go_loopw [9,10] (λiv jv wr=>∃(i j:Nat),i<=j/\j<=l.length/\iv=aa i/\jv=aa j/\Hid (∀(k:Nat) (x:qM),l[k]?=some x->k<i->x.n<t)/\Hid (∀(k:Nat) (x:qM),l[k]?=some x->j<=k->t<=x.n)/\aj w wr) (λiv jv _=>((intOf jv)-(intOf iv)).toNat)
 case atStart=>exact⟨0,l.length,aM _,ay _,rfl,rfl,(λk x _ h=>QD),(λk x hx h=>by rw[aU QD]at hx;cases hx),Below.refl _ _⟩
 case round=>
  obtain⟨i,j,QS,QT,rfl,rfl,H1,H2,CW⟩:=hrel
  by_cases hlt:i<j
  ·obtain⟨h,hh⟩:∃h,(i+j)/2=h:=⟨_,rfl⟩;have QU:h<l.length:=QD;have QV:i<=h:=QD;have hhj:h<j:=QD;obtain⟨x,hx⟩:=gx QU;obtain⟨g,rfl,QQ,QR⟩:=HG.out h x hx;obtain⟨c0,c1,c2,c3,c4,c5,c6,c7⟩:=QR wr (CW.block g QQ);obtain⟨o1,o2,o3,o4,o5,o6,o7⟩:=h1 x (aI hx);clear QR;have hw1:IntKind.u64.wrap ((i:Int)+(j:Int))=(i:Int)+(j:Int):=gh QD QD;have hdiv:((i:Int)+(j:Int))/2=(h:Int):=QD;have hw2:IntKind.i64.wrap (h:Int)=(h:Int):=by simp[IntKind.wrap,IntKind.bits,IntKind.signed];omega
   by_cases hxt:x.n<t
   ·have hd:decide (jV x.n t<0)=true:=by simp[mI,hxt]
    have HX:Hid (l[h]?=some x):=hx;clear hh hx HG;go_wp2_with fail;refine(Du x t _).mono ?_;rintro e w2 ⟨rfl,b2⟩;go_wp2;go_roundw
    case rel=>exact⟨h+1,j,QD,QT,rfl,rfl,(λk y hy hk=>Int.lt_of_le_of_lt (HS.out k h y x hy HX.out QD) hxt),H2,er CW b2⟩
    case measure=>simp[intOf];omega
   ·have hd:decide (jV x.n t<0)=false:=decide_eq_false (λq=>hxt ((mI _ _).1 q));have HX:Hid (l[h]?=some x):=hx;clear hh hx HG;go_wp2_with fail;refine(Du x t _).mono ?_;rintro e w2 ⟨rfl,b2⟩;go_wp2;go_roundw
    case rel=>exact⟨i,h,QV,QD,rfl,rfl,H1,(λk y hy hk=>Int.le_trans QD (HS.out h k x y HX.out hy hk)),er CW b2⟩
    case measure=>simp[intOf];omega
  ·obtain rfl:i=j:=QD;have hli:decide ((i:Int)<(i:Int))=false:=QE
   by_cases hil:i<l.length
   ·obtain⟨x,hx⟩:=gx hil;obtain⟨g,rfl,QQ,QR⟩:=HG.out i x hx;obtain⟨c0,c1,c2,c3,c4,c5,c6,c7⟩:=QR wr (CW.block g QQ);obtain⟨o1,o2,o3,o4,o5,o6,o7⟩:=h1 x (aI hx);clear QR;have HX:Hid (l[i]?=some x):=hx;have hti:=H2.out i x hx (ay _)
    have hd:(jV x.n t==0)=decide (x.n=t):=by
     rw[cn];unfold jV
     by_cases q1:x.n<t
     ·simp[q1];omega
     ·by_cases q2:t<x.n
      ·simp[q1,q2];omega
      ·simp[q1,q2];omega
    have hN:decide ((l.map (·.n))[i]?=some t)=decide (x.n=t):=by rw[aO,hx];simp
    have HE:Hid (decide ((l.map (·.n))[i]?=some t)=decide (x.n=t)):=hN;clear hx HG hN hlt QS;go_wp2_with fail;refine(Du x t _).mono ?_;rintro e w2 ⟨rfl,b2⟩;go_wp2;go_ret2;refine⟨⟨i,by rw[HE.out];rfl,by simpa using QT,?_,?_⟩,er CW b2⟩
    ·intro k y hy hk;rw[aO]at hy;obtain⟨z,hz,rfl⟩:=aX.1 hy;exact H1.out k z hz hk
    ·intro k y hy hk;rw[aO]at hy;obtain⟨z,hz,rfl⟩:=aX.1 hy;exact H2.out k z hz hk
   ·have hli2:decide ((i:Int)<(l.length:Int))=false:=QF
    have HE:Hid (decide ((l.map (·.n))[i]?=some t)=false):=by
     show decide ((l.map (·.n))[i]?=some t)=false;rw[aU (by rw[bm];omega)];simp
    clear HG hlt QS;go_wp2;go_ret2;refine⟨⟨i,by rw[HE.out];rfl,by simpa using QT,?_,?_⟩,CW⟩
    ·intro k y hy hk;rw[aO]at hy;obtain⟨z,hz,rfl⟩:=aX.1 hy;exact H1.out k z hz hk
    ·intro k y hy hk;rw[aO]at hy;obtain⟨z,hz,rfl⟩:=aX.1 hy;exact H2.out k z hz hk
def MF (l:List qM)(v:Value)(t:Int)(e:Ending):Prop:=
 (∃(i g:Nat) (x:qM),l[i]?=some x/\x.n=t/\(∀j y,l[j]?=some y->j<i->y.n≠t)/\v.ownBlock=some g/\e= .returned (.pointer (some (ai g (i*8)))))\/((∀x∈l,x.n≠t)/\e= .returned (.pointer none))
def MG (w:an)(pb:Nat)(v:Value)(l:List qM)(t:Int)(lo:Nat)(hP:dK w pb #[v] 254)(hrow:w.ownsRow lo 268 8 v l.length (l.flatMap iD))(h1:∀x∈l,x.c1.oneCell'=true/\x.c2.oneCell'=true/\x.c3.oneCell'=true/\x.c4.oneCell'=true/\x.c5.oneCell'=true/\x.c6.oneCell'=true/\x.c7.oneCell'=true)
  (hs:l.Pairwise (λa b=>a.n<=b.n)) (hl:l.length<=1073741824):
  Calls prog 141 #[ag pb,aa t] w λe w'=>MF l v t e/\aj w w':=by
 have hS:=Ie w v l t lo hrow h1 hs hl;obtain⟨a,c,rfl⟩:=iW hrow;obtain⟨k1,k2⟩:=hP.rules;go_enter func141,ntmps141;go_wp2_with fail;refine hS.mono ?_;rintro e w1 ⟨⟨i,rfl,q1,q2,q3⟩,hb⟩;obtain⟨k3,k4⟩:=(hP.below hb hP.lt).rules;clear hS k1 k2
 by_cases hf:(l.map (·.n))[i]?=some t
 ·have hd:decide ((l.map (·.n))[i]?=some t)=true:=by simpa using hf
  rw[hd]
  have QP:i<l.length:=by
   by_cases q:i<l.length
   ·exact q
   ·rw[aU QF]at hf;cases hf
  rw[aO]at hf;obtain⟨x,hx,QT⟩:=aX.1 hf;obtain⟨g,rfl,_,hgl,_⟩:=eh hrow QD;have HX:Hid (l[i]?=some x):=hx
  have QR:Hid (∀j y,l[j]?=some y->j<i->y.n≠t):=λj y hy hj=>by
   have:=q2 j y.n (by rw[aO,hy];rfl) hj;omega
  clear hf hx hd q1 q2 q3;go_wp2;go_ret;exact⟨.inl ⟨i,g,x,HX.out,QT,QR.out,rfl,QE⟩,hb⟩
 ·have hd:decide ((l.map (·.n))[i]?=some t)=false:=by simpa using hf
  rw[hd]
  have QS:∀x∈l,x.n≠t:=λx hx e=>by
   obtain⟨j,hj⟩:=bT.1 hx;have hm:(l.map (·.n))[j]?=some x.n:=by rw[aO,hj];rfl
   by_cases hji:j<i
   ·have:=q2 j x.n hm hji;omega
   ·by_cases he:j=i
    ·subst he;rw[hm,e]at hf;exact hf rfl
    ·have QQ:j<l.length:=by
      by_cases q:j<l.length
      ·exact q
      ·rw[aU QD]at hj;cases hj
     have QP:i<l.length:=QD;rw[bH]at hs;have h3:=hs i j QP QQ QD;have h4:=q3 i (l[i].n) (by rw[aO,aK QP];rfl) (ay _);rw[aK QQ]at hj;rw[Option.some.inj hj]at h3;have h5:l[i].n=t:=QD;exact hf (by rw[aO,aK QP];simp[h5])
  clear hf hd q1 q2 q3 hs;go_wp2;go_ret;exact⟨.inr ⟨QS,rfl⟩,hb⟩
end
def eY (w:an)(B b:Nat)(p:Value)(l:List UInt8):Prop:=Lib.BuilderAt 285 5 B b p (Lib.byteCells l) w
abbrev d5 (b:Nat):Value:=ag b
def yf:(prog.info? 5).map (λi=>(i.zero,i.size,i.bytes))=some (some (.int .u8 0),1,1):=QI
def BT:(prog.info? 283).map (·.size)=some 2:=QI
def If:liesAt prog prog.depth 285 (2/prog.cellsOf 285) 0 283 1=true:=QI
structure Wr (B:Nat)(w w':an):Prop where
 bel:Below B w w'
 fr:∀i cs T,T≠5->T≠285->dK w i cs T->dK w' i cs T
def Wr.refl (B:Nat)(w:an):Wr B w w:=⟨Below.refl _ _,λ_ _ _ _ _ h=>h⟩
def Wr.trans {B:Nat}{a b c:an}(h:Wr B a b)(k:Wr B b c):Wr B a c:=⟨h.bel.trans k.bel,λi cs T q1 q2 q=>k.fr i cs T q1 q2 (h.fr i cs T q1 q2 q)⟩
def Wr.of {B:Nat}{w w':an}(h:aj w w')(hB:B<=w.heap.size):Wr B w w':=
 ⟨⟨h.os,h.tape,h.output,h.size,λi hi=>h.block i QD⟩,λ_ _ _ _ _ q=>q.below h q.lt⟩
def Ig {w:an}{B n k:Nat}{v:Value}{xs:aq}{e T:TypeId}{i:Nat}{cs:Array Value}(h:w.ownsRow B e k v n xs)(hT:T≠e)(hb:dK w i cs T):some i≠v.ownBlock:=by
 rcases h.2 with⟨rfl,_⟩|⟨g,cap,Q3,rfl,_,hg,_⟩
 ·intro q;cases q
 ·intro q;obtain rfl:i=g:=Option.some.inj q;unfold dK at hb;rw[hg]at hb
  injection hb with hb
  injection hb with _ h2 _
  exact hT h2.symm
def Ih {w:an}{b i:Nat}{cs cs':Array Value}{T T':TypeId}(h:dK w b cs T)(h':dK w i cs' T')(hT:T'≠T):b≠i:=by
 rintro rfl;unfold dK at h h';rw[h]at h'
 injection h' with h'
 injection h' with _ h2 _
 exact hT h2.symm
def vS (b:Nat)(w:an)(h0:w.cell? (ai b 0)=some (d5 b)):
  Calls prog 228 #[d5 b] w λe w'=>e= .returned (.tuple #[])/\w'=w:=by
 obtain⟨j,hj,_⟩:=aX.1 BT;go_enter func228,ntmps228;go_wp2;rw[Lib.run_neq_ptr_same w _ underlying281 hj];go_wp2;go_end0;exact⟨rfl,rfl⟩
def BU (b:Nat)(w:an)(h0:w.cell? (ai b 0)=some (.pointer none))(hsh:w.shape? b=some (285,2))(hfz:w.frozen? (ai b 0)=false):
  Calls prog 228 #[d5 b] w λe w'=>e= .returned (.tuple #[])/\w'=w.setCell (ai b 0) (d5 b):=by
 obtain⟨j,hj,Q4⟩:=aX.1 BT;go_enter func228,ntmps228;go_wp2;rw[Lib.run_to_unsafe w (ai b 0) underlying281 underlying322 hj (by rw[Q4];decide) hsh (Nat.zero_lt_succ 1)];simp only[Result.andThen];rw[Oper.upon_value];go_wp2;rw[run_callFunc_extern func313 QI QI QI (e:=Extern.AbiNoEscape.same) QI];rw[Lib.run_noEscape];simp only[Result.andThen];rw[Oper.upon_value];go_wp2;rw[Lib.run_from_unsafe w (ai b 0) underlying322 underlying281 hj hsh If];simp only[Result.andThen];rw[Oper.upon_value];go_wp2;go_end0;exact⟨rfl,rfl⟩
def BX (B b:Nat)(l:List UInt8)(c:UInt8)(w:an)(h:eY w B b (d5 b) l)(hlen:l.length+1<=140737488355328)(hBw:B<=w.heap.size):
  Calls prog 391 #[d5 b,.int .u8 c.toNat] w λe w'=>e= .returned .nilIface/\eY w' B b (d5 b) (l++ [c])/\Wr B w w':=by
 obtain⟨i0,hi,QX,QY,QZ⟩:=info_parts yf;obtain⟨hB,v,QR,QS,Q0⟩:=h;have c0:w.cell? (ai b 0)=some (d5 b):=by rw[Lib.cell_of_heap QR];rfl
 have c1:w.cell? (ai b 1)=some v:=by rw[Lib.cell_of_heap QR];rfl
 have QW:(Lib.byteCells l).length=l.length:=Lib.byteCells_length l;go_enter func391,ntmps391;go_wp2_with fail;refine(vS b w c0).mono ?_;rintro e w1 ⟨rfl,rfl⟩;go_wp2_with (at_builtin;refine wpList_append_own _ rfl _ _ 140 rfl B 5 i0 (.int .u8 0) 1 1 underlying140 hi QX QY QZ rfl QG _ _ _ rfl (QS.alloc _) (ai w1.heap.size 0) 1 1 [.int .u8 c.toNat] rfl rfl ?c1 ?c2 ?c3 ?c4 ?c5 ?_)
 case c1=>
  intro j u hj
  match j,hj with
  |0,hj=>simp at hj;subst hj;simp[Addr.add]
 case c2=>intro u hu;simp at hu;subst hu;rfl
 case c3=>unfold maxLen;omega
 case c4=>omega
 case c5=>simp;omega
 intro v' w2 QQ QP _;have QU:b<w1.heap.size:=dK.lt QR
 have QT:w2.heap[b]?=some (.cells #[d5 b,v] 285 (0,0)):=by
  rw[QP.block b QF (λe=>Q0 e.symm),Lib.alloc_old w1 _ b QU];exact QR
 have d0:w2.cell? (ai b 0)=some (d5 b):=by rw[Lib.cell_of_heap QT];rfl
 have d1:w2.cell? (ai b 1)=some v:=by rw[Lib.cell_of_heap QT];rfl
 have f1:w2.frozen? (ai b 1)=false:=Lib.frozen_of_heap QT 1
 obtain⟨g,cap,rfl⟩:∃g cap,v'= .slice (some (ai g 0)) (l.length+1) cap:=by
  rcases QQ.2 with⟨_,h0⟩|⟨g,cap,Q3,hv,_⟩
  ·omega
  ·exact⟨g,cap,hv⟩
 go_wp2;go_ret;refine⟨rfl,?_,?_⟩
 ·unfold eY;rw[Lib.byteCells_append];exact Lib.BuilderAt.put (T:=285) (e:=5) hB QT (bs':=Lib.byteCells l++Lib.byteCells [c]) (by simpa [Lib.byteCells,QW]using QQ) QG
 ·exact⟨(((Below.refl B _).alloc QD _).grown QP QF (λk hk=>(QS.lt k hk).1)).setCell (p:=(ai b 1)) hB _,λi cs T q1 q2 q=>((q.alloc _).grown QP (Ig QS q1 q)).other _ _ (Ih QR q q2)⟩
def xq (B b:Nat)(l:List UInt8)(s:am)(w:an)(h:eY w B b (d5 b) l)(hlen:l.length+s.size<=140737488355328)(hBw:B<=w.heap.size):
  Calls prog 237 #[d5 b,ae s] w λe w'=>e= .returned (.tuple #[aa s.size,.nilIface])/\eY w' B b (d5 b) (l++s.data.toList)/\Wr B w w':=by
 obtain⟨i0,hi,QX,QY,QZ⟩:=info_parts yf;obtain⟨hB,v,QR,QS,Q0⟩:=h;have c0:w.cell? (ai b 0)=some (d5 b):=by rw[Lib.cell_of_heap QR];rfl
 have c1:w.cell? (ai b 1)=some v:=by rw[Lib.cell_of_heap QR];rfl
 have QW:(Lib.byteCells l).length=l.length:=Lib.byteCells_length l;go_enter func237,ntmps237;go_wp2_with fail;refine(vS b w c0).mono ?_;rintro e w1 ⟨rfl,rfl⟩;go_wp2_with (at_builtin;refine Lib.wpList_append_own_string _ rfl _ _ 140 9 rfl B 5 i0 underlying140 underlying9 hi QX QY QZ _ _ _ rfl QS s rfl ?c3 ?c4 ?c5 ?_)
 case c3=>unfold maxLen;omega
 case c4=>omega
 case c5=>omega
 intro v' w2 QQ QP _;have QU:b<w1.heap.size:=dK.lt QR
 have QT:w2.heap[b]?=some (.cells #[d5 b,v] 285 (0,0)):=by
  rw[QP.block b QU (λe=>Q0 e.symm)];exact QR
 have d0:w2.cell? (ai b 0)=some (d5 b):=by rw[Lib.cell_of_heap QT];rfl
 have d1:w2.cell? (ai b 1)=some v:=by rw[Lib.cell_of_heap QT];rfl
 have f1:w2.frozen? (ai b 1)=false:=Lib.frozen_of_heap QT 1
 obtain⟨ao,n',cap,rfl⟩:∃ao n' cap,v'= .slice ao n' cap:=by
  rcases QQ.2 with⟨hv,_⟩|⟨g,cap,Q3,hv,_⟩
  ·exact⟨_,_,_,hv⟩
  ·exact⟨_,_,_,hv⟩
 go_wp2;go_ret2;refine⟨rfl,?_,?_⟩
 ·unfold eY;rw[Lib.byteCells_append];exact Lib.BuilderAt.put (T:=285) (e:=5) hB QT (bs':=Lib.byteCells l++Lib.strCells s) (by simpa [Lib.strCells_length,QW]using QQ) QG
 ·exact⟨((Below.refl B _).grown QP QD (λk hk=>(QS.lt k hk).1)).setCell (p:=(ai b 1)) hB _,λi cs T q1 q2 q=>(q.grown QP (Ig QS q1 q)).other _ _ (Ih QR q q2)⟩
def MH (B b n:Nat)(w:an)(hB:B<=b)(QR:dK w b #[d5 b,ah] 285)(hBw:B<=w.heap.size)(hn:n<=140737488355328):
  Calls prog 229 #[d5 b,aa n] w λe w'=>e= .returned (.tuple #[])/\eY w' B b (d5 b) []/\Below B w w':=by
 have mixed:prog.follows Departure.mixedOrders=true:=QI;obtain⟨cs,Q1,hle,Q2⟩:=Lib.run_makeNoZero (P:=prog) w.drew #[3] 140 5 underlying140 n QD
 have hw:IntKind.i64.wrap (IntKind.i64.wrap 0+(n:Int))=n:=by
  rw[IntKind.wrap_i64,IntKind.wrap_i64];omega
 have hcall:(callFunc 314 #[aa (IntKind.i64.wrap (IntKind.i64.wrap 0+(n:Int)))]).run prog w.drew= .ok (.value (.slice (some (ai w.drew.heap.size 0)) n cs.size)) (w.drew.drew.drew.alloc (.cells cs 5)):=by
  rw[hw,run_callFunc_extern func314 QI QI QI (e:=Extern.BytealgMakeNoZero.makeNoZero #[3] #[140]) QI,Q1];rfl
 have QU:=QR.lt;have c1:w.drew.cell? (ai b 1)=some (ah):=QR.cell 1;have k2:dK (w.alloc (.cells cs 5)) b #[d5 b,ah] 285:=QR.alloc _;have c2:(w.alloc (.cells cs 5)).cell? (ai b 1)=some (ah):=k2.cell 1;have f2:(w.alloc (.cells cs 5)).frozen? (ai b 1)=false:=k2.rules.2 1
 have hcopy:∀W:an,(Builtin.copy_ #[140,140] 3 #[.slice (some (ai w.heap.size 0)) 0 cs.size,ah]).run prog W= .ok (goInt 0) W:=
  λW=>run_copy_none W 140 140 3 5 _ _ 0 cs.size 0 0 underlying140 QI rfl
 clear hw;have QV:=Lib.grown_fresh (T:=285) (e:=5) (cs:=cs) hB QR hBw (Q2 QK) QG;rw[World.setCell_alloc_past _ _ _ _ QU]at QV;go_enter func229,ntmps229;go_wp2;go_region_o
 all_goals (go_wp2;go_end0;exact⟨rfl,QV⟩)
end Go.Proofs.YtfebdimolnobaaaGreatDoor
