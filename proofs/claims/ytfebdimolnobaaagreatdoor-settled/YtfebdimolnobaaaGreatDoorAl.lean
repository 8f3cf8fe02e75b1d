import Derived.Test.YtfebdimolnobaaaGreatDoorProg
import Derived.Below
import Derived.Deep.AppendLies
import Derived.OwnWalk
import Derived.WalkKit
import Derived.WalkSpells
import Derived.WalkLawsBesides
import Derived.Maps.AppendAt
import Derived.Deep.RegionHeld3
import Derived.Deep.DrawnRows
import Derived.Deep.RegionLaw
import Derived.Deep.CutRange
import Derived.Deep.Light
set_option maxRecDepth 100000
set_option maxHeartbeats 8000000
set_option linter.all false
namespace Go.Proofs.YtfebdimolnobaaaGreatDoor
open Go.RowKit Go.Proofs.Tryz
section
set_option linter.defProp false
abbrev aa (n:Int):Value:=.int .i64 n
abbrev ae (s:ByteArray):Value:=.string s
abbrev ai (b o:Nat):Addr:=⟨b,o,none⟩
abbrev ag (b:Nat):Value:=.pointer (some ⟨b,0,none⟩)
abbrev ah:Value:=.slice none 0 0
abbrev aj (w w':World):Prop:=Below w.heap.size w w'
abbrev ak (c:Array Value) (t:TypeId):Obj:=.cells c t
abbrev am:=ByteArray
abbrev an:=World
abbrev ap:=Nat → Prop
abbrev aq:=List Value
abbrev ar:=List ByteArray
abbrev au:=List Nat
abbrev aw:=Option Addr
def ax:=@List.setIfInBounds_toArray
def ay:=@Nat.le_refl
def aA:=@List.set_cons_zero
def aB:=@List.set_cons_succ
def aC:=@Nat.lt_of_lt_of_le
def aD:=@List.getElem_cons_zero
def aE:=@List.getElem_toArray
def aF:=@List.getElem_cons_succ
def aG:=@List.length_append
def aH:=@Nat.le_trans
def aI:=@List.mem_of_getElem?
def aJ:=@Bool.and_eq_true
def aK:=@List.getElem?_eq_getElem
def aL:=@Bool.false_eq_true
def aM:=@Nat.zero_le
def aN:=@List.mem_cons
def aO:=@List.getElem?_map
def aP:=@World.block_lt_of_cell?
def aQ:=@List.mem_map
def aR:=@List.nil_append
def aS:=@ByteArray.size_extract
def aT:=@List.mem_cons_self
def aU:=@List.getElem?_eq_none
def aV:=@List.mem_append
def aW:=@List.append_assoc
def aX:=@Option.map_eq_some_iff
def aY:=@List.contains_cons
def aZ:=@List.drop_eq_getElem_cons
def ba:=@List.pairwise_cons
def be:=@List.mem_cons_of_mem
def bf:=@World.ownsRow_nil
def bg:=@List.take_length
def bi:=@List.cons_append
def bj:=@World.cell?_of_block
def bm:=@List.length_map
def bn:=@List.length_take
def bo:=@Int.eq_ofNat_of_zero_le
def br:=@World.news_of_block
def bt:=@Array.getElem?_toList
def bu:=@Array.getElem?_eq_some_iff
def bw:=@List.flatMap_cons
def bz:=@Array.getElem?_eq_getElem
def bA:=@List.eq_nil_of_length_eq_zero
def bB:=@List.take_add_one
def bC:=@List.map_map
def bE:=@List.length_cons
def bF:=@List.not_mem_nil
def bG:=@Nat.le_of_lt
def bH:=@List.pairwise_iff_getElem
def bI:=@Nat.le_succ
def bJ:=@List.mem_singleton
def bK:=@List.append_nil
def bM:=@List.map_append
def bN:=@List.mem_filter
def bO:=@List.all_eq_true
def bS:=@List.pairwise_append
def bT:=@List.mem_iff_getElem?
def bU:=@List.take_of_length_le
def bV:=@Option.isSome_iff_exists
def bW:=@List.length_filter_le
def bX:=@List.take_append_drop
def bY:=@List.pairwise_map
def bZ:=@List.getD_eq_getElem?_getD
def b9:=@List.filter_cons
def ca:=@List.getElem?_eq_some_iff
def cg:=@Bool.eq_false_iff
def ch:=@List.map_cons
def ci:=@List.getElem?_take_of_lt
def cj:=@Bool.or_eq_true
def ck:=@World.size_alloc
def cl:=@Bool.false_and
def cm:=@Bool.not_eq_true'
def cn:=@Bool.eq_iff_iff
def co:=@List.drop_length
def cp:=@World.size_setCell
def cq:=@Bool.true_and
def cr:=@Bool.and_false
def cu:=@List.getElem?_cons_succ
def cw:=@List.getElem?_cons_zero
def cy:=@Array.getElem?_eq_none
def cz:=@Bool.true_or
def cA:=@Bool.or_true
def cB:=@List.getElem?_append_right
def cC:=@Bool.or_false
def cD:=@World.cell?_alloc_lt
def cE:=@List.drop_eq_nil_iff
def cF:=@Bool.not_true
def cG:=@Bool.not_false
def cH:=@ByteArray.data_extract
def cI:=@List.filter_append
def cJ:=@Int.natCast_add
def cK:=@ByteArray.ext
def cL:=@Option.mem_toList
def cM:=@List.getElem?_append_left
def cN:=@Array.toList_inj
def cO:=@Prod.ext
def cS:=@List.flatMap_append
def cT:=@Array.length_toList
def cU:=@Bool.and_true
def cV:=@Nat.add_assoc
def cW:=@Nat.shiftLeft_add_eq_or_of_lt
def cX:=@List.take_append_of_le_length
def cY:=@List.getElem?_toArray
def cZ:=@List.getElem?_of_mem
def da:=@Bool.or_eq_false_iff
def dd:=@Nat.pow_le_pow_right
def de:=@Nat.shiftLeft_eq
def df:=@Int.natCast_succ
def dg:=@Array.replicate_succ
def dh:=@Array.replicate_zero
def di:=@Bool.false_or
def dj:=@Int.le_refl
def dl:=@List.filter_sublist
def dm:=@List.filter_eq_self
def dq:=@List.append_toArray
def dt:=@List.length_nil
def du:=@Array.extract_size
def dv:=@List.any_eq_false
def dw:=@List.nodup_append
def dx:=@List.getElem?_set
def dy:=@List.size_toArray
def dz:=@List.push_toArray
def dA:=@if_neg
def dB:=@if_pos
def dC:=@of_decide_eq_true
def dD:=@decide_eq_true_eq
def dE:=@bodyPost_ret
def dF:=@congrArg
theorem QD{P:Prop}(h:P:=by omega):P:=h
theorem QE{P:Prop}(h:P:=by simp):P:=h
theorem QF{P:Prop}(h:P:=by simp;omega):P:=h
theorem QG{P:Prop}(h:P:=by decide):P:=h
theorem QH{P:Prop}(h:P:=by decide+kernel):P:=h
theorem QI{P:Prop}(h:P:=by kernel_rfl):P:=h
theorem QJ{P:Prop}(h:P:=by rfl):P:=h
theorem QK{P:Prop}(h:P:=by unfold maxLen;omega):P:=h
theorem QL{P:Prop}(h:P:=by simp[Value.oneCell']):P:=h
theorem QM{P:Prop}(h:P:=by first|omega|(simp<;>omega)):P:=h
theorem QN{P:Prop}(h:P:=by assumption):P:=h
theorem QO{P:Prop}(h:P:=by go_simp):P:=h
theorem QC:(∀{α:Type} (l:List α) (i:Nat) (a:α),l.toArray.setIfInBounds i a=(l.set i a).toArray)∧(∀{α:Type} (x a:α) (l:List α),(x::l).set 0 a=a::l)∧(∀{α:Type} (x a:α) (l:List α) (i:Nat),(x::l).set (i+1) a=x::l.set i a)∧(∀{α:Type} (l:List α) (i:Nat) (h:i<l.toArray.size),l.toArray[i]=l[i]'(by simpa using h))∧(∀{α:Type} (x:α) (l:List α) (h:0<(x::l).length),(x::l)[0]=x)∧∀{α:Type} (x:α) (l:List α) (i:Nat) (h:i+1<(x::l).length),(x::l)[i+1]=l[i]'(by simpa using h):=⟨by simp,by simp,by simp,by simp,by simp,by simp⟩
end
def ti (fn:Fn)(first cap:Array Value)(w:an):(Instr.makeFunc fn first cap).run prog w= .ok (.func fn first cap) w:=rfl
def gl {α:Type}{l:List α}{i:Nat}{x:α}(h:l[i]?=some x):i<l.length:=(ca.1 h).1
def gx {α:Type}{l:List α}{i:Nat}(h:i<l.length):∃x,l[i]?=some x:=⟨_,aK h⟩
def uL (c:Int):Bool:=(decide (97<=c)&&decide (c<=122))||(decide (65<=c)&&decide (c<=90))||c==95
def lJ (c:Int):Bool:=decide (48<=c)&&decide (c<=57)
def CG (c:Int):Bool:=c==32||c==10
def iz {a b:Bool}(h:a=true<->b=true):Ending.returned (.bool a)= .returned (.bool b):=by
 rw[cn.2 h]
def Gf (c:Int)(w:an):
  Calls prog 171 #[.int .u8 c] w λe w'=>e= .returned (.bool (uL c))/\w'=w:=by
 go_enter func171,ntmps171;go_wp2
 all_goals
  go_ret;exact⟨iz (by simp[uL];try omega),rfl⟩
def CH (c:Int)(w:an):
  Calls prog 172 #[.int .u8 c] w λe w'=>e= .returned (.bool (lJ c))/\w'=w:=by
 go_enter func172,ntmps172;go_wp2
 all_goals
  go_ret;exact⟨iz (by simp[lJ];try omega),rfl⟩
def PD (c:Int)(w:an):
  Calls prog 115 #[.int .u8 c] w λe w'=>e= .returned (.bool (CG c))/\w'=w:=by
 go_enter func115,ntmps115;go_wp2
 all_goals
  go_ret;exact⟨iz (by simp[CG];try omega),rfl⟩
def Jt:List (List UInt8):= [[109,101,115,115,97,103,101],[101,110,117,109],[114,101,112,101,97,116,101,100],[111,112,116,105,111,110,97,108],[111,110,101,111,102],[109,97,112]]
def mz:List (List UInt8):= [[105,110,116,51,50],[105,110,116,54,52],[117,105,110,116,51,50],[117,105,110,116,54,52],[115,105,110,116,51,50],[115,105,110,116,54,52],[98,111,111,108],[102,105,120,101,100,51,50],[102,105,120,101,100,54,52],[115,102,105,120,101,100,51,50],[115,102,105,120,101,100,54,52],[102,108,111,97,116],[100,111,117,98,108,101],[115,116,114,105,110,103],[98,121,116,101,115]]
def pZ (l:List UInt8):Bool:=Jt.contains l
def jh (l:List UInt8):Bool:=mz.contains l
def OW (s:am)(w:an):
  Calls prog 173 #[ae s] w λe w'=>e= .returned (.bool (pZ s.toList))/\w'=w:=by
 cases h0:(s.toList== [109,101,115,115,97,103,101])
 rotate_left
 ·go_enter func173,ntmps173;go_wp2;go_ret;exact⟨iz (by simp only[pZ,Jt,aY,h0];simp),rfl⟩
 cases h1:(s.toList== [101,110,117,109])
 rotate_left
 ·go_enter func173,ntmps173;go_wp2;go_ret;exact⟨iz (by simp only[pZ,Jt,aY,h0,h1];simp),rfl⟩
 cases h2:(s.toList== [114,101,112,101,97,116,101,100])
 rotate_left
 ·go_enter func173,ntmps173;go_wp2;go_ret;exact⟨iz (by simp only[pZ,Jt,aY,h0,h1,h2];simp),rfl⟩
 cases h3:(s.toList== [111,112,116,105,111,110,97,108])
 rotate_left
 ·go_enter func173,ntmps173;go_wp2;go_ret;exact⟨iz (by simp only[pZ,Jt,aY,h0,h1,h2,h3];simp),rfl⟩
 cases h4:(s.toList== [111,110,101,111,102])
 rotate_left
 ·go_enter func173,ntmps173;go_wp2;go_ret;exact⟨iz (by simp only[pZ,Jt,aY,h0,h1,h2,h3,h4];simp),rfl⟩
 cases h5:(s.toList== [109,97,112])
 rotate_left
 ·go_enter func173,ntmps173;go_wp2;go_ret;exact⟨iz (by simp only[pZ,Jt,aY,h0,h1,h2,h3,h4,h5];simp),rfl⟩
 ·go_enter func173,ntmps173;go_wp2;go_ret;exact⟨iz (by simp only[pZ,Jt,aY,h0,h1,h2,h3,h4,h5];simp),rfl⟩
def PE (s:am)(w:an):
  Calls prog 174 #[ae s] w λe w'=>e= .returned (.bool (jh s.toList))/\w'=w:=by
 cases h0:(s.toList== [105,110,116,51,50])
 rotate_left
 ·go_enter func174,ntmps174;go_wp2;go_ret;exact⟨iz (by simp only[jh,mz,aY,h0];simp),rfl⟩
 cases h1:(s.toList== [105,110,116,54,52])
 rotate_left
 ·go_enter func174,ntmps174;go_wp2;go_ret;exact⟨iz (by simp only[jh,mz,aY,h0,h1];simp),rfl⟩
 cases h2:(s.toList== [117,105,110,116,51,50])
 rotate_left
 ·go_enter func174,ntmps174;go_wp2;go_ret;exact⟨iz (by simp only[jh,mz,aY,h0,h1,h2];simp),rfl⟩
 cases h3:(s.toList== [117,105,110,116,54,52])
 rotate_left
 ·go_enter func174,ntmps174;go_wp2;go_ret;exact⟨iz (by simp only[jh,mz,aY,h0,h1,h2,h3];simp),rfl⟩
 cases h4:(s.toList== [115,105,110,116,51,50])
 rotate_left
 ·go_enter func174,ntmps174;go_wp2;go_ret;exact⟨iz (by simp only[jh,mz,aY,h0,h1,h2,h3,h4];simp),rfl⟩
 cases h5:(s.toList== [115,105,110,116,54,52])
 rotate_left
 ·go_enter func174,ntmps174;go_wp2;go_ret;exact⟨iz (by simp only[jh,mz,aY,h0,h1,h2,h3,h4,h5];simp),rfl⟩
 cases h6:(s.toList== [98,111,111,108])
 rotate_left
 ·go_enter func174,ntmps174;go_wp2;go_ret;exact⟨iz (by simp only[jh,mz,aY,h0,h1,h2,h3,h4,h5,h6];simp),rfl⟩
 cases h7:(s.toList== [102,105,120,101,100,51,50])
 rotate_left
 ·go_enter func174,ntmps174;go_wp2;go_ret;exact⟨iz (by simp only[jh,mz,aY,h0,h1,h2,h3,h4,h5,h6,h7];simp),rfl⟩
 cases h8:(s.toList== [102,105,120,101,100,54,52])
 rotate_left
 ·go_enter func174,ntmps174;go_wp2;go_ret;exact⟨iz (by simp only[jh,mz,aY,h0,h1,h2,h3,h4,h5,h6,h7,h8];simp),rfl⟩
 cases h9:(s.toList== [115,102,105,120,101,100,51,50])
 rotate_left
 ·go_enter func174,ntmps174;go_wp2;go_ret;exact⟨iz (by simp only[jh,mz,aY,h0,h1,h2,h3,h4,h5,h6,h7,h8,h9];simp),rfl⟩
 cases h10:(s.toList== [115,102,105,120,101,100,54,52])
 rotate_left
 ·go_enter func174,ntmps174;go_wp2;go_ret;exact⟨iz (by simp only[jh,mz,aY,h0,h1,h2,h3,h4,h5,h6,h7,h8,h9,h10];simp),rfl⟩
 cases h11:(s.toList== [102,108,111,97,116])
 rotate_left
 ·go_enter func174,ntmps174;go_wp2;go_ret;exact⟨iz (by simp only[jh,mz,aY,h0,h1,h2,h3,h4,h5,h6,h7,h8,h9,h10,h11];simp),rfl⟩
 cases h12:(s.toList== [100,111,117,98,108,101])
 rotate_left
 ·go_enter func174,ntmps174;go_wp2;go_ret;exact⟨iz (by simp only[jh,mz,aY,h0,h1,h2,h3,h4,h5,h6,h7,h8,h9,h10,h11,h12];simp),rfl⟩
 cases h13:(s.toList== [115,116,114,105,110,103])
 rotate_left
 ·go_enter func174,ntmps174;go_wp2;go_ret;exact⟨iz (by simp only[jh,mz,aY,h0,h1,h2,h3,h4,h5,h6,h7,h8,h9,h10,h11,h12,h13];simp),rfl⟩
 cases h14:(s.toList== [98,121,116,101,115])
 rotate_left
 ·go_enter func174,ntmps174;go_wp2;go_ret;exact⟨iz (by simp only[jh,mz,aY,h0,h1,h2,h3,h4,h5,h6,h7,h8,h9,h10,h11,h12,h13,h14];simp),rfl⟩
 ·go_enter func174,ntmps174;go_wp2;go_ret;exact⟨iz (by simp only[jh,mz,aY,h0,h1,h2,h3,h4,h5,h6,h7,h8,h9,h10,h11,h12,h13,h14];simp),rfl⟩
section
variable {t:am} {k n:Nat} {p:Int->Bool}
def fE (t:am)(k:Nat):Int:=if h:k<t.size then(t[k].toNat:Int)else 0
theorem jb (h:k<t.size):(t[k].toNat:Int)=fE t k:=by unfold fE;rw[dif_pos h]
def iV (p:Int->Bool)(t:am):Nat->Nat->Nat
 |0,k=>k
 |n+1,k=>if decide (k<t.size)&&p (fE t k)then iV p t n (k+1)else k
theorem tZ (hn:t.size-k<=n)(hk:k<t.size)(hp:p (fE t k)=true):
  ∃m,t.size-(k+1)<=m/\iV p t n k=iV p t m (k+1):=by
 cases n with
 |zero=>omega
 |succ m=>exact⟨m,QD,by simp[iV,hk,hp]⟩
theorem jN (h:¬k<t.size\/p (fE t k)=false):iV p t n k=k:=by
 cases n with
 |zero=>rfl
 |succ m=>rcases h with h|h<;>simp[iV,h]
theorem yL (p:Int->Bool)(t:am):∀n k,k<=t.size->k<=iV p t n k/\iV p t n k<=t.size
 |0,k,h=>⟨ay _,h⟩
 |n+1,k,h=>by
  unfold iV
  by_cases hc:(decide (k<t.size)&&p (fE t k))=true
  ·rw[dB hc];have h1:k<t.size:=by simp at hc;exact hc.1
   have:=yL p t n (k+1) h1;omega
  ·rw[dA hc];omega
def yM (c:Int):Bool:=uL c||lJ c
def g7 (t:am)(a:Nat):Nat:=
 if uL (fE t a)then iV yM t t.size (a+1)else if lJ (fE t a)&&fE t a !=48 then iV lJ t t.size (a+1)else a+1
theorem pz (t:am)(a:Nat)(h:a<t.size):a+1<=g7 t a/\g7 t a<=t.size:=by
 unfold g7
 split
 ·exact yL _ _ _ _ h
 ·split
  ·exact yL _ _ _ _ h
  ·omega
abbrev W:=am×Nat
def ko (t:am):Nat->Nat->List W
 |0,_=> []
 |n+1,a=>if a<t.size then if CG (fE t a)then ko t n (a+1)else(t.extract a (g7 t a),a)::ko t n (g7 t a)else []
def yN (t:am):List W:=ko t t.size 0
def gr (t:am):List W:=yN t++ [(⟨#[]⟩,t.size)]
theorem AL {a:Nat}(h:¬a<t.size):ko t n a= []:=by
 cases n with
 |zero=>rfl
 |succ n=>simp[ko,h]
theorem uM {a:Nat}(hn:t.size-a<=n)(h:a<t.size)(hg:CG (fE t a)=true):
  ∃m,t.size-(a+1)<=m/\ko t n a=ko t m (a+1):=by
 cases n with
 |zero=>omega
 |succ m=>exact⟨m,QD,by simp[ko,h,hg]⟩
theorem xw {a:Nat}(hn:t.size-a<=n)(h:a<t.size)(hg:CG (fE t a)=false):
  ∃m,t.size-(g7 t a)<=m/\ko t n a=(t.extract a (g7 t a),a)::ko t m (g7 t a):=by
 cases n with
 |zero=>omega
 |succ m=>
  have:=pz t a h;exact⟨m,QD,by simp[ko,h,hg]⟩
theorem ou (t:am):∀n a,∀x∈ko t n a,a<=x.2/\x.2<t.size/\0<x.1.size/\x.1.size<=t.size
 |0,a,x,h=>by simp[ko]at h
 |n+1,a,x,h=>by
  unfold ko at h
  by_cases ha:a<t.size
  ·rw[dB ha]at h
   by_cases hg:CG (fE t a)=true
   ·rw[dB hg]at h;have:=ou t n (a+1) x h;omega
   ·rw[dA hg]at h;have he:=pz t a ha
    rcases aN.1 h with rfl|h
    ·refine⟨ay _,ha,?_,?_⟩<;>simp[aS]<;>omega
    ·have:=ou t n (g7 t a) x h;omega
  ·rw[dA ha]at h;simp at h
theorem ov (t:am):∀n a,(ko t n a).length<=t.size-a
 |0,a=>by simp[ko]
 |n+1,a=>by
  unfold ko
  by_cases ha:a<t.size
  ·rw[dB ha];have he:=pz t a ha
   by_cases hg:CG (fE t a)=true
   ·rw[dB hg];have:=ov t n (a+1);omega
   ·rw[dA hg];have:=ov t n (g7 t a);simp only[bE];omega
  ·rw[dA ha];simp
end
def rW {k:IntKind}{a b:Int}(h:a=b):Ending.returned (.int k a)= .returned (.int k b):=by rw[h]
def P7 (t:am)(a:Nat)(w:an)(h:a<t.size)(ht:t.size<=2000):
  Calls prog 116 #[ae t,aa a] w λe w'=>e= .returned (aa (g7 t a))/\w'=w:=by
 have hb:=jb h
 cases h1:uL (fE t a)
 ·cases h2:lJ (fE t a)
  ·have HE:Hid (g7 t a=a+1):=by unfold g7;simp[h1,h2,Hid]
   go_enter func116,ntmps116;go_wp2_with (first|(go_at_call 171;refine(Gf _ _).mono ?_;rintro e w' ⟨rfl,rfl⟩)|(go_at_call 172;refine(CH _ _).mono ?_;rintro e w' ⟨rfl,rfl⟩))
   go_ret;exact⟨rW (by rw[HE.out];simp),rfl⟩
  ·cases h3:(fE t a !=48)
   ·have HE:Hid (g7 t a=a+1):=by unfold g7;simp only[h1,h2,h3,Hid];simp
    go_enter func116,ntmps116;go_wp2_with (first|(go_at_call 171;refine(Gf _ _).mono ?_;rintro e w' ⟨rfl,rfl⟩)|(go_at_call 172;refine(CH _ _).mono ?_;rintro e w' ⟨rfl,rfl⟩))
    go_ret;exact⟨rW (by rw[HE.out];simp),rfl⟩
   ·have HE:Hid (g7 t a=iV lJ t t.size (a+1)):=by unfold g7;simp only[h1,h2,h3,Hid];simp
    go_enter func116,ntmps116;go_wp2_with (first|(go_at_call 171;refine(Gf _ _).mono ?_;rintro e w' ⟨rfl,rfl⟩)|(go_at_call 172;refine(CH _ _).mono ?_;rintro e w' ⟨rfl,rfl⟩))
    go_loop [6] (λi=>∃n k:Nat,k<=t.size/\t.size-k<=n/\Hid (iV lJ t n k=iV lJ t t.size (a+1))/\i=aa k) (λi=>t.size-(intOf i).toNat)
    case atStart=>exact⟨t.size,a+1,QD,QD,rfl,QE⟩
    case round=>
     obtain⟨n,k,hk,hn,HS,rfl⟩:=hrel
     by_cases hlt:k<t.size
     ·have QP:=jb hlt
      cases h4:lJ (fE t k)
      ·have HF:Hid (k=iV lJ t t.size (a+1)):=by rw[<-HS.out,jN (.inr h4)];exact rfl
       go_wp2_with (first|(go_at_call 172;refine(CH _ _).mono ?_;rintro e w' ⟨rfl,rfl⟩))
       go_ret;exact⟨rW (by rw[HE.out,<-HF.out]),rfl⟩
      ·obtain⟨m,hm,hs⟩:=tZ hn hlt h4;have HF:Hid (iV lJ t m (k+1)=iV lJ t t.size (a+1)):=hs.symm.trans HS.out;clear hs;go_wp2_with (first|(go_at_call 172;refine(CH _ _).mono ?_;rintro e w' ⟨rfl,rfl⟩))
       go_round
       case rel=>exact⟨m,k+1,QD,hm,HF,by go_num⟩
       case measure=>simp[intOf];omega
     ·have HF:Hid (k=iV lJ t t.size (a+1)):=by rw[<-HS.out,jN (.inl hlt)];exact rfl
      go_wp2_with (first|(go_at_call 172;refine(CH _ _).mono ?_;rintro e w' ⟨rfl,rfl⟩))
      go_ret;exact⟨rW (by rw[HE.out,<-HF.out]),rfl⟩
 ·have HE:Hid (g7 t a=iV yM t t.size (a+1)):=by unfold g7;simp only[h1,Hid];simp
  go_enter func116,ntmps116;go_wp2_with (first|(go_at_call 171;refine(Gf _ _).mono ?_;rintro e w' ⟨rfl,rfl⟩)|(go_at_call 172;refine(CH _ _).mono ?_;rintro e w' ⟨rfl,rfl⟩))
  go_loop [6] (λi=>∃n k:Nat,k<=t.size/\t.size-k<=n/\Hid (iV yM t n k=iV yM t t.size (a+1))/\i=aa k) (λi=>t.size-(intOf i).toNat)
  case atStart=>exact⟨t.size,a+1,QD,QD,rfl,QE⟩
  case round=>
   obtain⟨n,k,hk,hn,HS,rfl⟩:=hrel
   by_cases hlt:k<t.size
   ·have QP:=jb hlt
    cases h4:yM (fE t k)
    ·have HF:Hid (k=iV yM t t.size (a+1)):=by rw[<-HS.out,jN (.inr h4)];exact rfl
     have h5:uL (fE t k)=false/\lJ (fE t k)=false:=by simpa [yM]using h4
     obtain⟨h5,h6⟩:=h5;clear h4;go_wp2_with (first|(go_at_call 171;refine(Gf _ _).mono ?_;rintro e w' ⟨rfl,rfl⟩)|(go_at_call 172;refine(CH _ _).mono ?_;rintro e w' ⟨rfl,rfl⟩))
     go_ret;exact⟨rW (by rw[HE.out,<-HF.out]),rfl⟩
    ·obtain⟨m,hm,hs⟩:=tZ hn hlt h4;have HF:Hid (iV yM t m (k+1)=iV yM t t.size (a+1)):=hs.symm.trans HS.out;clear hs
     cases h5:uL (fE t k)
     ·have h6:lJ (fE t k)=true:=by simpa [yM,h5]using h4
      clear h4;go_wp2_with (first|(go_at_call 171;refine(Gf _ _).mono ?_;rintro e w' ⟨rfl,rfl⟩)|(go_at_call 172;refine(CH _ _).mono ?_;rintro e w' ⟨rfl,rfl⟩))
      go_round
      case rel=>exact⟨m,k+1,QD,hm,HF,by go_num⟩
      case measure=>simp[intOf];omega
     ·clear h4;go_wp2_with (first|(go_at_call 171;refine(Gf _ _).mono ?_;rintro e w' ⟨rfl,rfl⟩)|(go_at_call 172;refine(CH _ _).mono ?_;rintro e w' ⟨rfl,rfl⟩))
      go_round
      case rel=>exact⟨m,k+1,QD,hm,HF,by go_num⟩
      case measure=>simp[intOf];omega
   ·have HF:Hid (k=iV yM t t.size (a+1)):=by rw[<-HS.out,jN (.inl hlt)];exact rfl
    go_wp2_with (first|(go_at_call 172;refine(CH _ _).mono ?_;rintro e w' ⟨rfl,rfl⟩))
    go_ret;exact⟨rW (by rw[HE.out,<-HF.out]),rfl⟩
def jc (s:am):Int:=
 if lJ (fE s 0)then 2 else if !uL (fE s 0)||pZ s.toList then 0 else if jh s.toList then 3 else 1
def dH (s:am):Int:=if s.size=0 then 4 else jc s
def P8 (s:am)(w:an)(h:0<s.size):
  Calls prog 117 #[ae s] w λe w'=>e= .returned (aa (jc s))/\w'=w:=by
 have hb:=jb h
 cases h1:lJ (fE s 0)
 ·cases h2:uL (fE s 0)
  ·have HE:Hid (jc s=0):=by unfold jc;simp[h1,h2,Hid]
   go_enter func117,ntmps117;go_wp2_with (first|(go_at_call 171;refine(Gf _ _).mono ?_;rintro e w' ⟨rfl,rfl⟩)|(go_at_call 172;refine(CH _ _).mono ?_;rintro e w' ⟨rfl,rfl⟩))
   go_ret;exact⟨rW (by rw[HE.out]),rfl⟩
  ·cases h3:pZ s.toList
   ·cases h4:jh s.toList
    ·have HE:Hid (jc s=1):=by unfold jc;simp[h1,h2,h3,h4,Hid]
     go_enter func117,ntmps117;go_wp2_with (first|(go_at_call 171;refine(Gf _ _).mono ?_;rintro e w' ⟨rfl,rfl⟩)|(go_at_call 172;refine(CH _ _).mono ?_;rintro e w' ⟨rfl,rfl⟩)|(go_at_call 173;refine(OW _ _).mono ?_;rintro e w' ⟨rfl,rfl⟩)|(go_at_call 174;refine(PE _ _).mono ?_;rintro e w' ⟨rfl,rfl⟩))
     go_ret;exact⟨rW (by rw[HE.out]),rfl⟩
    ·have HE:Hid (jc s=3):=by unfold jc;simp[h1,h2,h3,h4,Hid]
     go_enter func117,ntmps117;go_wp2_with (first|(go_at_call 171;refine(Gf _ _).mono ?_;rintro e w' ⟨rfl,rfl⟩)|(go_at_call 172;refine(CH _ _).mono ?_;rintro e w' ⟨rfl,rfl⟩)|(go_at_call 173;refine(OW _ _).mono ?_;rintro e w' ⟨rfl,rfl⟩)|(go_at_call 174;refine(PE _ _).mono ?_;rintro e w' ⟨rfl,rfl⟩))
     go_ret;exact⟨rW (by rw[HE.out]),rfl⟩
   ·have HE:Hid (jc s=0):=by unfold jc;simp[h1,h2,h3,Hid]
    go_enter func117,ntmps117;go_wp2_with (first|(go_at_call 171;refine(Gf _ _).mono ?_;rintro e w' ⟨rfl,rfl⟩)|(go_at_call 172;refine(CH _ _).mono ?_;rintro e w' ⟨rfl,rfl⟩)|(go_at_call 173;refine(OW _ _).mono ?_;rintro e w' ⟨rfl,rfl⟩))
    go_ret;exact⟨rW (by rw[HE.out]),rfl⟩
 ·have HE:Hid (jc s=2):=by unfold jc;simp[h1,Hid]
  go_enter func117,ntmps117;go_wp2_with (first|(go_at_call 171;refine(Gf _ _).mono ?_;rintro e w' ⟨rfl,rfl⟩)|(go_at_call 172;refine(CH _ _).mono ?_;rintro e w' ⟨rfl,rfl⟩))
  go_ret;exact⟨rW (by rw[HE.out]),rfl⟩
def yO {k:IntKind}{a b:Int}(h:a=b):Value.int k a= .int k b:=by rw[h]
def uN (x:W):aq:= [aa (dH x.1),ae x.1,aa x.2]
def ow (w:an)(a b c:Value)(t:TypeId):∀j u,[a,b,c][j]?=some u->(w.alloc (.cells #[a,b,c] t)).cell? (((ai w.heap.size 0):Addr).add j)=some u:=by
 intro j u hj
 match j,hj with
 |0,hj=>simp at hj;subst hj;simp[Addr.add]
 |1,hj=>simp at hj;subst hj;simp[Addr.add]
 |2,hj=>simp at hj;subst hj;simp[Addr.add]
 |j+3,hj=>simp at hj
def Tryz.info148:(prog.info? 148).map (λi=>(i.zero,i.size,i.bytes))=some (some (.agg #[aa 0,ae ⟨#[]⟩,aa 0]),3,32):=QI
def P9 (t:am)(w:an)(ht:t.size<=2000):
  Calls prog 69 #[ae t] w λe w'=>∃v,e= .returned v/\w'.ownsRow w.heap.size 148 3 v (gr t).length ((gr t).flatMap uN)/\aj w w':=by
 obtain⟨i0,hi,Q0,Q1,Q2⟩:=info_parts Tryz.info148;go_enter func69,ntmps69;go_wp2;go_loopw [3,4] (λv a wr=>∃(n k:Nat) (pre:List W),k<=t.size/\t.size-k<=n/\pre.length<=k/\Hid (pre++ko t n k=yN t)/\a=aa k/\wr.ownsRow w.heap.size 148 3 v pre.length (pre.flatMap uN)/\aj w wr) (λ_ i _=>t.size-(intOf i).toNat)
 case atStart=>exact⟨t.size,0,[],QD,QD,QE,rfl,rfl,bf _ _ _ _,Below.refl _ _⟩
 case round=>
  obtain⟨n,k,pre,hk,hn,hpl,HL,rfl,QP,QS⟩:=hrel
  by_cases QT:k<t.size
  ·have hbk:=jb QT
   cases hg:CG (fE t k)
   ·have he:=pz t k QT;have Q3:0<(t.extract k (g7 t k)).size:=by rw[aS];omega
    obtain⟨m,hm,QU⟩:=xw hn QT hg
    have HF:Hid ((pre++ [(t.extract k (g7 t k),k)])++ko t m (g7 t k)=yN t):=by
     have:=HL.out;rw[QU]at this;simpa [Hid]using this
    have HK:Hid (dH (t.extract k (g7 t k))=jc (t.extract k (g7 t k))):=by
     unfold dH;rw[dA QD];exact rfl
    clear QU;go_wp2_with (first|(go_at_call 115;refine(PD _ _).mono ?_;rintro e w' ⟨rfl,rfl⟩)|(go_at_call 116;refine(P7 _ _ _ QT ht).mono ?_;rintro e w' ⟨rfl,rfl⟩)|(go_at_call 117;refine(P8 _ _ Q3).mono ?_;rintro e w' ⟨rfl,rfl⟩)|(at_builtin;refine wpList_append_own_at _ rfl _ _ 155 rfl w.heap.size 148 i0 _ 3 32 underlying155 hi Q0 Q1 Q2 rfl QG u3 _ _ rfl (QP.alloc _) _ 1 1 [_,_,_] rfl rfl (ow _ _ _ _ _) ?h1 ?QV ?QW ?QX ?_;rotate_right;intro v' w1 QQ QR QY QZ))
    case h1=>intro u hu;simp at hu;rcases hu with rfl|rfl|rfl<;>rfl
    case QV=>unfold maxLen;omega
    case QW=>omega
    case QX=>have:=QS.size;simp;omega
    refine⟨⟨m,g7 t k,pre++ [(t.extract k (g7 t k),k)],he.2,hm,QF,HF,yO QD,?_,?_⟩,by simp[intOf];omega⟩
    ·simpa [uN,HK.out]using QQ
    ·exact(QS.alloc QS.size _).grown QR (by have:=QS.size;simp;omega) (λj hj=>(QP.lt j hj).1)
   ·obtain⟨m,hm,QU⟩:=uM hn QT hg
    have HF:Hid (pre++ko t m (k+1)=yN t):=by
     have:=HL.out;rw[QU]at this;simpa [Hid]using this
    clear QU;go_wp2_with (first|(go_at_call 115;refine(PD _ _).mono ?_;rintro e w' ⟨rfl,rfl⟩))
    go_roundw
    case rel=>exact⟨m,k+1,pre,QD,hm,QD,HF,by go_num,QP,QS⟩
    case measure=>simp[intOf];omega
  ·have HF:Hid (pre=yN t):=by
    have:=HL.out;rw[AL QT]at this;simpa [Hid]using this
   go_wp2_with (first|(at_builtin;refine wpList_append_own_at _ rfl _ _ 155 rfl w.heap.size 148 i0 _ 3 32 underlying155 hi Q0 Q1 Q2 rfl QG u3 _ _ rfl (QP.alloc _) _ 1 1 [_,_,_] rfl rfl (ow _ _ _ _ _) ?h1 ?QV ?QW ?QX ?_;rotate_right;intro v' w1 QQ QR QY QZ))
   case h1=>intro u hu;simp at hu;rcases hu with rfl|rfl|rfl<;>rfl
   case QV=>unfold maxLen;omega
   case QW=>omega
   case QX=>have:=QS.size;simp;omega
   go_ret;refine⟨v',rfl,?_,?_⟩
   ·have:=HF.out;subst this;have hk:dH ⟨#[]⟩=4:=rfl;simpa [gr,uN,hk]using QQ
   ·exact(QS.alloc QS.size _).grown QR (by have:=QS.size;simp;omega) (λj hj=>(QP.lt j hj).1)
section
variable {w w':an} {n rb j:Nat} {ws:List W}
structure Rd (w:an)(rb wb:Nat)(ws:List W)(i:Nat):Prop where
 lt:i<ws.length
 few:ws.length<=2001
 ne:rb≠wb
 row:∃cap,w.cell? (ai rb 0)=some (.slice (some (ai wb 0)) ws.length cap)
 next:w.cell? (ai rb 1)=some (aa i)
 free:w.frozen? (ai rb 1)=false
 words:∀(k:Nat) (x:W),ws[k]?=some x->w.cell? (ai wb (k*3))=some (aa (dH x.1))/\w.cell? (ai wb (k*3+1))=some (ae x.1)/\w.cell? (ai wb (k*3+2))=some (aa x.2)
 ends:∀(k:Nat) (x:W),ws[k]?=some x->0<x.1.size->k+1<ws.length
 small:∀(k:Nat) (x:W),ws[k]?=some x->x.1.size<=2000/\x.2<=2000
theorem Gg (e p:Int)(w:an):
  Calls prog 68 #[aa e,aa p] w λe' w'=>e'= .panicked [{v:= .iface 142 (.agg #[aa e,aa p]),recovered:=false}]/\w'=w:=by
 go_enter func68,ntmps68;go_wp2;exact⟨rfl,rfl,rfl⟩
theorem DR (w:an)(rb wb:Nat)(ws:List W)(i:Nat)(x:W)(R:Rd w rb wb ws i)(hx:ws[i]?=some x):
  Calls prog 118 #[ag rb] w λe w'=>e= .returned (.agg #[aa (dH x.1),ae x.1,aa x.2])/\aj w w':=by
 obtain⟨cap,QP⟩:=R.row;have QQ:=R.next;have hlt:=R.lt;have hfew:=R.few;obtain⟨q0,q1,q2⟩:=R.words i x hx;clear R hx;have a0:=λo=>(cD w o _ (aP _ _ QP)).trans QP
 have a1:=λo=>(cD w o _ (aP _ _ QQ)).trans QQ
 have b0:=λo=>(cD w o _ (aP _ _ q0)).trans q0
 have b1:=λo=>(cD w o _ (aP _ _ q1)).trans q1
 have b2:=λo=>(cD w o _ (aP _ _ q2)).trans q2
 go_enter func118,ntmps118;go_wp2;go_region
 go_wp2;exact dE (v:= .agg #[aa (dH x.1),ae x.1,aa x.2]) (by simp[results,results118,go_sem]) rfl ⟨rfl,((Below.refl _ _).alloc (ay _) _).drew⟩
def AF (w:an)(rb j:Nat):an:=w.setCell (ai rb 1) (aa j)
def ip (n rb:Nat)(w w':an)(j:Nat):Prop:=Below n (AF w rb j) w'
theorem uO (w:an)(rb j:Nat):(AF w rb j).heap.size=w.heap.size:=by simp[AF,World.setCell]
def lO (off:Nat)(v:Value):Obj->Obj
 | .cells c e f=> .cells (c.setIfInBounds off v) e f
 |o=>o
theorem dJ (w:an)(b off:Nat)(v:Value)(k:Nat):(w.setCell (ai b off) v).heap[k]?=if b=k then(w.heap[k]?).map (lO off v)else w.heap[k]?:=by
 simp only[World.setCell,Array.getElem?_modify]
 split
 ·cases w.heap[k]? with
  |none=>rfl
  |some o=>cases o<;>rfl
 ·rfl
theorem yS (off:Nat)(u v:Value)(o:Obj):lO off v (lO off u o)=lO off v o:=by
 cases o<;>simp[lO]
theorem AM {b off:Nat}{v:Value}(h:w.cell? (ai b off)=some v):(w.heap[b]?).map (lO off v)=w.heap[b]?:=by
 unfold World.cell? at h
 cases ho:w.heap[b]? with
 |none=>rfl
 |some o=>
  simp only[ho]at h
  cases o with
  |cells c e f=>
   simp at h;simp only[Option.map_some,lO]
   congr 2;apply Array.ext
   ·simp
   ·intro i h1 h2;rw[Array.getElem_setIfInBounds]
    split
    ·subst_vars
     rw[bz h2]at h;exact(Option.some.inj h).symm
    ·rfl
  |_=>rfl
theorem ip.of_below (h:w.cell? (ai rb 1)=some (aa j))(hb:Below n w w'):ip n rb w w' j:=by
 refine⟨hb.os,hb.tape,hb.output,by rw[uO];exact hb.size,λk hk=> ?_⟩;rw[hb.block k hk,AF,dJ]
 split
 ·subst_vars;exact(AM h).symm
 ·rfl
theorem ip.trans {w1 w2:an}{m i:Nat}(h:ip n rb w w1 i)(k:ip m rb w1 w2 j)(hnm:n<=m):ip n rb w w2 j:=by
 refine⟨k.os.trans h.os,k.tape.trans h.tape,k.output.trans h.output,?_,λb hb=> ?_⟩
 ·have h1:=h.size;have h2:=k.size;rw[uO]at*;omega
 ·rw[k.block b QD,AF,dJ,h.block b hb,AF,AF,dJ,dJ]
  split
  ·simp only[Option.map_map];congr 1;funext o;exact yS _ _ _ _
  ·rfl
theorem ip.size (h:ip n rb w w' j):w.heap.size<=w'.heap.size:=by have:=Below.size h;rwa [uO]at this
theorem ip.cell (h:ip n rb w w' j){a:Addr}(ha:a.block<n)(hne:a.block≠rb):w'.cell? a=w.cell? a:=by
 refine bj ((Below.block h a.block ha).trans ?_);rw[AF,dJ,dA (λe=>hne e.symm)]
theorem ip.rd {wb i:Nat}(R:Rd w rb wb ws i)(h:ip n rb w w' j)(hr:rb<n)(hw:wb<n)(hj:j<ws.length):Rd w' rb wb ws j:=by
 obtain⟨cap,QP⟩:=R.row;have QR:∀off,w'.cell? (ai wb off)=w.cell? (ai wb off):=λoff=>h.cell (a:=(ai wb off)) hw (λe=>R.ne e.symm)
 refine⟨hj,R.few,R.ne,⟨cap,?_⟩,?_,?_,λk x hx=> ?_,R.ends,R.small⟩
 ·rw[Below.cell h (p:=(ai rb 0)) hr,AF,World.cell?_setCell_other _ _ _ _ QE];exact QP
 ·rw[Below.cell h (p:=(ai rb 1)) hr,AF];exact World.cell?_setCell_same _ _ _ R.next
 ·rw[Below.frozen h (p:=(ai rb 1)) hr,AF,World.frozen?_setCell];exact R.free
 ·rw[QR,QR,QR];exact R.words k x hx
theorem Rd.blocks {wb i:Nat}(R:Rd w rb wb ws i):rb<w.heap.size/\wb<w.heap.size:=by
 refine⟨aP _ _ R.next,?_⟩;obtain⟨x,hx⟩:∃x,ws[i]?=some x:=⟨_,aK R.lt⟩;exact aP _ _ (R.words i x hx).1
end
section
variable (w:an) {b n rb j:Nat} {w1 w':an} {ws:List W} {row:Option Nat} {s:am}
theorem fT {w:an}(h:b<w.heap.size):(∀o off,(w.alloc o).cell? (ai b off)=w.cell? (ai b off))/\(∀o off,(w.alloc o).frozen? (ai b off)=w.frozen? (ai b off))/\¬b=w.heap.size/\¬w.heap.size=b:=
 ⟨λo off=>cD w o (ai b off) h,λo off=>World.frozen?_of_block (Below.heap_alloc w o b h),QD,QD⟩
theorem pA {w:an}(hb:Below n w w1)(h:b<n):(∀off,w1.cell? (ai b off)=w.cell? (ai b off))/\(∀off,w1.frozen? (ai b off)=w.frozen? (ai b off)):=
 ⟨λoff=>hb.cell (p:=(ai b off)) h,λoff=>hb.frozen (p:=(ai b off)) h⟩
theorem Rd.below {w:an}{wb i:Nat}(R:Rd w rb wb ws i)(h:Below n w w')(hr:rb<n)(hw:wb<n):Rd w' rb wb ws i:=
 (ip.of_below R.next h).rd R hr hw R.lt
theorem Rd.alloc {w:an}{wb i:Nat}(R:Rd w rb wb ws i)(o:Obj):Rd (w.alloc o) rb wb ws i:=
 R.below ((Below.refl w.heap.size w).alloc (ay _) o) R.blocks.1 R.blocks.2
theorem ip.alloc {w:an}(h:ip n rb w w' j)(hn:n<=w.heap.size)(o:Obj):ip n rb w (w'.alloc o) j:=
 Below.alloc h (aH hn h.size) o
theorem ip.setCell {w:an}(h:ip n rb w w' j){a:Addr}(ha:n<=a.block)(u:Value):ip n rb w (w'.setCell a u) j:=Below.setCell h ha u
theorem ip.drew {w:an}(h:ip n rb w w' j):ip n rb w w'.drew j:=Below.drew h
theorem ip.grown {w:an}(h:ip n rb w w1 j)(hg:w1.grownBy w' row)(hn:n<=w.heap.size)(hr:∀k,row=some k->n<=k):ip n rb w w' j:=
 Below.grown h hg (aH hn h.size) hr
theorem ip.below {w:an}{m:Nat}(h:ip n rb w w1 j)(hb:Below m w1 w')(hnm:n<=m):ip n rb w w' j:=Below.trans h (hb.mono hnm)
theorem ip.step {w:an}{i:Nat}(h:ip n rb w w' i)(j:Nat):ip n rb w (w'.setCell (ai rb 1) (aa j)) j:=
 h.trans (Below.refl n (AF w' rb j)) (ay _)
theorem NN (rb wb:Nat)(ws:List W)(i:Nat)(x:W)(R:Rd w rb wb ws i)(hx:ws[i]?=some x)(hs:0<x.1.size):
  Calls prog 337 #[ag rb] w λe w'=>e= .returned (.agg #[aa (dH x.1),ae x.1,aa x.2])/\Rd w' rb wb ws (i+1)/\ip w.heap.size rb w w' (i+1):=by
 have hlt:=R.lt;have hfew:=R.few;obtain⟨QR,QS⟩:=R.blocks;go_enter func337,ntmps337;go_wp2_with fail;refine(DR _ rb wb ws i x (R.alloc _) hx).mono ?_;rintro e w1 ⟨rfl,QP⟩;have hz:w.heap.size<w1.heap.size:=by have:=QP.size;simp at this;omega
 have R1:=(R.alloc _).below QP QF QF;obtain⟨p1,p2,p3,p4⟩:=fT (w:=w1) (b:=rb) QD;obtain⟨s1,s2,s3,s4⟩:=fT (w:=w1) (b:=w.heap.size) hz;obtain⟨t1,t2⟩:=pA QP (b:=w.heap.size) QE;have n1:=R1.next;have n2:=R1.free;have n3:¬rb=w.heap.size:=QD;have n4:¬w.heap.size=rb:=QD;go_wp2_with fail;have A1:ip w.heap.size rb w w1 i:=ip.of_below R.next (((Below.refl w.heap.size w).alloc (ay _) _).trans (QP.mono QE));have A2:=(((((A1.alloc (ay _) (ak #[Value.int IntKind.i64 (dH x.fst),Value.string x.fst,Value.int IntKind.i64 x.snd] 148)).step (i+1)).setCell (a:=(ai w.heap.size 0)) (ay _) (Value.int IntKind.i64 (dH x.fst))).setCell (a:=(ai w.heap.size 1)) (ay _) (Value.string x.fst)).setCell (a:=(ai w.heap.size 2)) (ay _) (Value.int IntKind.i64 x.snd));refine dE (v:= .agg #[aa (dH x.1),ae x.1,aa x.2]) ?_ rfl ⟨rfl,?_,A2⟩
 ·simp[results,results337,go_sem, *]
 ·exact A2.rd R QR QS (R.ends i x hx hs)
theorem ji (a b c:Value)(w:an):(Instr.field 148 (.agg #[a,b,c]) 0).run prog w= .ok a w:=QI
theorem jj (a b c:Value)(w:an):(Instr.field 148 (.agg #[a,b,c]) 1).run prog w= .ok b w:=QI
theorem jk (a b c:Value)(w:an):(Instr.field 148 (.agg #[a,b,c]) 2).run prog w= .ok c w:=QI
attribute [local go_sem] ji jj jk
def dI (e p:Int):Ending:= .panicked [{v:= .iface 142 (.agg #[aa e,aa p]),recovered:=false}]
theorem PG (rb wb:Nat)(ws:List W)(i:Nat)(x:W)(R:Rd w rb wb ws i)(hx:ws[i]?=some x):
  Calls prog 336 #[ag rb] w λe w'=>e=dI 2 x.2/\aj w w':=by
 go_enter func336,ntmps336;go_wp2_with fail;refine(DR _ rb wb ws i x R hx).mono ?_;rintro e w1 ⟨rfl,QP⟩;go_wp2_with fail;refine(Gg _ _ _).mono ?_;rintro e w2 ⟨rfl,rfl⟩;go_wp2;exact⟨rfl,rfl,QP⟩
theorem Jo (rb wb:Nat)(ws:List W)(i:Nat)(x:W)(s:am)(R:Rd w rb wb ws i)(hx:ws[i]?=some x):
  Calls prog 175 #[ag rb,ae s] w λe w'=>e= .returned (.bool (x.1.toList==s.toList))/\aj w w':=by
 go_enter func175,ntmps175;go_wp2_with fail;refine(DR _ rb wb ws i x R hx).mono ?_;rintro e w1 ⟨rfl,QP⟩;go_wp2;go_ret;exact⟨rfl,QP⟩
theorem qQ (h:dH s≠4):0<s.size:=by
 unfold dH at h
 by_cases h0:s.size=0
 ·rw[dB h0]at h;exact absurd rfl h
 ·omega
theorem nS {l:List UInt8}(h:(s.toList==l)=true)(hl:0<l.length):0<s.size:=by
 have h1:s.toList=l:=by simpa using h
 have h2:s.toList.length=s.size:=by rw[ByteArray.toList_eq];rfl
 rw[h1]at h2;omega
theorem Mc (rb wb:Nat)(ws:List W)(i:Nat)(x:W)(s:am)(R:Rd w rb wb ws i)(hx:ws[i]?=some x)(hs:(x.1.toList==s.toList)=true)(hp:0<x.1.size):
  Calls prog 256 #[ag rb,ae s] w λe w'=>e= .returned (.tuple #[])/\Rd w' rb wb ws (i+1)/\ip w.heap.size rb w w' (i+1):=by
 go_enter func256,ntmps256;go_wp2_with fail;refine(Jo _ rb wb ws i x s R hx).mono ?_;rintro e w1 ⟨rfl,QP⟩;have R1:=R.below QP R.blocks.1 R.blocks.2;have A1:=ip.of_below R.next QP;go_wp2_with fail;refine(NN _ rb wb ws i x R1 hx hp).mono ?_;rintro e w2 ⟨rfl,R2,A2⟩;go_wp2;go_end0;exact⟨rfl,R2,A1.trans A2 A1.size⟩
theorem Md (rb wb:Nat)(ws:List W)(i:Nat)(x:W)(s:am)(R:Rd w rb wb ws i)(hx:ws[i]?=some x)(hs:(x.1.toList==s.toList)=false):
  Calls prog 256 #[ag rb,ae s] w λe w'=>e=dI 2 x.2/\ip w.heap.size rb w w' i:=by
 go_enter func256,ntmps256;go_wp2_with fail;refine(Jo _ rb wb ws i x s R hx).mono ?_;rintro e w1 ⟨rfl,QP⟩;have R1:=R.below QP R.blocks.1 R.blocks.2;have A1:=ip.of_below R.next QP;go_wp2_with fail;refine(PG _ rb wb ws i x R1 hx).mono ?_;rintro e w2 ⟨rfl,QQ⟩;unfold dI;go_wp2;exact⟨rfl,rfl,A1.below QQ QP.size⟩
theorem Me (rb wb:Nat)(ws:List W)(i:Nat)(x:W)(k:Int)(R:Rd w rb wb ws i)(hx:ws[i]?=some x)(hs:(dH x.1 !=k)=false)(hp:0<x.1.size):
  Calls prog 257 #[ag rb,aa k] w λe w'=>e= .returned (.agg #[aa (dH x.1),ae x.1,aa x.2])/\Rd w' rb wb ws (i+1)/\ip w.heap.size rb w w' (i+1):=by
 have B0:=(Below.refl w.heap.size w).alloc (ay _) (ak #[Value.int IntKind.i64 0,Value.string {data:= #[]},Value.int IntKind.i64 0] 148);go_enter func257,ntmps257;go_wp2_with fail;refine(DR _ rb wb ws i x (R.alloc _) hx).mono ?_;rintro e w1 ⟨rfl,QP⟩;have R1:=(R.alloc _).below QP (R.alloc _).blocks.1 (R.alloc _).blocks.2;have A1:=ip.of_below R.next (B0.trans (QP.mono QE));have z1:w.heap.size<w1.heap.size:=by have:=QP.size;simp at this;omega
 go_wp2_with fail;refine(NN _ rb wb ws i x R1 hx hp).mono ?_;rintro e w2 ⟨rfl,R2,A2⟩;have A3:=A1.trans A2 QD;have n1:¬w.heap.size=rb:=by have:=R.blocks;omega
 obtain⟨t1,t2⟩:=pA QP (b:=w.heap.size) QE;have u1:∀off,w2.cell? (ai w.heap.size off)=w1.cell? (ai w.heap.size off):=λoff=>A2.cell (a:=(ai w.heap.size off)) z1 n1
 have u2:∀off,w2.frozen? (ai w.heap.size off)=w1.frozen? (ai w.heap.size off):=λoff=>(Below.frozen A2 (p:=(ai w.heap.size off)) z1).trans (World.frozen?_setCell _ _ _ _)
 go_wp2;have A4:=((A3.setCell (a:=(ai w.heap.size 0)) (ay _) (Value.int IntKind.i64 (dH x.fst))).setCell (a:=(ai w.heap.size 1)) (ay _) (Value.string x.fst)).setCell (a:=(ai w.heap.size 2)) (ay _) (Value.int IntKind.i64 x.snd);refine dE (v:= .agg #[aa (dH x.1),ae x.1,aa x.2]) ?_ rfl ⟨rfl,?_,A4⟩
 ·simp[results,results257,go_sem, *]
 ·exact A4.rd R R.blocks.1 R.blocks.2 (R.ends i x hx hp)
theorem Mf (rb wb:Nat)(ws:List W)(i:Nat)(x:W)(k:Int)(R:Rd w rb wb ws i)(hx:ws[i]?=some x)(hs:(dH x.1 !=k)=true):
  Calls prog 257 #[ag rb,aa k] w λe w'=>e=dI 2 x.2/\ip w.heap.size rb w w' i:=by
 have B0:=(Below.refl w.heap.size w).alloc (ay _) (ak #[Value.int IntKind.i64 0,Value.string {data:= #[]},Value.int IntKind.i64 0] 148);go_enter func257,ntmps257;go_wp2_with fail;refine(DR _ rb wb ws i x (R.alloc _) hx).mono ?_;rintro e w1 ⟨rfl,QP⟩;have R1:=(R.alloc _).below QP (R.alloc _).blocks.1 (R.alloc _).blocks.2;have A1:=ip.of_below R.next (B0.trans (QP.mono QE));have z1:w.heap.size<w1.heap.size:=by have:=QP.size;simp at this;omega
 go_wp2_with fail;refine(PG _ rb wb ws i x R1 hx).mono ?_;rintro e w2 ⟨rfl,QQ⟩;unfold dI;go_wp2;exact⟨rfl,rfl,A1.below QQ QD⟩
end
section
variable {α:Type} {k i:Nat} (ws:List W) {stop:Nat->Bool}
structure eD where
 form:Int
 key:Option W
 type:W
 name:W
 num:W
structure fC where
 oneof:Option W
 fields:List eD
structure dO where
 enum:Bool
 name:W
 parts:List fC
 values:List (W×W)
abbrev nO (α:Type):=Except Nat (α×Nat)
def gG {α β:Type}(r:nO α)(f:α->Nat->nO β):nO β:=
 match r with
 | .error p=> .error p
 | .ok (a,j)=>f a j
def ki (ws:List W)(k:Int)(i:Nat):nO W:=
 match ws[i]? with
 |some x=>if dH x.1==k then .ok (x,i+1)else .error x.2
 |none=> .error 0
def gd (ws:List W)(s:List UInt8)(i:Nat):nO Unit:=
 match ws[i]? with
 |some x=>if x.1.toList==s then .ok ((),i+1)else .error x.2
 |none=> .error 0
def qh (ws:List W)(i:Nat):nO W:=
 match ws[i]? with
 |some x=>if dH x.1==3||dH x.1==1 then .ok (x,i+1)else .error x.2
 |none=> .error 0
def mB (ws:List W)(i:Nat):nO (W×W):=
 gG (ki ws 1 i) λn i=>gG (gd ws [61] i) λ_ i=>gG (ki ws 2 i) λm i=>gG (gd ws [59] i) λ_ i=> .ok ((n,m),i)
def fm (ws:List W)(form:Int)(i:Nat):nO eD:=
 gG (qh ws i) λt i=>gG (mB ws i) λnm i=> .ok (⟨form,none,t,nm.1,nm.2⟩,i)
def mD (ws:List W)(i:Nat):nO eD:=
 gG (gd ws [109,97,112] i) λ_ i=>gG (gd ws [60] i) λ_ i=>gG (qh ws i) λk i=>gG (gd ws [44] i) λ_ i=>
 gG (qh ws i) λt i=>gG (gd ws [62] i) λ_ i=>gG (mB ws i) λnm i=> .ok (⟨4,some k,t,nm.1,nm.2⟩,i)
def gu {α:Type}(stop:Nat->Bool)(p:Nat->nO α):Nat->Nat->nO (List α)
 |0,i=> .ok ([],i)
 |n+1,i=>if stop i then .ok ([],i)else gG (p i) λa j=>gG (gu stop p n j) λl k=> .ok (a::l,k)
def mO {α:Type}(pre:List α)(r:nO (List α)):nO (List α):=gG r λl k=> .ok (pre++l,k)
def eZ (ws:List W)(s:List UInt8)(i:Nat):Bool:=
 match ws[i]? with
 |some x=>x.1.toList==s
 |none=>true
def tj (ws:List W)(i:Nat):Bool:=
 match ws[i]? with
 |some x=>dH x.1==4
 |none=>true
def ir (ws:List W)(i:Nat):nO fC:=
 gG (gd ws [111,110,101,111,102] i) λ_ i=>gG (ki ws 1 i) λo i=>gG (gd ws [123] i) λ_ i=>gG (fm ws 3 i) λf i=>
 gG (mO [f] (gu (eZ ws [125]) (fm ws 3) ws.length i)) λl i=>gG (gd ws [125] i) λ_ i=> .ok (⟨some o,l⟩,i)
def gz (r:nO eD):nO fC:=gG r λf i=> .ok (⟨none,[f]⟩,i)
def mH (ws:List W)(i:Nat):nO fC:=
 if eZ ws [111,110,101,111,102] i then ir ws i
 else if eZ ws [109,97,112] i then gz (mD ws i)
 else if eZ ws [114,101,112,101,97,116,101,100] i then gz (fm ws 2 (i+1))
 else if eZ ws [111,112,116,105,111,110,97,108] i then gz (fm ws 1 (i+1))
 else gz (fm ws 0 i)
def gO (ws:List W)(i:Nat):nO dO:=
 gG (gd ws [109,101,115,115,97,103,101] i) λ_ i=>gG (ki ws 1 i) λn i=>gG (gd ws [123] i) λ_ i=>
 gG (gu (eZ ws [125]) (mH ws) ws.length i) λl i=>gG (gd ws [125] i) λ_ i=> .ok (⟨false,n,l,[]⟩,i)
def ly (ws:List W)(i:Nat):nO dO:=
 gG (gd ws [101,110,117,109] i) λ_ i=>gG (ki ws 1 i) λn i=>gG (gd ws [123] i) λ_ i=>
 gG (gu (eZ ws [125]) (mB ws) ws.length i) λl i=>gG (gd ws [125] i) λ_ i=> .ok (⟨true,n,[],l⟩,i)
def kr (ws:List W)(i:Nat):nO dO:=if eZ ws [101,110,117,109] i then ly ws i else gO ws i
def qi (ws:List W):nO (List dO):=gu (tj ws) (kr ws) ws.length 0
def On {α:Type}(i:Nat)(r:nO α):Prop:=∀a j,r= .ok (a,j)->i<j
theorem dM {β:Type}{r:nO α}{f:α->Nat->nO β}{b:β}(h:gG r f= .ok (b,k)):∃a j,r= .ok (a,j)/\f a j= .ok (b,k):=by
 cases r with
 |error p=>simp[gG]at h
 |ok x=>exact⟨x.1,x.2,rfl,h⟩
theorem ig (k:Int)(i:Nat):∀a j,ki ws k i= .ok (a,j)->j=i+1/\ws[i]?=some a/\dH a.1=k:=by
 intro a j h;unfold ki at h
 split at h
 ·split at h
  ·simp at h;obtain⟨rfl,rfl⟩:=h;refine⟨rfl,QN,by simp_all⟩
  ·simp at h
 ·simp at h
theorem eU (s:List UInt8)(i:Nat):∀a j,gd ws s i= .ok (a,j)->j=i+1/\∃x,ws[i]?=some x/\x.1.toList=s:=by
 intro a j h;unfold gd at h
 split at h
 ·split at h
  ·simp at h;subst h;exact⟨rfl,_,QN,by simp_all⟩
  ·simp at h
 ·simp at h
theorem kN (i:Nat):∀a j,qh ws i= .ok (a,j)->j=i+1/\ws[i]?=some a/\(dH a.1=3\/dH a.1=1):=by
 intro a j h;unfold qh at h
 split at h
 ·split at h
  ·simp at h;obtain⟨rfl,rfl⟩:=h;refine⟨rfl,QN,by simp_all⟩
  ·simp at h
 ·simp at h
theorem ue (i:Nat):On i (mB ws i):=by
 intro a j h;unfold mB at h;obtain⟨_,i1,h1,h⟩:=dM h;obtain⟨_,i2,h2,h⟩:=dM h;obtain⟨_,i3,h3,h⟩:=dM h;obtain⟨_,i4,h4,h⟩:=dM h;have:=(ig _ _ _ _ _ h1).1;have:=(eU _ _ _ _ _ h2).1;have:=(ig _ _ _ _ _ h3).1;have:=(eU _ _ _ _ _ h4).1;simp at h;omega
theorem kt (form:Int)(i:Nat):On i (fm ws form i):=by
 intro a j h;unfold fm at h;obtain⟨_,i1,h1,h⟩:=dM h;obtain⟨_,i2,h2,h⟩:=dM h;have:=(kN _ _ _ _ h1).1;have:=ue _ _ _ _ h2;simp at h;omega
theorem Ju (i:Nat):On i (mD ws i):=by
 intro a j h;unfold mD at h;obtain⟨_,i1,h1,h⟩:=dM h;obtain⟨_,i2,h2,h⟩:=dM h;obtain⟨_,i3,h3,h⟩:=dM h;obtain⟨_,i4,h4,h⟩:=dM h;obtain⟨_,i5,h5,h⟩:=dM h;obtain⟨_,i6,h6,h⟩:=dM h;obtain⟨_,i7,h7,h⟩:=dM h;have:=(eU _ _ _ _ _ h1).1;have:=(eU _ _ _ _ _ h2).1;have:=(kN _ _ _ _ h3).1;have:=(eU _ _ _ _ _ h4).1;have:=(kN _ _ _ _ h5).1;have:=(eU _ _ _ _ _ h6).1;have:=ue _ _ _ _ h7;simp at h;omega
theorem qR (stop:Nat->Bool)(p:Nat->nO α)(hp:∀i,On i (p i)):∀n i a j,gu stop p n i= .ok (a,j)->i<=j
 |0,i,a,j,h=>by simp[gu]at h;omega
 |n+1,i,a,j,h=>by
  unfold gu at h
  split at h
  ·simp at h;omega
  ·obtain⟨_,i1,h1,h⟩:=dM h;obtain⟨_,i2,h2,h⟩:=dM h;have:=hp _ _ _ h1;have:=qR stop p hp _ _ _ _ h2;simp at h;omega
theorem EX (i:Nat):On i (ir ws i):=by
 intro a j h;unfold ir at h;obtain⟨_,i1,h1,h⟩:=dM h;obtain⟨_,i2,h2,h⟩:=dM h;obtain⟨_,i3,h3,h⟩:=dM h;obtain⟨_,i4,h4,h⟩:=dM h;obtain⟨_,i5,h5,h⟩:=dM h;obtain⟨_,i6,h6,h⟩:=dM h;obtain⟨_,i7,h7,h8⟩:=dM h5;have:=(eU _ _ _ _ _ h1).1;have:=(ig _ _ _ _ _ h2).1;have:=(eU _ _ _ _ _ h3).1;have:=kt _ _ _ _ _ h4;have:=qR _ _ (kt ws 3) _ _ _ _ h7;have:=(eU _ _ _ _ _ h6).1;simp at h h8;omega
theorem pB {r:nO eD}(hr:On i r):On i (gz r):=by
 intro a j h;obtain⟨_,i1,h1,h⟩:=dM h;have:=hr _ _ h1;simp at h;omega
theorem On.mono {r:nO α}(h:On k r)(hik:i<=k):On i r:=λa j e=>Nat.lt_of_le_of_lt hik (h a j e)
theorem AN (i:Nat):On i (mH ws i):=by
 unfold mH
 split
 ·exact EX ws i
 ·split
  ·exact pB (Ju ws i)
  ·split
   ·exact pB ((kt ws 2 (i+1)).mono QD)
   ·split
    ·exact pB ((kt ws 1 (i+1)).mono QD)
    ·exact pB (kt ws 0 i)
theorem nT {p:Nat->nO α}{n:Nat}(h:stop i=true):gu stop p n i= .ok ([],i):=by
 cases n with
 |zero=>rfl
 |succ n=>simp[gu,h]
theorem pC {p:Nat->nO α}{n q:Nat}(h:stop i=false)(hn:0<n)(hp:p i= .error q):gu stop p n i= .error q:=by
 cases n with
 |zero=>omega
 |succ n=>simp[gu,h,hp,gG]
theorem qS {p:Nat->nO α}{n j:Nat}{a:α}(pre:List α)(h:stop i=false)(hn:0<n)(hp:p i= .ok (a,j)):
  mO pre (gu stop p n i)=mO (pre++ [a]) (gu stop p (n-1) j):=by
 cases n with
 |zero=>omega
 |succ n=>
  simp only[gu,h,hp,gG,Nat.add_sub_cancel]
  cases gu stop p n j<;>simp[mO,gG]
end
section
attribute [local go_sem] ji jj jk
def mP {α:Type}(w:an)(rb wb:Nat)(ws:List W)(r:nO α)(ret:α->an->Ending->Prop)(e:Ending)(w':an):Prop:=
 match r with
 | .ok (a,j)=>ret a w' e/\Rd w' rb wb ws j/\ip w.heap.size rb w w' j
 | .error p=>e=dI 2 p/\∃j,ip w.heap.size rb w w' j
def Rd.word {w:an}{rb wb i:Nat}{ws:List W}(R:Rd w rb wb ws i):∃x,ws[i]?=some x:=⟨_,aK R.lt⟩
def NH (w:an)(rb wb:Nat)(ws:List W)(i:Nat)(k:Int)(R:Rd w rb wb ws i)(hk:k≠4):
  Calls prog 257 #[ag rb,aa k] w (mP w rb wb ws (ki ws k i) λx _ e=>e= .returned (.agg #[aa (dH x.1),ae x.1,aa x.2])):=by
 obtain⟨x,hx⟩:=R.word;unfold ki;simp only[hx]
 by_cases h:dH x.1=k
 ·rw[dB (by simpa using h)];exact(Me w rb wb ws i x k R hx (by simp[h]) (qQ (by rw[h];exact hk))).mono λe w' h=>h
 ·rw[dA (by simpa using h)];exact(Mf w rb wb ws i x k R hx (by simpa using h)).mono λe w' h=>⟨h.1,_,h.2⟩
def CL (w:an)(rb wb:Nat)(ws:List W)(i:Nat)(s:am)(l:List UInt8)(R:Rd w rb wb ws i)(hs:s.toList=l)(hl:0<l.length):
  Calls prog 256 #[ag rb,ae s] w (mP w rb wb ws (gd ws l i) λ_ _ e=>e= .returned (.tuple #[])):=by
 obtain⟨x,hx⟩:=R.word;unfold gd;simp only[hx]
 by_cases h:(x.1.toList==l)=true
 ·rw[dB h];exact(Mc w rb wb ws i x s R hx (by rw[hs];exact h) (nS h hl)).mono λe w' h=>h
 ·rw[dA h];exact(Md w rb wb ws i x s R hx (by rw[hs];simpa using h)).mono λe w' h=>⟨h.1,_,h.2⟩
def kI {n rb:Nat}{w w1:an}{j b:Nat}(h:ip n rb w w1 j)(hb:b<n)(hne:b≠rb):(∀off,w1.cell? (ai b off)=w.cell? (ai b off))/\(∀off,w1.frozen? (ai b off)=w.frozen? (ai b off)):=
 ⟨λoff=>h.cell (a:=(ai b off)) hb hne,λoff=>(Below.frozen h (p:=(ai b off)) hb).trans (World.frozen?_setCell _ _ _ _)⟩
def OX (w:an)(rb wb:Nat)(ws:List W)(i:Nat)(R:Rd w rb wb ws i):
  Calls prog 401 #[ag rb] w (mP w rb wb ws (qh ws i) λx _ e=>e= .returned (.agg #[aa (dH x.1),ae x.1,aa x.2])):=by
 obtain⟨x,hx⟩:=R.word;have HX:Hid (ws[i]?=some x):=hx;have B0:=(Below.refl w.heap.size w).alloc (ay _) (ak #[Value.int IntKind.i64 0,Value.string {data:= #[]},Value.int IntKind.i64 0] 148);have n1:¬w.heap.size=rb:=by have:=R.blocks;omega
 unfold qh;simp only[hx]
 cases h:(dH x.1==3)
 ·have hk:ki ws 1 i=if dH x.1==1 then .ok (x,i+1)else .error x.2:=by unfold ki;simp only[hx]
  have HK:=Hid.out (p:=(Bool.false||(dH x.1==1))=(dH x.1==1)) (by simp[Hid]);rw[HK];have QQ:Hid (ki ws 1 i=if dH x.1==1 then .ok (x,i+1)else .error x.2):=hk;clear hx hk HK;go_enter func401,ntmps401;go_wp2_with fail;refine(DR _ rb wb ws i x (R.alloc _) HX.out).mono ?_;rintro e w1 ⟨rfl,QP⟩;have R1:=(R.alloc _).below QP (R.alloc _).blocks.1 (R.alloc _).blocks.2;have A1:=ip.of_below R.next (B0.trans (QP.mono QE));have z1:w.heap.size<w1.heap.size:=by have:=QP.size;simp at this;omega
  obtain⟨t1,t2⟩:=pA QP (b:=w.heap.size) QE;go_wp2_with fail;refine(NH _ rb wb ws i 1 R1 QG).mono ?_;rw[QQ.out]
  cases h1:(dH x.1==1)
  ·rintro e w2 ⟨rfl,j,A2⟩;unfold dI;go_wp2;exact⟨rfl,rfl,j,A1.trans A2 QD⟩
  ·rintro e w2 ⟨rfl,R2,A2⟩;obtain⟨u1,u2⟩:=kI A2 (b:=w.heap.size) z1 n1;have A3:=A1.trans A2 QD;go_wp2;have A4:=((A3.setCell (a:=(ai w.heap.size 0)) (ay _) (Value.int IntKind.i64 (dH x.fst))).setCell (a:=(ai w.heap.size 1)) (ay _) (Value.string x.fst)).setCell (a:=(ai w.heap.size 2)) (ay _) (Value.int IntKind.i64 x.snd);refine dE (v:= .agg #[aa (dH x.1),ae x.1,aa x.2]) ?_ rfl ⟨rfl,?_,A4⟩
   ·simp[results,results401,go_sem, *]
   ·exact A4.rd R R.blocks.1 R.blocks.2 R2.lt
 ·have hp:0<x.1.size:=qQ (by simp at h;omega);clear hx;go_enter func401,ntmps401;go_wp2_with fail;refine(DR _ rb wb ws i x (R.alloc _) HX.out).mono ?_;rintro e w1 ⟨rfl,QP⟩;have R1:=(R.alloc _).below QP (R.alloc _).blocks.1 (R.alloc _).blocks.2;have A1:=ip.of_below R.next (B0.trans (QP.mono QE));have z1:w.heap.size<w1.heap.size:=by have:=QP.size;simp at this;omega
  obtain⟨t1,t2⟩:=pA QP (b:=w.heap.size) QE;go_wp2_with fail;refine(NN _ rb wb ws i x R1 HX.out hp).mono ?_;rintro e w2 ⟨rfl,R2,A2⟩;obtain⟨u1,u2⟩:=kI A2 (b:=w.heap.size) z1 n1;have A3:=A1.trans A2 QD;go_wp2;have A4:=((A3.setCell (a:=(ai w.heap.size 0)) (ay _) (Value.int IntKind.i64 (dH x.fst))).setCell (a:=(ai w.heap.size 1)) (ay _) (Value.string x.fst)).setCell (a:=(ai w.heap.size 2)) (ay _) (Value.int IntKind.i64 x.snd);refine dE (v:= .agg #[aa (dH x.1),ae x.1,aa x.2]) ?_ rfl ⟨rfl,?_,A4⟩
  ·simp[results,results401,go_sem, *]
  ·exact A4.rd R R.blocks.1 R.blocks.2 R2.lt
def e7 {α β:Type}{r:nO α}{f:α->Nat->nO β}{p:Nat}(h:r= .error p):gG r f= .error p:=by rw[h];rfl
def d6 {α β:Type}{r:nO α}{f:α->Nat->nO β}{a:α}{j:Nat}(h:r= .ok (a,j)):gG r f=f a j:=by rw[h];rfl
def OY (w:an)(rb wb:Nat)(ws:List W)(i:Nat)(R:Rd w rb wb ws i):
  Calls prog 258 #[ag rb] w (mP w rb wb ws (mB ws i) λx _ e=>e= .returned (.tuple #[.agg #[aa (dH x.1.1),ae x.1.1,aa x.1.2],.agg #[aa (dH x.2.1),ae x.2.1,aa x.2.2]])):=by
 have B0:=((Below.refl w.heap.size w).alloc (ay _) (ak #[Value.int IntKind.i64 0,Value.string {data:= #[]},Value.int IntKind.i64 0] 148)).alloc QE (ak #[Value.int IntKind.i64 0,Value.string {data:= #[]},Value.int IntKind.i64 0] 148);have n1:¬w.heap.size=rb:=by have:=R.blocks;omega
 have n2:¬w.heap.size+1=rb:=by have:=R.blocks;omega
 have n3:¬rb=w.heap.size:=by have:=R.blocks;omega
 have n4:¬rb=w.heap.size+1:=by have:=R.blocks;omega
 have R0:=(R.alloc (ak #[Value.int IntKind.i64 0,Value.string {data:= #[]},Value.int IntKind.i64 0] 148)).alloc (ak #[Value.int IntKind.i64 0,Value.string {data:= #[]},Value.int IntKind.i64 0] 148);have A0:=ip.of_below R.next B0;generalize hr:mB ws i=r;have HR:Hid (mB ws i=r):=hr;go_enter func258,ntmps258;go_wp2_with fail;refine(NH _ rb wb ws i 1 R0 QG).mono ?_
 cases h1:ki ws 1 i with
 |error p=>
  rintro e w1 ⟨rfl,j,A1⟩;obtain rfl:r= .error p:=by rw[<-HR.out,mB,e7 h1]
  unfold dI;go_wp2;exact⟨rfl,rfl,j,A0.trans A1 QF⟩
 |ok q=>
  obtain⟨x,i1⟩:=q;rintro e w1 ⟨rfl,R1,A1⟩;have z1:w.heap.size+1<w1.heap.size:=by have:=A1.size;simp at this;omega
  obtain⟨t1,t2⟩:=kI A1 (b:=w.heap.size) QF n1;obtain⟨t3,t4⟩:=kI A1 (b:=w.heap.size+1) QE n2;have A2:=((((A0.trans A1 QF).setCell (a:=(ai w.heap.size 0)) (ay _) (Value.int IntKind.i64 (dH x.fst))).setCell (a:=(ai w.heap.size 1)) (ay _) (Value.string x.fst)).setCell (a:=(ai w.heap.size 2)) (ay _) (Value.int IntKind.i64 x.snd));have R2:=A2.rd R R.blocks.1 R.blocks.2 R1.lt;go_wp2_with fail;refine(CL _ rb wb ws i1 _ [61] R2 QH QG).mono ?_
  cases h2:gd ws [61] i1 with
  |error p=>
   rintro e w2 ⟨rfl,j,A3⟩;obtain rfl:r= .error p:=by rw[<-HR.out,mB,d6 h1,e7 h2]
   unfold dI;go_wp2;exact⟨rfl,rfl,j,A2.trans A3 QF⟩
  |ok q=>
   obtain⟨_,i2⟩:=q;rintro e w2 ⟨rfl,R3,A3⟩;have z2:w.heap.size+1<w2.heap.size:=by have:=A3.size;simp at this;omega
   obtain⟨s1,s2⟩:=kI A3 (b:=w.heap.size) QF n1;obtain⟨s3,s4⟩:=kI A3 (b:=w.heap.size+1) QF n2;have A4:=A2.trans A3 QF;have k0:w2.cell? (ai w.heap.size 0)=some (aa (dH x.1)):=by simp[go_sem,s1,t1]
   have k1:w2.cell? (ai w.heap.size 1)=some (ae x.1):=by simp[go_sem,s1,t1]
   have k2:w2.cell? (ai w.heap.size 2)=some (aa x.2):=by simp[go_sem,s1,t1]
   have k3:∀off,w2.frozen? (ai w.heap.size off)=false:=by simp[go_sem,s2,t2]
   have k4:∀off,w2.frozen? (ai (w.heap.size+1) off)=false:=by simp[go_sem,s4,t4]
   have k5:w2.cell? (ai (w.heap.size+1) 0)=some (aa 0):=by simp[go_sem,s3,t3]
   have k6:w2.cell? (ai (w.heap.size+1) 1)=some (ae ⟨#[]⟩):=by simp[go_sem,s3,t3]
   have k7:w2.cell? (ai (w.heap.size+1) 2)=some (aa 0):=by simp[go_sem,s3,t3]
   go_wp2_with fail;refine(NH _ rb wb ws i2 2 R3 QG).mono ?_
   cases h3:ki ws 2 i2 with
   |error p=>
    rintro e w3 ⟨rfl,j,A5⟩;obtain rfl:r= .error p:=by rw[<-HR.out,mB,d6 h1,d6 h2,e7 h3]
    unfold dI;go_wp2;exact⟨rfl,rfl,j,A4.trans A5 QD⟩
   |ok q=>
    obtain⟨y,i3⟩:=q;rintro e w3 ⟨rfl,R5,A5⟩;have z3:w.heap.size+1<w3.heap.size:=by have:=A5.size;omega
    obtain⟨v1,v2⟩:=kI A5 (b:=w.heap.size) QD n1;obtain⟨v3,v4⟩:=kI A5 (b:=w.heap.size+1) QD n2;have A6:=((((A4.trans A5 QD).setCell (a:=(ai (w.heap.size+1) 0)) (bI _) (Value.int IntKind.i64 (dH y.fst))).setCell (a:=(ai (w.heap.size+1) 1)) (bI _) (Value.string y.fst)).setCell (a:=(ai (w.heap.size+1) 2)) (bI _) (Value.int IntKind.i64 y.snd));have R6:=A6.rd R R.blocks.1 R.blocks.2 R5.lt;go_wp2_with fail;refine(CL _ rb wb ws i3 _ [59] R6 QH QG).mono ?_
    cases h4:gd ws [59] i3 with
    |error p=>
     rintro e w4 ⟨rfl,j,A7⟩;obtain rfl:r= .error p:=by rw[<-HR.out,mB,d6 h1,d6 h2,d6 h3,e7 h4]
     unfold dI;go_wp2;exact⟨rfl,rfl,j,A6.trans A7 QF⟩
    |ok q=>
     obtain⟨_,i4⟩:=q;rintro e w4 ⟨rfl,R7,A7⟩;have z4:w.heap.size+1<w4.heap.size:=by have:=A7.size;simp at this;omega
     obtain⟨x1,x2⟩:=kI A7 (b:=w.heap.size) QF n1;obtain⟨x3,x4⟩:=kI A7 (b:=w.heap.size+1) QF n2;have A8:=A6.trans A7 QF;have m0:w4.cell? (ai w.heap.size 0)=some (aa (dH x.1)):=by simp[go_sem,x1,v1,k0]
     have m1:w4.cell? (ai w.heap.size 1)=some (ae x.1):=by simp[go_sem,x1,v1,k1]
     have m2:w4.cell? (ai w.heap.size 2)=some (aa x.2):=by simp[go_sem,x1,v1,k2]
     have m3:∀off,w4.frozen? (ai w.heap.size off)=false:=by simp[go_sem,x2,v2,k3]
     have m4:∀off,w4.frozen? (ai (w.heap.size+1) off)=false:=by simp[go_sem,x4,v4,k4]
     have m5:w4.cell? (ai (w.heap.size+1) 0)=some (aa (dH y.1)):=by simp[go_sem,x3,v3,k5]
     have m6:w4.cell? (ai (w.heap.size+1) 1)=some (ae y.1):=by simp[go_sem,x3,v3,k6]
     have m7:w4.cell? (ai (w.heap.size+1) 2)=some (aa y.2):=by simp[go_sem,x3,v3,k7]
     clear x1 x2 x3 x4 v1 v2 v3 v4 k0 k1 k2 k3 k4 k5 k6 k7;obtain rfl:r= .ok ((x,y),i4):=by rw[<-HR.out,mB,d6 h1,d6 h2,d6 h3,d6 h4]
     go_wp2;go_region
     have A9:=((((((A8.setCell (a:=(ai w.heap.size 0)) (ay _) (Value.int IntKind.i64 (dH x.fst))).setCell (a:=(ai w.heap.size 1)) (ay _) (Value.string x.fst)).setCell (a:=(ai w.heap.size 2)) (ay _) (Value.int IntKind.i64 x.snd)).setCell (a:=(ai (w.heap.size+1) 0)) (bI _) (Value.int IntKind.i64 (dH y.fst))).setCell (a:=(ai (w.heap.size+1) 1)) (bI _) (Value.string y.fst)).setCell (a:=(ai (w.heap.size+1) 2)) (bI _) (Value.int IntKind.i64 y.snd)).drew;go_wp2;refine dE (v:= .tuple #[.agg #[aa (dH x.1),ae x.1,aa x.2],.agg #[aa (dH y.1),ae y.1,aa y.2]]) ?_ rfl ⟨rfl,?_,A9⟩
     ·simp[results,results258,go_sem, *]
     ·exact A9.rd R R.blocks.1 R.blocks.2 R7.lt
end
def dK (w:an)(b:Nat)(cs:Array Value)(T:TypeId):Prop:=w.heap[b]?=some (.cells cs T (0,0))
def dK.new (w:an)(cs:Array Value)(T:TypeId):dK (w.alloc (.cells cs T)) w.heap.size cs T:=heap_alloc_new w _
def dK.lt {w:an}{b:Nat}{cs:Array Value}{T:TypeId}(h:dK w b cs T):b<w.heap.size:=by
 unfold dK at h
 by_cases hb:b<w.heap.size
 ·exact hb
 ·rw[cy QD]at h;cases h
def dR (w:an)(cs:Array Value)(T:TypeId):aj w (w.alloc (Obj.cells cs T))/\dK (w.alloc (Obj.cells cs T)) w.heap.size cs T:=⟨(Below.refl _ _).alloc (ay _) _,dK.new w cs T⟩
def dK.alloc {w:an}{b:Nat}{cs:Array Value}{T:TypeId}(h:dK w b cs T)(o:Obj):dK (w.alloc o) b cs T:=(Below.heap_alloc w o b h.lt).trans h
def dK.below {w w1:an}{n b:Nat}{cs:Array Value}{T:TypeId}(h:dK w b cs T)(hb:Below n w w1)(hn:b<n):dK w1 b cs T:=(hb.block b hn).trans h
def dK.adv_ {w w1:an}{n rb j b:Nat}{cs:Array Value}{T:TypeId}(h:dK w b cs T)(ha:ip n rb w w1 j)(hn:b<n)(hne:b≠rb):dK w1 b cs T:=by
 unfold dK at*;rw[Below.block ha b hn,Go.Proofs.YtfebdimolnobaaaGreatDoor.AF,dJ,dA (λe=>hne e.symm)];exact h
def dK.set {w:an}{b:Nat}{cs:Array Value}{T:TypeId}(h:dK w b cs T)(off:Nat)(v:Value):dK (w.setCell (ai b off) v) b (cs.setIfInBounds off v) T:=by
 unfold dK at*;rw[dJ,dB rfl,h];rfl
def dK.other {w:an}{b:Nat}{cs:Array Value}{T:TypeId}(h:dK w b cs T){c:Nat}(off:Nat)(v:Value)(hne:c≠b):dK (w.setCell (ai c off) v) b cs T:=by
 unfold dK at*;rw[dJ,dA hne,h]
def dK.drew {w:an}{b:Nat}{cs:Array Value}{T:TypeId}(h:dK w b cs T):dK w.drew b cs T:=h
def dK.grown {w w1:an}{row:Option Nat}{b:Nat}{cs:Array Value}{T:TypeId}(h:dK w b cs T)(hg:w.grownBy w1 row)(hne:some b≠row):dK w1 b cs T:=(hg.block b h.lt hne).trans h
def dK.cell {w:an}{b:Nat}{cs:Array Value}{T:TypeId}(h:dK w b cs T)(off:Nat):w.cell? (ai b off)=cs[off]?:=by
 unfold dK at h;simp[World.cell?,h]
def dK.rules {w:an}{b:Nat}{cs:Array Value}{T:TypeId}(h:dK w b cs T):(∀off,w.cell? (ai b off)=cs[off]?)/\(∀off,w.frozen? (ai b off)=false):=by
 refine⟨h.cell,λoff=> ?_⟩;unfold dK at h;simp[World.frozen?,h]
def ip.sets {w w':an}{n rb j:Nat}(h:ip n rb w w' j){b:Nat}(hb:n<=b):∀(vs:aq) (o:Nat),ip n rb w (w'.setCells b o vs) j
 | [],o=>h
 |v::vs,o=>by
  have:=ip.sets (h.setCell (a:=(ai b o)) hb v) hb vs (o+1);simpa [World.setCells]using this
def dK.sets_other {w:an}{b:Nat}{cs:Array Value}{T:TypeId}(h:dK w b cs T){c:Nat}(hne:c≠b):∀(vs:aq) (o:Nat),dK (w.setCells c o vs) b cs T
 | [],o=>h
 |v::vs,o=>by
  have:=dK.sets_other (h.other o v hne) hne vs (o+1);simpa [World.setCells]using this
def dK.sets {w:an}{b:Nat}{T:TypeId}:∀(vs pre old post:aq),dK w b (pre++old++post).toArray T->vs.length=old.length->dK (w.setCells b pre.length vs) b (pre++vs++post).toArray T
 | [],pre,old,post,h,hl=>by
  have:old= []:=bA hl.symm;subst this;simpa [World.setCells]using h
 |v::vs,pre,[],post,h,hl=>by simp at hl
 |v::vs,pre,o::old,post,h,hl=>by
  have h1:=h.set pre.length v
  have e:((pre++o::old++post).toArray).setIfInBounds pre.length v=((pre++ [v])++old++post).toArray:=by
   simp[List.set_append_right]
  rw[e]at h1;have:=dK.sets vs (pre++ [v]) old post h1 (by simpa using hl);simpa [World.setCells]using this
def dK.sets_all {w:an}{b:Nat}{cs:Array Value}{T:TypeId}(h:dK w b cs T)(vs:aq)(hl:vs.length=cs.size):dK (w.setCells b 0 vs) b vs.toArray T:=by
 have:=dK.sets vs [] cs.toList [] (w:=w) (b:=b) (T:=T) (by simpa using h) (by simpa using hl);simpa using this
def dZ {fn:Func}{p:Tmp}{ty:TypeId}{b:Nat}{cs:Array Value}{fs:Array Field}(h:fn.results= #[.cell p ty])(tmps:Array Value)(W:an)(hp:tmps.getD p undef=ag b)(K:dK W b cs ty)
  (hu:prog.underlying ty=some (.struct fs)) (hi:(prog.info? ty).map (·.size)=some cs.size):
  (results fn tmps).run prog W= .ok (.agg cs) W:=by
 have hl:=run_loadVar_row (P:=prog) W b ty ty cs (0,0) _ K hu rfl hi;have QP:tmps[p]?.getD undef=ag b:=by simpa using hp
 simp only[results,h];simp[QP,asAddr,hl]
section
attribute [local go_sem] ji jj jk
def Jv:Option W->aq
 |some x=>uN x
 |none=> [aa 0,ae ⟨#[]⟩,aa 0]
def p6 (f:eD):aq:=aa f.form::(Jv f.key++uN f.type++uN f.name++uN f.num)
def OM (w:an)(rb wb:Nat)(ws:List W)(i:Nat)(form:Int)(R:Rd w rb wb ws i):
  Calls prog 341 #[ag rb,aa form] w (mP w rb wb ws (fm ws form i) λf _ e=>e= .returned (.agg (p6 f).toArray)):=by
 obtain⟨B0,K0⟩:=dR w #[aa 0,aa 0,ae ⟨#[]⟩,aa 0,aa 0,ae ⟨#[]⟩,aa 0,aa 0,ae ⟨#[]⟩,aa 0,aa 0,ae ⟨#[]⟩,aa 0] 211;have R0:=R.alloc (ak #[aa 0,aa 0,ae ⟨#[]⟩,aa 0,aa 0,ae ⟨#[]⟩,aa 0,aa 0,ae ⟨#[]⟩,aa 0,aa 0,ae ⟨#[]⟩,aa 0] 211);have n1:¬w.heap.size=rb:=by have:=R.blocks;omega
 have n3:¬rb=w.heap.size:=by have:=R.blocks;omega
 have A0:=ip.of_below R.next B0;generalize hr:fm ws form i=r;have HR:Hid (fm ws form i=r):=hr;clear hr;go_enter func341,ntmps341;go_wp2_with fail;refine(OX _ rb wb ws i R0).mono ?_
 cases h1:qh ws i with
 |error p=>
  rintro e w1 ⟨rfl,j,A1⟩;obtain rfl:r= .error p:=by rw[<-HR.out,fm,e7 h1]
  unfold dI;go_wp2;exact⟨rfl,rfl,j,A0.trans A1 QE⟩
 |ok q=>
  obtain⟨x,i1⟩:=q;rintro e w1 ⟨rfl,R1,A1⟩;have z1:w.heap.size<w1.heap.size:=by have:=A1.size;simp at this;omega
  have n5:¬w1.heap.size=rb:=by have:=R.blocks;omega
  have n6:¬rb=w1.heap.size:=QD;have n7:¬w1.heap.size=w.heap.size:=QD;have n8:¬w.heap.size=w1.heap.size:=QD;have K1:=K0.adv_ A1 QE n1;have A2:=A0.trans A1 QE;clear A1 R0;go_wp2_with fail;refine(OY _ rb wb ws i1 (R1.alloc _)).mono ?_
  cases h2:mB ws i1 with
  |error p=>
   rintro e w2 ⟨rfl,j,A3⟩;obtain rfl:r= .error p:=by rw[<-HR.out,fm,d6 h1,e7 h2]
   unfold dI;go_wp2;exact⟨rfl,rfl,j,(A2.alloc (ay _) _).trans A3 QF⟩
  |ok q=>
   obtain⟨y,i2⟩:=q;rintro e w2 ⟨rfl,R3,A3⟩;have z2:w1.heap.size<w2.heap.size:=by have:=A3.size;simp at this;omega
   have K2:=(K1.alloc _).adv_ A3 QF n1;have J2:=(dK.new _ _ _).adv_ A3 QE n5;have A4:=(A2.alloc (ay _) _).trans A3 QF;obtain⟨k1,k2⟩:=K2.rules;obtain⟨j1,j2⟩:=J2.rules;obtain rfl:r= .ok (⟨form,none,x,y.1,y.2⟩,i2):=by rw[<-HR.out,fm,d6 h1,d6 h2]
   clear R1 K1 A3 A2;go_wp2;have A5:=(A4.sets (b:=w1.heap.size) QD (uN y.1++uN y.2) 7).sets (b:=w.heap.size) (ay _) (p6 ⟨form,none,x,y.1,y.2⟩) 0;have K5:=(K2.sets_other (c:=w1.heap.size) n7 (uN y.1++uN y.2) 7).sets_all (p6 ⟨form,none,x,y.1,y.2⟩) rfl;refine dE (dZ results341 _ _ rfl K5 underlying211 QI) rfl ⟨rfl,?_,A5⟩;exact A5.rd R R.blocks.1 R.blocks.2 R3.lt
def Qa (w:an)(rb wb:Nat)(ws:List W)(i:Nat)(R:Rd w rb wb ws i):
  Calls prog 340 #[ag rb] w (mP w rb wb ws (mD ws i) λf _ e=>e= .returned (.agg (p6 f).toArray)):=by
 have A0:ip w.heap.size rb w ((w.alloc (ak #[aa 0,aa 0,ae ⟨#[]⟩,aa 0,aa 0,ae ⟨#[]⟩,aa 0,aa 0,ae ⟨#[]⟩,aa 0,aa 0,ae ⟨#[]⟩,aa 0] 211)).alloc (ak #[aa 4,aa 0,ae ⟨#[]⟩,aa 0,aa 0,ae ⟨#[]⟩,aa 0,aa 0,ae ⟨#[]⟩,aa 0,aa 0,ae ⟨#[]⟩,aa 0] 211)) i:=ip.of_below R.next (((Below.refl w.heap.size w).alloc (ay _) _).alloc QE _);have R0:=(R.alloc (ak #[aa 0,aa 0,ae ⟨#[]⟩,aa 0,aa 0,ae ⟨#[]⟩,aa 0,aa 0,ae ⟨#[]⟩,aa 0,aa 0,ae ⟨#[]⟩,aa 0] 211)).alloc (ak #[aa 4,aa 0,ae ⟨#[]⟩,aa 0,aa 0,ae ⟨#[]⟩,aa 0,aa 0,ae ⟨#[]⟩,aa 0,aa 0,ae ⟨#[]⟩,aa 0] 211);have K0:=(dK.new w #[aa 0,aa 0,ae ⟨#[]⟩,aa 0,aa 0,ae ⟨#[]⟩,aa 0,aa 0,ae ⟨#[]⟩,aa 0,aa 0,ae ⟨#[]⟩,aa 0] 211).alloc (ak #[aa 4,aa 0,ae ⟨#[]⟩,aa 0,aa 0,ae ⟨#[]⟩,aa 0,aa 0,ae ⟨#[]⟩,aa 0,aa 0,ae ⟨#[]⟩,aa 0] 211)
 have J0:dK ((w.alloc (ak #[aa 0,aa 0,ae ⟨#[]⟩,aa 0,aa 0,ae ⟨#[]⟩,aa 0,aa 0,ae ⟨#[]⟩,aa 0,aa 0,ae ⟨#[]⟩,aa 0] 211)).alloc (ak #[aa 4,aa 0,ae ⟨#[]⟩,aa 0,aa 0,ae ⟨#[]⟩,aa 0,aa 0,ae ⟨#[]⟩,aa 0,aa 0,ae ⟨#[]⟩,aa 0] 211)) (w.heap.size+1) #[aa 4,aa 0,ae ⟨#[]⟩,aa 0,aa 0,ae ⟨#[]⟩,aa 0,aa 0,ae ⟨#[]⟩,aa 0,aa 0,ae ⟨#[]⟩,aa 0] 211:=by
  have:=dK.new (w.alloc (ak #[aa 0,aa 0,ae ⟨#[]⟩,aa 0,aa 0,ae ⟨#[]⟩,aa 0,aa 0,ae ⟨#[]⟩,aa 0,aa 0,ae ⟨#[]⟩,aa 0] 211)) #[aa 4,aa 0,ae ⟨#[]⟩,aa 0,aa 0,ae ⟨#[]⟩,aa 0,aa 0,ae ⟨#[]⟩,aa 0,aa 0,ae ⟨#[]⟩,aa 0] 211;simpa using this
 have n1:¬w.heap.size=rb:=by have:=R.blocks;omega
 have n2:¬w.heap.size+1=rb:=by have:=R.blocks;omega
 have n3:¬rb=w.heap.size:=QD;have n4:¬rb=w.heap.size+1:=QD;have z0:w.heap.size+1<((w.alloc (ak #[aa 0,aa 0,ae ⟨#[]⟩,aa 0,aa 0,ae ⟨#[]⟩,aa 0,aa 0,ae ⟨#[]⟩,aa 0,aa 0,ae ⟨#[]⟩,aa 0] 211)).alloc (ak #[aa 4,aa 0,ae ⟨#[]⟩,aa 0,aa 0,ae ⟨#[]⟩,aa 0,aa 0,ae ⟨#[]⟩,aa 0,aa 0,ae ⟨#[]⟩,aa 0] 211)).heap.size:=QE;generalize hr:mD ws i=r;have HR:Hid (mD ws i=r):=hr;clear hr;go_enter func340,ntmps340;obtain⟨k1,k2⟩:=K0.rules;obtain⟨j1,j2⟩:=J0.rules;go_wp2_with fail;clear k1 k2 j1 j2;refine(CL _ rb wb ws i _ [109,97,112] R0 QH QG).mono ?_
 cases h1:gd ws [109,97,112] i with
 |error p=>
  rintro e w1 ⟨rfl,j,A⟩;obtain rfl:r= .error p:=by rw[<-HR.out,mD,e7 h1]
  unfold dI;go_wp2;exact⟨rfl,rfl,j,A0.trans A QD⟩
 |ok q=>
  obtain⟨_,i1⟩:=q;rintro e w1 ⟨rfl,R1,A⟩;have z1:w.heap.size+1<w1.heap.size:=aC z0 A.size;have K1:=K0.adv_ A QD n1;have J1:=J0.adv_ A z0 n2;have A1:=A0.trans A QD;clear A R0 K0 J0 A0 z0;obtain⟨k1,k2⟩:=K1.rules;obtain⟨j1,j2⟩:=J1.rules;go_wp2_with fail;clear k1 k2 j1 j2;refine(CL _ rb wb ws i1 _ [60] R1 QH QG).mono ?_
  cases h2:gd ws [60] i1 with
  |error p=>
   rintro e w2 ⟨rfl,j,A⟩;obtain rfl:r= .error p:=by rw[<-HR.out,mD,d6 h1,e7 h2]
   unfold dI;go_wp2;exact⟨rfl,rfl,j,A1.trans A QD⟩
  |ok q=>
   obtain⟨_,i2⟩:=q;rintro e w2 ⟨rfl,R2,A⟩;have z2:w.heap.size+1<w2.heap.size:=aC z1 A.size;have K2:=K1.adv_ A QD n1;have J2:=J1.adv_ A z1 n2;have A2:=A1.trans A QD;clear A R1 K1 J1 A1 z1;obtain⟨k1,k2⟩:=K2.rules;obtain⟨j1,j2⟩:=J2.rules;go_wp2_with fail;clear k1 k2 j1 j2;refine(OX _ rb wb ws i2 R2).mono ?_
   cases h3:qh ws i2 with
   |error p=>
    rintro e w3 ⟨rfl,j,A⟩;obtain rfl:r= .error p:=by rw[<-HR.out,mD,d6 h1,d6 h2,e7 h3]
    unfold dI;go_wp2;exact⟨rfl,rfl,j,A2.trans A QD⟩
   |ok q=>
    obtain⟨k,i3⟩:=q;rintro e w3 ⟨rfl,R3,A⟩;have z3:w.heap.size+1<w3.heap.size:=aC z2 A.size;have K3:=K2.adv_ A QD n1;have J3:=J2.adv_ A z2 n2;have A3:=A2.trans A QD;clear A R2 K2 J2 A2 z2;have QP:=A3.sets (b:=w.heap.size+1) QD [aa (dH k.1),ae k.1,aa k.2] 1;have QT:=QP.rd R R.blocks.1 R.blocks.2 R3.lt;have QU:=K3.sets_other (c:=w.heap.size+1) QD [aa (dH k.1),ae k.1,aa k.2] 1;have QV:dK (w3.setCells (w.heap.size+1) 1 [aa (dH k.1),ae k.1,aa k.2]) (w.heap.size+1) #[aa 4,aa (dH k.1),ae k.1,aa k.2,aa 0,ae ⟨#[]⟩,aa 0,aa 0,ae ⟨#[]⟩,aa 0,aa 0,ae ⟨#[]⟩,aa 0] 211:=dK.sets [aa (dH k.1),ae k.1,aa k.2] [aa 4] [aa 0,ae ⟨#[]⟩,aa 0] [aa 0,ae ⟨#[]⟩,aa 0,aa 0,ae ⟨#[]⟩,aa 0,aa 0,ae ⟨#[]⟩,aa 0] J3 rfl;have QR:w.heap.size+1<(w3.setCells (w.heap.size+1) 1 [aa (dH k.1),ae k.1,aa k.2]).heap.size:=by simpa [World.setCells,World.setCell]using z3
    obtain⟨k1,k2⟩:=K3.rules;obtain⟨j1,j2⟩:=J3.rules;clear A3 R3 K3 z3;go_wp2_with fail;clear k1 k2 j1 j2 J3;refine(CL _ rb wb ws i3 _ [44] QT QH QG).mono ?_
    cases h4:gd ws [44] i3 with
    |error p=>
     rintro e w4 ⟨rfl,j,A⟩;obtain rfl:r= .error p:=by rw[<-HR.out,mD,d6 h1,d6 h2,d6 h3,e7 h4]
     unfold dI;go_wp2;exact⟨rfl,rfl,j,QP.trans A QD⟩
    |ok q=>
     obtain⟨_,i4⟩:=q;rintro e w4 ⟨rfl,R4,A⟩;have z4:w.heap.size+1<w4.heap.size:=aC QR A.size;have K4:=QU.adv_ A QD n1;have J4:=QV.adv_ A QR n2;have A4:=QP.trans A QD;clear A QT QU QV QP QR;obtain⟨k1,k2⟩:=K4.rules;obtain⟨j1,j2⟩:=J4.rules;go_wp2_with fail;clear k1 k2 j1 j2;refine(OX _ rb wb ws i4 R4).mono ?_
     cases h5:qh ws i4 with
     |error p=>
      rintro e w5 ⟨rfl,j,A⟩;obtain rfl:r= .error p:=by rw[<-HR.out,mD,d6 h1,d6 h2,d6 h3,d6 h4,e7 h5]
      unfold dI;go_wp2;exact⟨rfl,rfl,j,A4.trans A QD⟩
     |ok q=>
      obtain⟨t,i5⟩:=q;rintro e w5 ⟨rfl,R5,A⟩;have z5:w.heap.size+1<w5.heap.size:=aC z4 A.size;have K5:=K4.adv_ A QD n1;have J5:=J4.adv_ A z4 n2;have A5:=A4.trans A QD;clear A R4 K4 J4 A4 z4;have QQ:=A5.sets (b:=w.heap.size+1) QD [aa (dH t.1),ae t.1,aa t.2] 4;have QW:=QQ.rd R R.blocks.1 R.blocks.2 R5.lt;have QX:=K5.sets_other (c:=w.heap.size+1) QD [aa (dH t.1),ae t.1,aa t.2] 4;have QY:dK (w5.setCells (w.heap.size+1) 4 [aa (dH t.1),ae t.1,aa t.2]) (w.heap.size+1) #[aa 4,aa (dH k.1),ae k.1,aa k.2,aa (dH t.1),ae t.1,aa t.2,aa 0,ae ⟨#[]⟩,aa 0,aa 0,ae ⟨#[]⟩,aa 0] 211:=dK.sets [aa (dH t.1),ae t.1,aa t.2] [aa 4,aa (dH k.1),ae k.1,aa k.2] [aa 0,ae ⟨#[]⟩,aa 0] [aa 0,ae ⟨#[]⟩,aa 0,aa 0,ae ⟨#[]⟩,aa 0] J5 rfl;have QS:w.heap.size+1<(w5.setCells (w.heap.size+1) 4 [aa (dH t.1),ae t.1,aa t.2]).heap.size:=by simpa [World.setCells,World.setCell]using z5
      obtain⟨k1,k2⟩:=K5.rules;obtain⟨j1,j2⟩:=J5.rules;clear A5 R5 K5 z5;go_wp2_with fail;clear k1 k2 j1 j2 J5;refine(CL _ rb wb ws i5 _ [62] QW QH QG).mono ?_
      cases h6:gd ws [62] i5 with
      |error p=>
       rintro e w6 ⟨rfl,j,A⟩;obtain rfl:r= .error p:=by rw[<-HR.out,mD,d6 h1,d6 h2,d6 h3,d6 h4,d6 h5,e7 h6]
       unfold dI;go_wp2;exact⟨rfl,rfl,j,QQ.trans A QD⟩
      |ok q=>
       obtain⟨_,i6⟩:=q;rintro e w6 ⟨rfl,R6,A⟩;have z6:w.heap.size+1<w6.heap.size:=aC QS A.size;have K6:=QX.adv_ A QD n1;have J6:=QY.adv_ A QS n2;have A6:=QQ.trans A QD;clear A QW QX QY QQ QS;obtain⟨k1,k2⟩:=K6.rules;obtain⟨j1,j2⟩:=J6.rules;go_wp2_with fail;clear k1 k2 j1 j2;refine(OY _ rb wb ws i6 R6).mono ?_
       cases h7:mB ws i6 with
       |error p=>
        rintro e w7 ⟨rfl,j,A⟩;obtain rfl:r= .error p:=by rw[<-HR.out,mD,d6 h1,d6 h2,d6 h3,d6 h4,d6 h5,d6 h6,e7 h7]
        unfold dI;go_wp2;exact⟨rfl,rfl,j,A6.trans A QD⟩
       |ok q=>
        obtain⟨y,i7⟩:=q;rintro e w7 ⟨rfl,R7,A⟩;have z7:w.heap.size+1<w7.heap.size:=aC z6 A.size;have K7:=K6.adv_ A QD n1;have J7:=J6.adv_ A z6 n2;have A7:=A6.trans A QD;clear A R6 K6 J6 A6 z6;have QZ:=A7.sets (b:=w.heap.size+1) QD [aa (dH y.1.1),ae y.1.1,aa y.1.2,aa (dH y.2.1),ae y.2.1,aa y.2.2] 7;have Q0:=QZ.rd R R.blocks.1 R.blocks.2 R7.lt;have Q1:=K7.sets_other (c:=w.heap.size+1) QD [aa (dH y.1.1),ae y.1.1,aa y.1.2,aa (dH y.2.1),ae y.2.1,aa y.2.2] 7;have J7s:dK (w7.setCells (w.heap.size+1) 7 [aa (dH y.1.1),ae y.1.1,aa y.1.2,aa (dH y.2.1),ae y.2.1,aa y.2.2]) (w.heap.size+1) #[aa 4,aa (dH k.1),ae k.1,aa k.2,aa (dH t.1),ae t.1,aa t.2,aa (dH y.1.1),ae y.1.1,aa y.1.2,aa (dH y.2.1),ae y.2.1,aa y.2.2] 211:=dK.sets [aa (dH y.1.1),ae y.1.1,aa y.1.2,aa (dH y.2.1),ae y.2.1,aa y.2.2] [aa 4,aa (dH k.1),ae k.1,aa k.2,aa (dH t.1),ae t.1,aa t.2] [aa 0,ae ⟨#[]⟩,aa 0,aa 0,ae ⟨#[]⟩,aa 0] [] J7 rfl;have z7s:w.heap.size+1<(w7.setCells (w.heap.size+1) 7 [aa (dH y.1.1),ae y.1.1,aa y.1.2,aa (dH y.2.1),ae y.2.1,aa y.2.2]).heap.size:=by simpa [World.setCells,World.setCell]using z7
        obtain⟨k1,k2⟩:=K7.rules;obtain⟨j1,j2⟩:=J7.rules;obtain rfl:r= .ok (⟨4,some k,t,y.1,y.2⟩,i7):=by rw[<-HR.out,mD,d6 h1,d6 h2,d6 h3,d6 h4,d6 h5,d6 h6,d6 h7]
        go_wp2;have A9:=QZ.sets (b:=w.heap.size) (ay _) (p6 ⟨4,some k,t,y.1,y.2⟩) 0;have K9:=Q1.sets_all (p6 ⟨4,some k,t,y.1,y.2⟩) rfl;refine dE (dZ results340 _ _ rfl K9 underlying211 QI) rfl ⟨rfl,?_,A9⟩;exact A9.rd R R.blocks.1 R.blocks.2 Q0.lt
end
section
variable {w:an} {i base k m j:Nat} {ws:List W} {T:TypeId} {v:Value} {xs:aq} {form:Int}
attribute [local go_sem] ji jj jk
theorem OZ (w:an)(v0 v1 v2 v3 v4 v5 v6 v7 v8 v9 v10 v11 v12:Value):
  Calls prog 339 #[.agg #[v0,v1,v2,v3,v4,v5,v6,v7,v8,v9,v10,v11,v12]] w λe w'=>∃fv,e= .returned (.agg #[aa 0,ae ⟨#[]⟩,aa 0,fv])/\w'.ownsRow w.heap.size 211 13 fv 1 [v0,v1,v2,v3,v4,v5,v6,v7,v8,v9,v10,v11,v12]/\aj w w':=by
 go_enter func339,ntmps339;go_wp2
 have K:dK (((w.alloc (ak #[v0,v1,v2,v3,v4,v5,v6,v7,v8,v9,v10,v11,v12] 211)).alloc (ak #[aa 0,ae ⟨#[]⟩,aa 0,.slice (some (ai (w.heap.size+1+1) 0)) 1 1] 208)).alloc (ak #[v0,v1,v2,v3,v4,v5,v6,v7,v8,v9,v10,v11,v12] 211)) (w.heap.size+1) #[aa 0,ae ⟨#[]⟩,aa 0,.slice (some (ai (w.heap.size+1+1) 0)) 1 1] 208:=by
  have:=(dK.new (w.alloc (ak #[v0,v1,v2,v3,v4,v5,v6,v7,v8,v9,v10,v11,v12] 211)) #[aa 0,ae ⟨#[]⟩,aa 0,.slice (some (ai (w.heap.size+1+1) 0)) 1 1] 208).alloc (ak #[v0,v1,v2,v3,v4,v5,v6,v7,v8,v9,v10,v11,v12] 211);simpa using this
 refine dE (dZ results339 _ _ rfl K underlying208 QI) rfl ⟨_,rfl,⟨rfl,.inr ⟨w.heap.size+1+1,1,#[v0,v1,v2,v3,v4,v5,v6,v7,v8,v9,v10,v11,v12],rfl,QD,?_,QD,QK,rfl,rfl⟩⟩,?_⟩
 ·have:=dK.new ((w.alloc (ak #[v0,v1,v2,v3,v4,v5,v6,v7,v8,v9,v10,v11,v12] 211)).alloc (ak #[aa 0,ae ⟨#[]⟩,aa 0,.slice (some (ai (w.heap.size+1+1) 0)) 1 1] 208)) #[v0,v1,v2,v3,v4,v5,v6,v7,v8,v9,v10,v11,v12] 211;simpa [dK]using this
 ·exact(((Below.refl _ _).alloc (ay _) _).alloc QE _).alloc QF _
theorem ON (w:an)(f:eD):
  Calls prog 339 #[.agg (p6 f).toArray] w λe w'=>∃fv,e= .returned (.agg #[aa 0,ae ⟨#[]⟩,aa 0,fv])/\w'.ownsRow w.heap.size 211 13 fv 1 (p6 f)/\aj w w':=by
 obtain⟨form,key,ty,nm,nu⟩:=f
 cases key<;>exact OZ w _ _ _ _ _ _ _ _ _ _ _ _ _
theorem Rd.drew {rb wb:Nat}(R:Rd w rb wb ws i):Rd w.drew rb wb ws i:=
 R.below (Below.refl w.heap.size w).drew R.blocks.1 R.blocks.2
def iO (rb:Nat)(w:an):Nat:=
 match w.cell? (ai rb 1)with
 |some v=>(intOf v).toNat
 |none=>0
theorem Rd.nextOf {rb wb:Nat}(R:Rd w rb wb ws i):Go.Proofs.YtfebdimolnobaaaGreatDoor.iO rb w=i:=by
 simp[Go.Proofs.YtfebdimolnobaaaGreatDoor.iO,R.next,intOf]
theorem eF {w1:an}(hb:aj w w1)(h:w.ownsRow base T k v m xs):w1.ownsRow base T k v m xs:=by
 refine⟨h.1,?_⟩
 rcases h.2 with h2|⟨g,cap,QP,h2,h3,h4,h5⟩
 ·exact .inl h2
 ·exact .inr ⟨g,cap,QP,h2,h3,(hb.block g (dK.lt h4)).trans h4,h5⟩
theorem jl {w1:an}{n rb:Nat}(ha:ip n rb w w1 j)(hn:w.heap.size<=n)(hrb:rb<base)(h:w.ownsRow base T k v m xs):w1.ownsRow base T k v m xs:=by
 refine⟨h.1,?_⟩
 rcases h.2 with h2|⟨g,cap,QP,h2,h3,h4,h5⟩
 ·exact .inl h2
 ·exact .inr ⟨g,cap,QP,h2,h3,dK.adv_ h4 ha (aC (dK.lt h4) hn) QD,h5⟩
theorem nU (h:w.ownsRow base T k v m xs):w.drew.ownsRow base T k v m xs:=h
theorem nV {lo:Nat}(h:w.ownsRow base T k v m xs)(hl:lo<=base):w.ownsRow lo T k v m xs:=by
 refine⟨h.1,?_⟩
 rcases h.2 with h2|⟨g,cap,QP,h2,h3,h4,h5⟩
 ·exact .inl h2
 ·exact .inr ⟨g,cap,QP,h2,aH hl h3,h4,h5⟩
theorem gS {lo:Nat}(h:w.ownsRow base T k v m xs){b:Nat}(hb:b<base)(hl:lo<=base)(vs:aq)(o:Nat):(w.setCells b o vs).ownsRow lo T k v m xs:=by
 refine⟨h.1,?_⟩
 rcases h.2 with h2|⟨g,cap,QP,h2,h3,h4,h5⟩
 ·exact .inl h2
 ·exact .inr ⟨g,cap,QP,h2,aH hl h3,dK.sets_other (b:=g) h4 QD vs o,h5⟩
theorem dL (h:w.ownsRow base T k v m xs):∃a n c,v= .slice a n c:=by
 rcases h.2 with⟨h2,_⟩|⟨g,cap,QP,h2,h3⟩
 ·exact⟨_,_,_,h2⟩
 ·exact⟨_,_,_,h2⟩
theorem Jw (f:eD):(p6 f).length=13:=by
 obtain⟨form,key,ty,nm,nu⟩:=f
 cases key<;>rfl
theorem Tryz.info211:(prog.info? 211).map (λi=>(i.zero,i.size,i.bytes))=some (some (.agg #[aa 0,aa 0,ae ⟨#[]⟩,aa 0,aa 0,ae ⟨#[]⟩,aa 0,aa 0,ae ⟨#[]⟩,aa 0,aa 0,ae ⟨#[]⟩,aa 0]),13,136):=QI
theorem qx {f:eD}(h:fm ws form i= .ok (f,j)):p6 f= [aa form,aa 0,ae ⟨#[]⟩,aa 0,aa (dH f.type.1),ae f.type.1,aa f.type.2,aa (dH f.name.1),ae f.name.1,aa f.name.2,aa (dH f.num.1),ae f.num.1,aa f.num.2]:=by
 unfold fm at h;obtain⟨t,i1,h1,h⟩:=dM h;obtain⟨nm,i2,h2,h⟩:=dM h;simp at h;obtain⟨rfl,rfl⟩:=h;rfl
theorem Jx (w:an)(rb wb:Nat)(ws:List W)(i:Nat)(form:Int)(R:Rd w rb wb ws i):
  Calls prog 341 #[ag rb,aa form] w (mP w rb wb ws (fm ws form i) λf _ e=>e= .returned (.agg #[aa form,aa 0,ae ⟨#[]⟩,aa 0,aa (dH f.type.1),ae f.type.1,aa f.type.2,aa (dH f.name.1),ae f.name.1,aa f.name.2,aa (dH f.num.1),ae f.num.1,aa f.num.2])):=by
 refine(OM w rb wb ws i form R).mono λe w' h=> ?_
 cases hf:fm ws form i with
 |error p=>rw[hf]at h;exact h
 |ok q=>
  obtain⟨f,j⟩:=q;rw[hf]at h;obtain⟨h1,h2⟩:=h;exact⟨by rw[h1,qx hf],h2⟩
end
section
variable {P:Program} {ops:Array Oper} {Q:Exit->Act->an->Prop} {md:Region.Mode} {S:an->Prop} (i:Nat) {oi:Oper} {fuel:Nat} {listed:Array Bool} {a:Act} {w:an}
attribute [local go_sem] ji jj jk
attribute [local go_sem↓] Go.wp_at_zero Go.wp_at_succ
theorem gI (v:Value)(hi:ops[i]?=some oi)
  (hc:(Region.noSelect ops&&(Region.free md ops listed i&&(Region.ready md ops listed).contains i))=true) (hQ:∀c a w,Q (.panic c) (a.put oi.dst v) w->Q (.panic c) a w) (hy:YieldsIf P ops S oi v a) (hS:S w)
  (h:wpAnyH P md ops Q S fuel (listed.setIfInBounds i true) (a.put oi.dst v) w):wpAnyH P md ops Q S (fuel+1) listed a w:=by
 rw[aJ,aJ]at hc;exact wpAnyH_take hi hc.1 hc.2.1 hc.2.2 hQ hy hS h
theorem Qy (v:Value)(hS:S w)(h:wpAnyH P md ops Q S fuel (listed.setIfInBounds i true) (a.put oi.dst v) w)(hi:ops[i]?=some oi:=by rfl)
  (hc:(Region.noSelect ops&&(Region.free md ops listed i&&(Region.ready md ops listed).contains i))=true:=by kernel_rfl) (hQ:∀c a w,Q (.panic c) (a.put oi.dst v) w->Q (.panic c) a w:=by exact λ_ _ _ h=>h) (hy:YieldsIf P ops S oi v a:=by exact .inl ⟨rfl,λw ⟨s0,s1,s2⟩=>QO⟩):wpAnyH P md ops Q S (fuel+1) listed a w:=gI i v hi hc hQ hy hS h
theorem QA (v:Value)(hS:S w)(h:wpAnyH P md ops Q S fuel (listed.setIfInBounds i true) (a.put oi.dst v) w)(hi:ops[i]?=some oi:=by rfl)
  (hc:(Region.noSelect ops&&(Region.free md ops listed i&&(Region.ready md ops listed).contains i))=true:=by kernel_rfl) (hQ:∀c a w,Q (.panic c) (a.put oi.dst v) w->Q (.panic c) a w:=by exact λ_ _ _ h=>h) (hy:YieldsIf P ops S oi v a:=by exact .inl ⟨rfl,λw ⟨sc,s0,s1,s2⟩=>QO⟩):wpAnyH P md ops Q S (fuel+1) listed a w:=gI i v hi hc hQ hy hS h
theorem QB (v:Value)(hS:S w)(h:wpAnyH P md ops Q S fuel (listed.setIfInBounds i true) (a.put oi.dst v) w)(hi:ops[i]?=some oi:=by rfl)
  (hc:(Region.noSelect ops&&(Region.free md ops listed i&&(Region.ready md ops listed).contains i))=true:=by kernel_rfl) (hQ:∀c a w,Q (.panic c) (a.put oi.dst v) w->Q (.panic c) a w:=by exact λ_ _ _ h=>h) (hy:YieldsIf P ops S oi v a:=by exact .inr ⟨rfl,rfl⟩):wpAnyH P md ops Q S (fuel+1) listed a w:=gI i v hi hc hQ hy hS h
theorem Qb (w:an)(rb wb:Nat)(ws:List W)(i:Nat)(R:Rd w rb wb ws i):
  Calls prog 338 #[ag rb] w (mP w rb wb ws (ir ws i) λp w' e=>∃fv,e= .returned (.agg ((Jv p.oneof++ [fv]).toArray))/\w'.ownsRow w.heap.size 211 13 fv p.fields.length (p.fields.flatMap p6)):=by
 obtain⟨i0,QZ,Q0,Q1,Q2⟩:=info_parts Tryz.info211;have A0:ip w.heap.size rb w (w.alloc (ak #[aa 0,ae ⟨#[]⟩,aa 0,ah] 208)) i:=ip.of_below R.next ((Below.refl w.heap.size w).alloc (ay _) _);have R0:=R.alloc (ak #[aa 0,ae ⟨#[]⟩,aa 0,ah] 208);have K0:=dK.new w #[aa 0,ae ⟨#[]⟩,aa 0,ah] 208;have n1:¬w.heap.size=rb:=by have:=R.blocks;omega
 have n3:¬rb=w.heap.size:=QD;have z0:w.heap.size<(w.alloc (ak #[aa 0,ae ⟨#[]⟩,aa 0,ah] 208)).heap.size:=QE;generalize hr:ir ws i=r;have HR:Hid (ir ws i=r):=hr;clear hr;go_enter func338,ntmps338;go_wp2_with fail;refine(CL _ rb wb ws i _ [111,110,101,111,102] R0 QH QG).mono ?_
 cases h1:gd ws [111,110,101,111,102] i with
 |error p=>
  rintro e w1 ⟨rfl,j,A⟩;obtain rfl:r= .error p:=by rw[<-HR.out,ir,e7 h1]
  unfold dI;go_wp2;exact⟨rfl,rfl,j,A0.trans A QD⟩
 |ok q=>
  obtain⟨_,i1⟩:=q;rintro e w1 ⟨rfl,R1,A⟩;have z1:w.heap.size<w1.heap.size:=aC z0 A.size;have K1:=K0.adv_ A z0 n1;have A1:=A0.trans A QD;clear A R0 K0 A0 z0;go_wp2_with fail;refine(NH _ rb wb ws i1 1 R1 QG).mono ?_
  cases h2:ki ws 1 i1 with
  |error p=>
   rintro e w2 ⟨rfl,j,A⟩;obtain rfl:r= .error p:=by rw[<-HR.out,ir,d6 h1,e7 h2]
   unfold dI;go_wp2;exact⟨rfl,rfl,j,A1.trans A QD⟩
  |ok q=>
   obtain⟨x,i2⟩:=q;rintro e w2 ⟨rfl,R2,A⟩;have z2:w.heap.size<w2.heap.size:=aC z1 A.size;have K2:=(K1.adv_ A z1 n1).alloc (ak #[aa (dH x.1),ae x.1,aa x.2,ah] 208);have J2:=dK.new w2 #[aa (dH x.1),ae x.1,aa x.2,ah] 208;have A2:=(A1.trans A QD).alloc (ay _) (ak #[aa (dH x.1),ae x.1,aa x.2,ah] 208);have R3:=R2.alloc (ak #[aa (dH x.1),ae x.1,aa x.2,ah] 208);have z3:w2.heap.size<(w2.alloc (ak #[aa (dH x.1),ae x.1,aa x.2,ah] 208)).heap.size:=QE;have n5:¬w2.heap.size=rb:=by have:=R.blocks;omega
   have n6:¬w2.heap.size=w.heap.size:=QD;clear A R1 K1 A1 z1;go_wp2_with fail;refine(CL _ rb wb ws i2 _ [123] R3 QH QG).mono ?_
   cases h3:gd ws [123] i2 with
   |error p=>
    rintro e w3 ⟨rfl,j,A⟩;obtain rfl:r= .error p:=by rw[<-HR.out,ir,d6 h1,d6 h2,e7 h3]
    unfold dI;go_wp2;exact⟨rfl,rfl,j,A2.trans A QD⟩
   |ok q=>
    obtain⟨_,i3⟩:=q;rintro e w3 ⟨rfl,R4,A⟩;have z4:w2.heap.size<w3.heap.size:=aC z3 A.size;have K4:=K2.adv_ A QD n1;have J4:=J2.adv_ A z3 n5;have A4:=A2.trans A QD;clear A R2 R3 K2 J2 A2 z3;go_wp2_with fail;have j3:=J4.cell 3
    cases h4:fm ws 3 i3 with
    |error p=>
     obtain rfl:r= .error p:=by rw[<-HR.out,ir,d6 h1,d6 h2,d6 h3,e7 h4]
     refine wp_region_held_drew (S:=λw'=>w'.cell? (ai w2.heap.size 3)=some (ah)) QI (by simpa using j3) (λhHeld=> ?_);refine gI 0 (.pointer (some (ai w2.heap.size 3))) rfl QI (λ_ _ _ h=>h) (Or.inl ⟨QJ,λw QS=>by dsimp only at QS;go_simp⟩) hHeld ?_;refine gI 1 (ah) rfl QI (λ_ _ _ h=>h) (Or.inl ⟨QJ,λw QS=>by dsimp only at QS;go_simp⟩) hHeld ?_;refine gI 2 (ag rb) rfl QI (λ_ _ _ h=>h) (Or.inl ⟨QJ,λw QS=>by dsimp only at QS;go_simp⟩) hHeld ?_;simp only[Act.put,QC];refine wpAnyH_ready (rs:= [3]) QI QE (AllReadyH.cons rfl (λK hK=> ?_) AllReadyH.nil);clear hK;go_simp;refine(Jx _ rb wb ws i3 3 R4.drew).mono ?_;rw[h4];rintro e w4 ⟨rfl,j,A⟩;exact⟨rfl,rfl,j,A4.drew.trans A QF⟩
    |ok q=>
     obtain⟨f,i4⟩:=q;have HF:Hid (p6 f=_):=qx h4;obtain⟨M,HM⟩:∃M,Hid (mO [f] (gu (eZ ws [125]) (fm ws 3) ws.length i4)=M):=⟨_,rfl⟩
     have QX:Hid ((gG M λl i=>gG (gd ws [125] i) λ_ i=> .ok (⟨some x,l⟩,i))=r):=by
      have:=HR.out;rw[ir,d6 h1,d6 h2,d6 h3,d6 h4,HM.out]at this;exact this
     clear HR h1 h2 h3;go_cut []from 11 to 17 (λwr=>∃(n k:Nat) (fs:List eD) (fv:Value),fs.length<=k/\ws.length-k<=n/\Hid (mO fs (gu (eZ ws [125]) (fm ws 3) n k)=M)/\Rd wr rb wb ws k/\ip w.heap.size rb w wr k/\dK wr w.heap.size #[aa 0,ae ⟨#[]⟩,aa 0,ah] 208/\dK wr w2.heap.size #[aa (dH x.1),ae x.1,aa x.2,fv] 208/\wr.ownsRow (w2.heap.size+1) 211 13 fv fs.length (fs.flatMap p6)/\w2.heap.size<wr.heap.size)
     case first=>
      have J:=J4;have RR:=R4;have HO:Hid (some w2.heap.size≠(Value.slice none 0 0).ownBlock):=by simp[Hid,Value.ownBlock]
      go_region_law (first|(refine step_append_lies _ QJ _ _ _ QJ (w2.heap.size+1) 211 i0 _ 13 136 underlying206 QZ Q0 Q1 Q2 rfl QD (ah) 0 [] QJ (bf _ _ _ _) (ai w4.heap.size 0) 1 1 [_,_,_,_,_,_,_,_,_,_,_,_,_] QJ QJ (br (t:=211) (fr:=(0,0)) (heap_alloc_new w4 _)) QL QD QK QD (by have:=A.size;simp at this⊢;omega) (w4.heap.size+1) QE ?_;intro gg cap w5 QT QP Q7 Q8;obtain⟨x1,x2⟩:=(((J.drew.adv_ A QF n5).alloc _).grown QP HO.out).rules)|(go_simp;go_at_call 341;refine(Jx _ rb wb ws i3 3 RR.drew).mono ?_;rw[h4];rintro e w4 ⟨rfl,R5,A⟩;obtain⟨y1,y2⟩:=(J.drew.adv_ A QF n5).rules;obtain⟨y3,y4,y5,y6⟩:=fT (w:=w4) (b:=w2.heap.size) (by have:=A.size;simp at this;omega)))
      all_goals
       go_wp2;go_meet
       case rel=>
        go_light;have Q3:w3.heap.size<=w4.heap.size:=by have:=A.size;simpa using this
        have A6:=((((A4.drew.trans A QF).alloc (ay _) _).grown QP (ay _) (λk hk=>by simp[Value.ownBlock]at hk))).setCell (a:=(ai w2.heap.size 3)) QF (.slice (some (ai gg 0)) (0+1) cap);have hlt2:i3<i4:=kt _ _ _ _ _ h4;refine⟨ws.length,i4,[f],.slice (some (ai gg 0)) (0+1) cap,QF,QD,HM,A6.rd R R.blocks.1 R.blocks.2 R5.lt,A6,?_,?_,?_,?_⟩
        ·exact(((K4.drew.adv_ A QF n1).alloc _).grown QP (by simp[Value.ownBlock])).other 3 _ n6
        ·exact(((J4.drew.adv_ A QF n5).alloc _).grown QP (by simp[Value.ownBlock])).set 3 _
        ·have:=ownsRow_setCell_below QT (a:=(ai w2.heap.size 3)) QE (.slice (some (ai gg 0)) (0+1) cap);simpa [HF.out]using this
        ·have:=QP.size;simp[World.setCell]at this⊢;omega
     case rest=>
      clear J4 R4 K4 A4 z4 j3 h4 HF HM;go_wp2_with fail;go_loopw [20] (λ_ wr=>∃(n k:Nat) (fs:List eD) (fv:Value),fs.length<=k/\ws.length-k<=n/\Hid (mO fs (gu (eZ ws [125]) (fm ws 3) n k)=M)/\Rd wr rb wb ws k/\ip w.heap.size rb w wr k/\dK wr w.heap.size #[aa 0,ae ⟨#[]⟩,aa 0,ah] 208/\dK wr w2.heap.size #[aa (dH x.1),ae x.1,aa x.2,fv] 208/\wr.ownsRow (w2.heap.size+1) 211 13 fv fs.length (fs.flatMap p6)/\w2.heap.size<wr.heap.size) (λ_ wr=>ws.length-iO rb wr)
      case atStart=>exact hcut
      case round=>
       clear hcut;obtain⟨n,k,fs,fv,hfl,hn,HP,RR,AA,KK,J,QU,hz⟩:=hrel;have hk:=RR.lt;have hfew:=RR.few;have QY:=RR.nextOf;have HN:Hid (iO rb wr=k):=QY;clear QY;obtain⟨y,hy⟩:=RR.word
       cases hs:(y.1.toList== [125])
       ·have QW:eZ ws [125] k=false:=by unfold eZ;simp only[hy,hs]
        have HY:Hid (ws[k]?=some y):=hy;clear hy;go_wp2_with fail;refine(Jo _ rb wb ws k y _ RR HY.out).mono ?_;rintro e w3 ⟨rfl,QR⟩;rw[show(ByteArray.mk #[125]).toList= [125]from by decide+kernel];have R3:=RR.below QR RR.blocks.1 RR.blocks.2;have A3:=AA.below QR AA.size;have K3:=KK.below QR KK.lt;have J3:=J.below QR J.lt;have QQ:w3.ownsRow (w2.heap.size+1) 211 13 fv fs.length (fs.flatMap p6):=eF QR QU;have Q4:w2.heap.size<w3.heap.size:=aC hz QR.size
        have HO:Hid (some w2.heap.size≠fv.ownBlock):=by
         intro e;have:=(QQ.lt _ e.symm).1;omega
        clear RR AA KK J QU hz QR;go_wp2_with fail;have j3:=J3.cell 3
        cases h4:fm ws 3 k with
        |error p=>
         obtain rfl:r= .error p:=by
          rw[<-QX.out,<-HP.out,pC QW QD h4];rfl
         refine wp_region_held_drew (S:=λw'=>w'.cell? (ai w2.heap.size 3)=some fv) QI (by simpa using j3) (λhHeld=> ?_);refine gI 0 (.pointer (some (ai w2.heap.size 3))) rfl QI (λ_ _ _ h=>h) (Or.inl ⟨QJ,λw QS=>by dsimp only at QS;go_simp⟩) hHeld ?_;refine gI 1 fv rfl QI (λ_ _ _ h=>h) (Or.inl ⟨QJ,λw QS=>by dsimp only at QS;go_simp⟩) hHeld ?_;refine gI 2 (ag rb) rfl QI (λ_ _ _ h=>h) (Or.inl ⟨QJ,λw QS=>by dsimp only at QS;go_simp⟩) hHeld ?_;simp only[Act.put,QC];refine wpAnyH_ready (rs:= [3]) QI QE (AllReadyH.cons rfl (λK hK=> ?_) AllReadyH.nil);clear hK;go_simp;refine(Jx _ rb wb ws k 3 R3.drew).mono ?_;rw[h4];rintro e w4 ⟨rfl,j,A⟩;exact⟨rfl,rfl,j,A3.drew.trans A (by have:=A3.size;simp;omega)⟩
        |ok q=>
         obtain⟨f,k1⟩:=q;have HF:Hid (p6 f=_):=qx h4;have hk1:k<k1:=kt _ _ _ _ _ h4
         have Q5:Hid (mO (fs++ [f]) (gu (eZ ws [125]) (fm ws 3) (n-1) k1)=M):=by
          rw[<-HP.out,qS fs QW QD h4];exact rfl
         have J:=J3;have RR:=R3;go_region_law (first|(refine step_append_lies _ QJ _ _ _ QJ (w2.heap.size+1) 211 i0 _ 13 136 underlying206 QZ Q0 Q1 Q2 rfl QD fv fs.length (fs.flatMap p6) QJ ((jl A (ay _) (by have:=R.blocks;omega) (nU QQ)).alloc _) (ai w4.heap.size 0) 1 1 [_,_,_,_,_,_,_,_,_,_,_,_,_] QJ QJ (br (t:=211) (fr:=(0,0)) (heap_alloc_new w4 _)) QL QD QK QD (by have:=A.size;simp at this⊢;omega) (w4.heap.size+1) QE ?_;intro gg cap w5 QT QP Q7 Q8;obtain⟨x1,x2⟩:=(((J.drew.adv_ A QF n5).alloc _).grown QP HO.out).rules)|(go_simp;go_at_call 341;refine(Jx _ rb wb ws k 3 RR.drew).mono ?_;rw[h4];rintro e w4 ⟨rfl,R5,A⟩;obtain⟨y1,y2⟩:=(J.drew.adv_ A QF n5).rules;obtain⟨y3,y4,y5,y6⟩:=fT (w:=w4) (b:=w2.heap.size) (by have:=A.size;simp at this;omega)))
         all_goals
          go_wp2;go_roundw
          case rel=>
           go_light;have Q3:w3.heap.size<=w4.heap.size:=by have:=A.size;simpa using this
           have Q6:=QP.size;have A6:=((((A3.drew.trans A (by have:=A3.size;simp;omega)).alloc (ay _) _).grown QP (ay _) (λj hj=>by have:=(QQ.lt j hj).1;omega))).setCell (a:=(ai w2.heap.size 3)) QF (.slice (some (ai gg 0)) (fs.length+1) cap);refine⟨n-1,k1,fs++ [f],.slice (some (ai gg 0)) (fs.length+1) cap,QF,QD,Q5,A6.rd R R.blocks.1 R.blocks.2 R5.lt,A6,?_,?_,?_,?_⟩
           ·exact(((K3.drew.adv_ A QF n1).alloc _).grown QP (λe=>by have:=(QQ.lt _ e.symm).1;omega)).other 3 _ n6
           ·exact(((J3.drew.adv_ A QF n5).alloc _).grown QP HO.out).set 3 _
           ·have:=ownsRow_setCell_below QT (a:=(ai w2.heap.size 3)) QE (.slice (some (ai gg 0)) (fs.length+1) cap);simpa [HF.out]using this
           ·simp[World.setCell]at Q6⊢;omega
          case measure=>
           go_light;have A6:=((((A3.drew.trans A (by have:=A3.size;simp;omega)).alloc (ay _) _).grown QP (ay _) (λj hj=>by have:=(QQ.lt j hj).1;omega))).setCell (a:=(ai w2.heap.size 3)) QF (.slice (some (ai gg 0)) (fs.length+1) cap);have R6:=A6.rd R R.blocks.1 R.blocks.2 R5.lt;have h6:=R6.lt;rw[R6.nextOf,HN.out];omega
       ·have QW:eZ ws [125] k=true:=by unfold eZ;simp only[hy,hs]
        have h5:gd ws [125] k= .ok ((),k+1):=by unfold gd;simp only[hy,hs];rfl
        have HY:Hid (ws[k]?=some y):=hy;clear hy
        obtain rfl:r= .ok (⟨some x,fs⟩,k+1):=by
         rw[<-QX.out,<-HP.out,nT QW];simp only[mO,gG,h5,bK]
        go_wp2_with fail;refine(Jo _ rb wb ws k y _ RR HY.out).mono ?_;rintro e w3 ⟨rfl,QR⟩;rw[show(ByteArray.mk #[125]).toList= [125]from by decide+kernel];have R3:=RR.below QR RR.blocks.1 RR.blocks.2;have A3:=AA.below QR AA.size;have K3:=KK.below QR KK.lt;have J3:=J.below QR J.lt;have QQ:w3.ownsRow (w2.heap.size+1) 211 13 fv fs.length (fs.flatMap p6):=eF QR QU;have Q4:w2.heap.size<w3.heap.size:=aC hz QR.size;clear RR AA KK J QU hz QR;go_wp2_with fail;refine(CL _ rb wb ws k _ [125] R3 QH QG).mono ?_;rw[h5];rintro e w4 ⟨rfl,R4,A⟩;have K4:=K3.adv_ A QD n1;have J4:=J3.adv_ A QD n5;have A4:=A3.trans A A3.size;have QV:w4.ownsRow (w2.heap.size+1) 211 13 fv fs.length (fs.flatMap p6):=jl A (ay _) (by have:=R.blocks;omega) QQ;obtain⟨fa,fn,fc,rfl⟩:=dL QV;obtain⟨k1,k2⟩:=K4.rules;obtain⟨j1,j2⟩:=J4.rules;go_wp2;have A9:=A4.sets (b:=w.heap.size) (ay _) [aa (dH x.1),ae x.1,aa x.2,.slice fa fn fc] 0;have K9:=K4.sets_all [aa (dH x.1),ae x.1,aa x.2,.slice fa fn fc] rfl;refine dE (dZ results338 _ _ rfl K9 underlying208 QI) rfl ⟨⟨_,rfl,?_⟩,?_,A9⟩
        ·exact gS (lo:=w.heap.size) QV (b:=w.heap.size) (Nat.lt_succ_of_lt z2) (Nat.le_succ_of_le (bG z2)) [aa (dH x.1),ae x.1,aa x.2,.slice fa fn fc] 0
        ·exact A9.rd R R.blocks.1 R.blocks.2 R4.lt
end
end Go.Proofs.YtfebdimolnobaaaGreatDoor
