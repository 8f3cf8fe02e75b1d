import Derived.Test.YtfebdimolnobaaaGreatDoorProg
import Derived.Below
import Derived.Deep.AppendLies
import Derived.OwnWalk
import Derived.Deep.DrawnRows
import Derived.WalkKit
import Derived.WalkSpells
import Derived.WalkLawsBesides
import Derived.Maps.AppendAt
import Derived.Shelf.Pu.ParseUintPublic10
import Derived.Shelf.Unicode.ValidAny
import Derived.Deep.RegionHeld3
import Derived.Shelf.Small.Bits
import Derived.Shelf.Strconv.Itoa0
set_option maxRecDepth 100000
set_option maxHeartbeats 8000000
set_option linter.all false
namespace Go.Proofs.YtfebdimolnobaaaGreatDoor
open Go.RowKit Go.Proofs.Tryz
section
set_option linter.defProp false
section
abbrev aa (n:Int):Value:=.int .i64 n
abbrev ae (s:ByteArray):Value:=.string s
abbrev ai (b o:Nat):Addr:=⟨b,o,none⟩
abbrev ag (b:Nat):Value:=.pointer (some ⟨b,0,none⟩)
abbrev ah:Value:=.slice none 0 0
abbrev aj (w w':World):Prop:=Below w.heap.size w w'
abbrev ak (c:Array Value) (t:TypeId):Obj:=.cells c t
abbrev am:=ByteArray → Option Nat
abbrev an:=List UInt8
abbrev aq:=Array Value
abbrev ar:=List Int
abbrev au:=ByteArray
abbrev aw:=World
abbrev ax:=Nat → Prop
abbrev ay:=List Value
abbrev aA:=List ByteArray
abbrev aB:=List Nat
abbrev aC:=Option Addr
abbrev _root_.Go.World.S6(w:World)(c:Array Value)(t:TypeId):World:=w.alloc (.cells c t)
def aD:=@Nat.le_refl
def aE:=@List.setIfInBounds_toArray
def aF:=@List.set_cons_zero
def aG:=@List.set_cons_succ
def aH:=@List.getElem_cons_zero
def aI:=@Nat.lt_of_lt_of_le
def aJ:=@List.getElem_toArray
def aK:=@List.getElem_cons_succ
def aL:=@Nat.le_trans
def aM:=@Nat.zero_le
def aN:=@Bool.false_eq_true
def aO:=@List.mem_of_getElem?
def aP:=@List.getElem?_eq_getElem
def aQ:=@List.mem_append
def aR:=@List.mem_cons
def aS:=@List.drop_eq_getElem_cons
def aT:=@List.getElem?_map
def aU:=@ByteArray.size_extract
def aV:=@List.mem_map
def aW:=@List.flatMap_cons
def aX:=@World.ownsRow_nil
def aY:=@World.news_of_block
def aZ:=@World.block_lt_of_cell?
def be:=@List.nil_append
def bf:=@List.length_append
def bg:=@Option.map_eq_some_iff
def bi:=@List.getElem?_eq_none
def bj:=@List.contains_cons
def bm:=@List.length_map
def bn:=@List.mem_singleton
def bo:=@List.cons_append
def br:=@List.eq_nil_of_length_eq_zero
def bt:=@List.getElem?_eq_some_iff
def bu:=@List.take_add_one
def bz:=@World.cell?_of_block
def bC:=@Nat.le_succ
def bF:=@List.length_cons
def bG:=@List.length_take
def bH:=@List.append_nil
def bI:=@List.map_map
def bJ:=@Array.getElem?_eq_some_iff
def bK:=@Bool.and_eq_true
def bM:=@List.map_append
def bN:=@Bool.eq_false_iff
def bS:=@Int.eq_ofNat_of_zero_le
def bT:=@Array.getElem?_toList
def bU:=@List.pairwise_cons
def bV:=@Bool.eq_iff_iff
def bW:=@List.getElem?_append_left
def bX:=@List.take_length
def bY:=@List.mem_iff_getElem?
def bZ:=@List.length_filter_le
def b8:=@List.take_append_drop
def ca:=@World.size_alloc
def cg:=@List.getElem?_cons_succ
def ci:=@List.drop_eq_nil_iff
def cj:=@List.pairwise_iff_getElem
def ck:=@List.take_of_length_le
def cl:=@List.mem_filter
def cn:=@List.pairwise_map
def co:=@List.mem_cons_self
def cp:=@List.not_mem_nil
def cq:=@List.filter_cons
def cr:=@Array.getElem?_eq_getElem
def cu:=@List.map_cons
def cv:=@List.mem_cons_of_mem
def cB:=@List.pairwise_append
def cC:=@Bool.false_or
def cD:=@List.getD_eq_getElem?_getD
def cE:=@List.length_singleton
def cF:=@Bool.true_or
def cG:=@List.getElem?_take_of_lt
def cH:=@World.size_setCell
def cI:=@World.cell?_alloc_lt
def cJ:=@List.append_assoc
def cK:=@Nat.le_of_lt
def cL:=@List.drop_eq_nil_of_le
def cM:=@List.getElem?_append_right
def cN:=@Int.tmod_eq_emod_of_nonneg
def cO:=@List.getElem?_cons_zero
def cS:=@Array.getElem?_eq_none
def cT:=@ByteArray.data_extract
def cU:=@List.drop_of_length_le
def cV:=@List.filter_append
def cW:=@Nat.pow_le_pow_right
def cX:=@Option.isSome_iff_exists
def cY:=@List.drop_length
def cZ:=@List.flatMap_append
def da:=@Array.length_toList
def dd:=@Bool.or_false
def de:=@List.any_eq_false
def df:=@Option.mem_toList
def dg:=@Nat.zero_add
def dh:=@Bool.false_and
def dj:=@Bool.or_true
def dl:=@Bool.and_false
def dm:=@List.getElem?_of_mem
def dp:=@Nat.mod_eq_of_lt
def dq:=@Array.replicate_succ
def dt:=@Array.replicate_zero
def du:=@Bool.not_true
def dw:=@List.filter_sublist
def dx:=@List.filter_eq_self
def dy:=@List.append_toArray
def dz:=@List.length_nil
def dA:=@Array.extract_size
def dB:=@List.nodup_append
def dC:=@List.getElem?_set
def dD:=@List.size_toArray
def dE:=@List.push_toArray
def dF:=@World.ownsRow_lit
def dG:=@if_neg
def dH:=@if_pos
def dI:=@of_decide_eq_true
def dJ:=@bodyPost_ret
def dK:=@congrArg
abbrev S8:Value:=.string ⟨#[]⟩
abbrev S9:=Calls Tryz.prog
abbrev Ta(g n c:Nat):Value:=.slice (some ⟨g,0,none⟩) n c
theorem Tb(w:World):Below w.heap.size w w:=Below.refl _ w
theorem Tc(w:World)(o:Obj):Below w.heap.size w (w.alloc o):=(Below.refl _ w).alloc (Nat.le_refl _) o
def _root_.Go.Calls.V:=@Go.Calls.mono
def _root_.Go.RowKit.Below.V:=@Go.RowKit.Below.mono
def _root_.Go.RowKit.Below.J:=@Go.RowKit.Below.trans
def _root_.Go.RowKit.Below.l:=@Go.RowKit.Below.heap_alloc
def _root_.Go.RowKit.Hid.o:=@Go.RowKit.Hid.out
def _root_.Eq.J:=@Eq.trans
def _root_.Iff.J:=@Iff.trans
def _root_.Eq.sy:=@Eq.symm
def _root_.Ne.sy:=@Ne.symm
def _root_.Iff.sy:=@Iff.symm
theorem Td{A:Sort _}(a:A):∃R,a=R:=⟨_,rfl⟩
theorem Te{P:Prop}(h:P:=by omega):P:=h
theorem Tf{P:Prop}(h:P:=by simp):P:=h
theorem Tg{P:Prop}(h:P:=by simp;omega):P:=h
theorem Th{P:Prop}(h:P:=by decide):P:=h
theorem Ti{P:Prop}(h:P:=by decide+kernel):P:=h
theorem Tj{P:Prop}(h:P:=by kernel_rfl):P:=h
theorem Tk{P:Prop}(h:P:=by rfl):P:=h
theorem Tl{P:Prop}(h:P:=by unfold maxLen;omega):P:=h
theorem Tm{P:Prop}(h:P:=by simp[Value.oneCell']):P:=h
theorem Tn{P:Prop}(h:P:=by first|omega|(simp<;>omega)):P:=h
theorem To{P:Prop}(h:P:=by assumption):P:=h
theorem Tp{P:Prop}(h:P:=by go_simp):P:=h
theorem S7:(∀{α:Type} (l:List α) (i:Nat) (a:α),l.toArray.setIfInBounds i a=(l.set i a).toArray)∧(∀{α:Type} (x a:α) (l:List α),(x::l).set 0 a=a::l)∧(∀{α:Type} (x a:α) (l:List α) (i:Nat),(x::l).set (i+1) a=x::l.set i a)∧(∀{α:Type} (l:List α) (i:Nat) (h:i<l.toArray.size),l.toArray[i]=l[i]'(by simpa using h))∧(∀{α:Type} (x:α) (l:List α) (h:0<(x::l).length),(x::l)[0]=x)∧∀{α:Type} (x:α) (l:List α) (i:Nat) (h:i+1<(x::l).length),(x::l)[i+1]=l[i]'(by simpa using h):=⟨by simp,by simp,by simp,by simp,by simp,by simp⟩
namespace Tq
attribute [scoped go_sem↓] Go.wp_at_zero Go.wp_at_succ
end Tq
end
end
def yG (fn:Fn)(first cap:aq)(w:aw):(Instr.makeFunc fn first cap).run prog w= .ok (.func fn first cap) w:=rfl
def gl {α:Type}{l:List α}{i:Nat}{x:α}(h:l[i]?=some x):i<l.length:=(bt.1 h).1
def gx {α:Type}{l:List α}{i:Nat}(h:i<l.length):∃x,l[i]?=some x:=⟨_,aP h⟩
def ww (c:Int):Bool:=(decide (97<=c)&&decide (c<=122))||(decide (65<=c)&&decide (c<=90))||c==95
def lM (c:Int):Bool:=decide (48<=c)&&decide (c<=57)
def Cg (c:Int):Bool:=c==32||c==10
def im {a b:Bool}(h:a=true<->b=true):Ending.returned (.bool a)= .returned (.bool b):=by
 rw[bV.2 h]
def IF (c:Int)(w:aw):
  Calls prog 72 #[.int .u8 c] w λe w'=>e= .returned (.bool (ww c))/\w'=w:=by
 go_in
 go_wp2
 all_goals
  go_ret;exact⟨im (by simp[ww];try omega),rfl⟩
def IG (c:Int)(w:aw):
  Calls prog 171 #[.int .u8 c] w λe w'=>e= .returned (.bool (ww c))/\w'=w:=by
 go_in
 go_wp2
 all_goals
  go_ret;exact⟨im (by simp[ww];try omega),rfl⟩
def Mn (c:Int)(w:aw):
  Calls prog 73 #[.int .u8 c] w λe w'=>e= .returned (.bool (lM c))/\w'=w:=by
 go_in
 go_wp2
 all_goals
  go_ret;exact⟨im (by simp[lM];try omega),rfl⟩
def D5 (c:Int)(w:aw):
  Calls prog 172 #[.int .u8 c] w λe w'=>e= .returned (.bool (lM c))/\w'=w:=by
 go_in
 go_wp2
 all_goals
  go_ret;exact⟨im (by simp[lM];try omega),rfl⟩
def RX (c:Int)(w:aw):
  Calls prog 115 #[.int .u8 c] w λe w'=>e= .returned (.bool (Cg c))/\w'=w:=by
 go_in
 go_wp2
 all_goals
  go_ret;exact⟨im (by simp[Cg];try omega),rfl⟩
def Mo:List (an):= [[109,101,115,115,97,103,101],[101,110,117,109],[114,101,112,101,97,116,101,100],[111,112,116,105,111,110,97,108],[111,110,101,111,102],[109,97,112]]
def lA:List (an):= [[105,110,116,51,50],[105,110,116,54,52],[117,105,110,116,51,50],[117,105,110,116,54,52],[115,105,110,116,51,50],[115,105,110,116,54,52],[98,111,111,108],[102,105,120,101,100,51,50],[102,105,120,101,100,54,52],[115,102,105,120,101,100,51,50],[115,102,105,120,101,100,54,52],[102,108,111,97,116],[100,111,117,98,108,101],[115,116,114,105,110,103],[98,121,116,101,115]]
def qW (l:an):Bool:=Mo.contains l
def ip (l:an):Bool:=lA.contains l
def Rs (s:au)(w:aw):
  Calls prog 173 #[ae s] w λe w'=>e= .returned (.bool (qW s.toList))/\w'=w:=by
 cases h0:(s.toList== [109,101,115,115,97,103,101]);rotate_left
 .go_in
  go_wp2;go_ret;exact⟨im (by simp only[qW,Mo,bj,h0];simp),rfl⟩
 cases h1:(s.toList== [101,110,117,109]);rotate_left
 .go_in
  go_wp2;go_ret;exact⟨im (by simp only[qW,Mo,bj,h0,h1];simp),rfl⟩
 cases h2:(s.toList== [114,101,112,101,97,116,101,100]);rotate_left
 .go_in
  go_wp2;go_ret;exact⟨im (by simp only[qW,Mo,bj,h0,h1,h2];simp),rfl⟩
 cases h3:(s.toList== [111,112,116,105,111,110,97,108]);rotate_left
 .go_in
  go_wp2;go_ret;exact⟨im (by simp only[qW,Mo,bj,h0,h1,h2,h3];simp),rfl⟩
 cases h4:(s.toList== [111,110,101,111,102]);rotate_left
 .go_in
  go_wp2;go_ret;exact⟨im (by simp only[qW,Mo,bj,h0,h1,h2,h3,h4];simp),rfl⟩
 cases h5:(s.toList== [109,97,112]);rotate_left
 .go_in
  go_wp2;go_ret;exact⟨im (by simp only[qW,Mo,bj,h0,h1,h2,h3,h4,h5];simp),rfl⟩
 .go_in
  go_wp2;go_ret;exact⟨im (by simp only[qW,Mo,bj,h0,h1,h2,h3,h4,h5];simp),rfl⟩
def RY (s:au)(w:aw):
  Calls prog 174 #[ae s] w λe w'=>e= .returned (.bool (ip s.toList))/\w'=w:=by
 cases h0:(s.toList== [105,110,116,51,50]);rotate_left
 .go_in
  go_wp2;go_ret;exact⟨im (by simp only[ip,lA,bj,h0];simp),rfl⟩
 cases h1:(s.toList== [105,110,116,54,52]);rotate_left
 .go_in
  go_wp2;go_ret;exact⟨im (by simp only[ip,lA,bj,h0,h1];simp),rfl⟩
 cases h2:(s.toList== [117,105,110,116,51,50]);rotate_left
 .go_in
  go_wp2;go_ret;exact⟨im (by simp only[ip,lA,bj,h0,h1,h2];simp),rfl⟩
 cases h3:(s.toList== [117,105,110,116,54,52]);rotate_left
 .go_in
  go_wp2;go_ret;exact⟨im (by simp only[ip,lA,bj,h0,h1,h2,h3];simp),rfl⟩
 cases h4:(s.toList== [115,105,110,116,51,50]);rotate_left
 .go_in
  go_wp2;go_ret;exact⟨im (by simp only[ip,lA,bj,h0,h1,h2,h3,h4];simp),rfl⟩
 cases h5:(s.toList== [115,105,110,116,54,52]);rotate_left
 .go_in
  go_wp2;go_ret;exact⟨im (by simp only[ip,lA,bj,h0,h1,h2,h3,h4,h5];simp),rfl⟩
 cases h6:(s.toList== [98,111,111,108]);rotate_left
 .go_in
  go_wp2;go_ret;exact⟨im (by simp only[ip,lA,bj,h0,h1,h2,h3,h4,h5,h6];simp),rfl⟩
 cases h7:(s.toList== [102,105,120,101,100,51,50]);rotate_left
 .go_in
  go_wp2;go_ret;exact⟨im (by simp only[ip,lA,bj,h0,h1,h2,h3,h4,h5,h6,h7];simp),rfl⟩
 cases h8:(s.toList== [102,105,120,101,100,54,52]);rotate_left
 .go_in
  go_wp2;go_ret;exact⟨im (by simp only[ip,lA,bj,h0,h1,h2,h3,h4,h5,h6,h7,h8];simp),rfl⟩
 cases h9:(s.toList== [115,102,105,120,101,100,51,50]);rotate_left
 .go_in
  go_wp2;go_ret;exact⟨im (by simp only[ip,lA,bj,h0,h1,h2,h3,h4,h5,h6,h7,h8,h9];simp),rfl⟩
 cases h10:(s.toList== [115,102,105,120,101,100,54,52]);rotate_left
 .go_in
  go_wp2;go_ret;exact⟨im (by simp only[ip,lA,bj,h0,h1,h2,h3,h4,h5,h6,h7,h8,h9,h10];simp),rfl⟩
 cases h11:(s.toList== [102,108,111,97,116]);rotate_left
 .go_in
  go_wp2;go_ret;exact⟨im (by simp only[ip,lA,bj,h0,h1,h2,h3,h4,h5,h6,h7,h8,h9,h10,h11];simp),rfl⟩
 cases h12:(s.toList== [100,111,117,98,108,101]);rotate_left
 .go_in
  go_wp2;go_ret;exact⟨im (by simp only[ip,lA,bj,h0,h1,h2,h3,h4,h5,h6,h7,h8,h9,h10,h11,h12];simp),rfl⟩
 cases h13:(s.toList== [115,116,114,105,110,103]);rotate_left
 .go_in
  go_wp2;go_ret;exact⟨im (by simp only[ip,lA,bj,h0,h1,h2,h3,h4,h5,h6,h7,h8,h9,h10,h11,h12,h13];simp),rfl⟩
 cases h14:(s.toList== [98,121,116,101,115]);rotate_left
 .go_in
  go_wp2;go_ret;exact⟨im (by simp only[ip,lA,bj,h0,h1,h2,h3,h4,h5,h6,h7,h8,h9,h10,h11,h12,h13,h14];simp),rfl⟩
 .go_in
  go_wp2;go_ret;exact⟨im (by simp only[ip,lA,bj,h0,h1,h2,h3,h4,h5,h6,h7,h8,h9,h10,h11,h12,h13,h14];simp),rfl⟩
section
variable {t:au} {k n:Nat} {p:Int->Bool}
def fR (t:au)(k:Nat):Int:=if h:k<t.size then(t[k].toNat:Int)else 0
theorem gX (h:k<t.size):(t[k].toNat:Int)=fR t k:=by unfold fR;rw[dif_pos h]
def iW (p:Int->Bool)(t:au):Nat->Nat->Nat
 |0,k=>k
 |n+1,k=>if decide (k<t.size)&&p (fR t k)then iW p t n (k+1)else k
theorem vJ (c:t.size-k<=n)(a:k<t.size)(b:p (fR t k)=true):
  ∃m,t.size-(k+1)<=m/\iW p t n k=iW p t m (k+1):=by
 cases n with
 |zero=>omega
 |succ m=>exact⟨m,Te,by simp[iW,a,b]⟩
theorem jW (h:¬k<t.size\/p (fR t k)=false):iW p t n k=k:=by
 cases n with
 |zero=>rfl
 |succ m=>rcases h with h|h<;>simp[iW,h]
theorem Ap (p:Int->Bool)(t:au):∀n k,k<=t.size->k<=iW p t n k/\iW p t n k<=t.size
 |0,k,h=>⟨aD _,h⟩
 |n+1,k,h=>by
  unfold iW;by_cases hc:(decide (k<t.size)&&p (fR t k))=true
  .rw[dH hc];have a:k<t.size:=by simp at hc;exact hc.1
   have:=Ap p t n (k+1) a;omega
  .rw[dG hc];omega
def Aq (c:Int):Bool:=ww c||lM c
def ic (t:au)(a:Nat):Nat:=
 if ww (fR t a)then iW Aq t t.size (a+1)else if lM (fR t a)&&fR t a !=48 then iW lM t t.size (a+1)else a+1
theorem oM (t:au)(a:Nat)(h:a<t.size):a+1<=ic t a/\ic t a<=t.size:=by
 unfold ic;split;.exact Ap _ _ _ _ h
 .split;.exact Ap _ _ _ _ h
  .omega
abbrev W:=au×Nat
def jT (t:au):Nat->Nat->List W
 |0,_=> []
 |n+1,a=>if a<t.size then if Cg (fR t a)then jT t n (a+1)else(t.extract a (ic t a),a)::jT t n (ic t a)else []
def yH (t:au):List W:=jT t t.size 0
def eB (t:au):List W:=yH t++ [(⟨#[]⟩,t.size)]
theorem Ch {a:Nat}(h:¬a<t.size):jT t n a= []:=by
 cases n with
 |zero=>rfl
 |succ n=>simp[jT,h]
theorem wz {a:Nat}(c:t.size-a<=n)(h:a<t.size)(b:Cg (fR t a)=true):
  ∃m,t.size-(a+1)<=m/\jT t n a=jT t m (a+1):=by
 cases n with
 |zero=>omega
 |succ m=>exact⟨m,Te,by simp[jT,h,b]⟩
theorem zj {a:Nat}(c:t.size-a<=n)(h:a<t.size)(b:Cg (fR t a)=false):
  ∃m,t.size-(ic t a)<=m/\jT t n a=(t.extract a (ic t a),a)::jT t m (ic t a):=by
 cases n with
 |zero=>omega
 |succ m=>
  have:=oM t a h;exact⟨m,Te,by simp[jT,h,b]⟩
theorem jJ (t:au):∀n a,∀x∈jT t n a,a<=x.2/\x.2<t.size/\0<x.1.size/\x.1.size<=t.size
 |0,a,x,h=>by simp[jT]at h
 |n+1,a,x,h=>by
  unfold jT at h;by_cases ha:a<t.size
  .rw[dH ha]at h;by_cases hg:Cg (fR t a)=true;.rw[dH hg]at h;have:=jJ t n (a+1) x h;omega
   .rw[dG hg]at h;have b:=oM t a ha;rcases aR.1 h with rfl|h;.refine⟨aD _,ha,?_,?_⟩<;>simp[aU]<;>omega
    .have:=jJ t n (ic t a) x h;omega
  .rw[dG ha]at h;simp at h
theorem pL (t:au):∀n a,(jT t n a).length<=t.size-a
 |0,a=>by simp[jT]
 |n+1,a=>by
  unfold jT;by_cases ha:a<t.size
  .rw[dH ha];have b:=oM t a ha;by_cases hg:Cg (fR t a)=true;.rw[dH hg];have:=pL t n (a+1);omega
   .rw[dG hg];have:=pL t n (ic t a);simp only[bF];omega
  .rw[dG ha];simp
end
def rJ {k:IntKind}{a b:Int}(h:a=b):Ending.returned (.int k a)= .returned (.int k b):=by rw[h]
def Sl (t:au)(a:Nat)(w:aw)(h:a<t.size)(s:t.size<=2000):
  Calls prog 116 #[ae t,aa a] w λe w'=>e= .returned (aa (ic t a))/\w'=w:=by
 have r:=gX h;cases h1:ww (fR t a)
 .cases h2:lM (fR t a)
  .have c:Hid (ic t a=a+1):=by unfold ic;simp[h1,h2,Hid]
   go_in
   go_wp2_with (first|(go_at_call 171;refine(IG _ _).V ?_;rintro e w' ⟨rfl,rfl⟩)|(go_at_call 172;refine(D5 _ _).V ?_;rintro e w' ⟨rfl,rfl⟩))
   go_ret;exact⟨rJ (by rw[c.o];simp),rfl⟩
  .cases h3:(fR t a !=48)
   .have c:Hid (ic t a=a+1):=by unfold ic;simp only[h1,h2,h3,Hid];simp
    go_in
    go_wp2_with (first|(go_at_call 171;refine(IG _ _).V ?_;rintro e w' ⟨rfl,rfl⟩)|(go_at_call 172;refine(D5 _ _).V ?_;rintro e w' ⟨rfl,rfl⟩))
    go_ret;exact⟨rJ (by rw[c.o];simp),rfl⟩
   .have c:Hid (ic t a=iW lM t t.size (a+1)):=by unfold ic;simp only[h1,h2,h3,Hid];simp
    go_in
    go_wp2_with (first|(go_at_call 171;refine(IG _ _).V ?_;rintro e w' ⟨rfl,rfl⟩)|(go_at_call 172;refine(D5 _ _).V ?_;rintro e w' ⟨rfl,rfl⟩))
    go_loop [6] (λi=>∃n k:Nat,k<=t.size/\t.size-k<=n/\Hid (iW lM t n k=iW lM t t.size (a+1))/\i=aa k) (λi=>t.size-(intOf i).toNat)
    case atStart=>exact⟨t.size,a+1,Te,Te,rfl,Tf⟩
    case round=>
     obtain⟨n,k,q,l,d,rfl⟩:=hrel;by_cases hlt:k<t.size
     .have o:=gX hlt;cases h4:lM (fR t k)
      .have b:Hid (k=iW lM t t.size (a+1)):=by rw[<-d.o,jW (.inr h4)];exact rfl
       go_wp2_with (first|(go_at_call 172;refine(D5 _ _).V ?_;rintro e w' ⟨rfl,rfl⟩))
       go_ret;exact⟨rJ (by rw[c.o,<-b.o]),rfl⟩
      .have⟨m,j,f⟩:=vJ l hlt h4;have b:Hid (iW lM t m (k+1)=iW lM t t.size (a+1)):=f.sy.J d.o;clear f;go_wp2_with (first|(go_at_call 172;refine(D5 _ _).V ?_;rintro e w' ⟨rfl,rfl⟩))
       go_round
       case rel=>exact⟨m,k+1,Te,j,b,by go_num⟩
       case measure=>simp[intOf];omega
     .have b:Hid (k=iW lM t t.size (a+1)):=by rw[<-d.o,jW (.inl hlt)];exact rfl
      go_wp2_with (first|(go_at_call 172;refine(D5 _ _).V ?_;rintro e w' ⟨rfl,rfl⟩))
      go_ret;exact⟨rJ (by rw[c.o,<-b.o]),rfl⟩
 .have c:Hid (ic t a=iW Aq t t.size (a+1)):=by unfold ic;simp only[h1,Hid];simp
  go_in
  go_wp2_with (first|(go_at_call 171;refine(IG _ _).V ?_;rintro e w' ⟨rfl,rfl⟩)|(go_at_call 172;refine(D5 _ _).V ?_;rintro e w' ⟨rfl,rfl⟩))
  go_loop [6] (λi=>∃n k:Nat,k<=t.size/\t.size-k<=n/\Hid (iW Aq t n k=iW Aq t t.size (a+1))/\i=aa k) (λi=>t.size-(intOf i).toNat)
  case atStart=>exact⟨t.size,a+1,Te,Te,rfl,Tf⟩
  case round=>
   obtain⟨n,k,q,l,d,rfl⟩:=hrel;by_cases hlt:k<t.size
   .have o:=gX hlt;cases h4:Aq (fR t k)
    .have b:Hid (k=iW Aq t t.size (a+1)):=by rw[<-d.o,jW (.inr h4)];exact rfl
     have g:ww (fR t k)=false/\lM (fR t k)=false:=by simpa [Aq]using h4
     obtain⟨g,p⟩:=g;clear h4;go_wp2_with (first|(go_at_call 171;refine(IG _ _).V ?_;rintro e w' ⟨rfl,rfl⟩)|(go_at_call 172;refine(D5 _ _).V ?_;rintro e w' ⟨rfl,rfl⟩))
     go_ret;exact⟨rJ (by rw[c.o,<-b.o]),rfl⟩
    .have⟨m,j,f⟩:=vJ l hlt h4;have b:Hid (iW Aq t m (k+1)=iW Aq t t.size (a+1)):=f.sy.J d.o;clear f;cases g:ww (fR t k)
     .have p:lM (fR t k)=true:=by simpa [Aq,g]using h4
      clear h4;go_wp2_with (first|(go_at_call 171;refine(IG _ _).V ?_;rintro e w' ⟨rfl,rfl⟩)|(go_at_call 172;refine(D5 _ _).V ?_;rintro e w' ⟨rfl,rfl⟩))
      go_round
      case rel=>exact⟨m,k+1,Te,j,b,by go_num⟩
      case measure=>simp[intOf];omega
     .clear h4;go_wp2_with (first|(go_at_call 171;refine(IG _ _).V ?_;rintro e w' ⟨rfl,rfl⟩)|(go_at_call 172;refine(D5 _ _).V ?_;rintro e w' ⟨rfl,rfl⟩))
      go_round
      case rel=>exact⟨m,k+1,Te,j,b,by go_num⟩
      case measure=>simp[intOf];omega
   .have b:Hid (k=iW Aq t t.size (a+1)):=by rw[<-d.o,jW (.inl hlt)];exact rfl
    go_wp2_with (first|(go_at_call 172;refine(D5 _ _).V ?_;rintro e w' ⟨rfl,rfl⟩))
    go_ret;exact⟨rJ (by rw[c.o,<-b.o]),rfl⟩
def iP (s:au):Int:=
 if lM (fR s 0)then 2 else if !ww (fR s 0)||qW s.toList then 0 else if ip s.toList then 3 else 1
def dN (s:au):Int:=if s.size=0 then 4 else iP s
def Sm (s:au)(w:aw)(h:0<s.size):
  Calls prog 117 #[ae s] w λe w'=>e= .returned (aa (iP s))/\w'=w:=by
 have b:=gX h;cases h1:lM (fR s 0)
 .cases h2:ww (fR s 0)
  .have a:Hid (iP s=0):=by unfold iP;simp[h1,h2,Hid]
   go_in
   go_wp2_with (first|(go_at_call 171;refine(IG _ _).V ?_;rintro e w' ⟨rfl,rfl⟩)|(go_at_call 172;refine(D5 _ _).V ?_;rintro e w' ⟨rfl,rfl⟩))
   go_ret;exact⟨rJ (by rw[a.o]),rfl⟩
  .cases h3:qW s.toList
   .cases h4:ip s.toList
    .have a:Hid (iP s=1):=by unfold iP;simp[h1,h2,h3,h4,Hid]
     go_in
     go_wp2_with (first|(go_at_call 171;refine(IG _ _).V ?_;rintro e w' ⟨rfl,rfl⟩)|(go_at_call 172;refine(D5 _ _).V ?_;rintro e w' ⟨rfl,rfl⟩)|(go_at_call 173;refine(Rs _ _).V ?_;rintro e w' ⟨rfl,rfl⟩)|(go_at_call 174;refine(RY _ _).V ?_;rintro e w' ⟨rfl,rfl⟩))
     go_ret;exact⟨rJ (by rw[a.o]),rfl⟩
    .have a:Hid (iP s=3):=by unfold iP;simp[h1,h2,h3,h4,Hid]
     go_in
     go_wp2_with (first|(go_at_call 171;refine(IG _ _).V ?_;rintro e w' ⟨rfl,rfl⟩)|(go_at_call 172;refine(D5 _ _).V ?_;rintro e w' ⟨rfl,rfl⟩)|(go_at_call 173;refine(Rs _ _).V ?_;rintro e w' ⟨rfl,rfl⟩)|(go_at_call 174;refine(RY _ _).V ?_;rintro e w' ⟨rfl,rfl⟩))
     go_ret;exact⟨rJ (by rw[a.o]),rfl⟩
   .have a:Hid (iP s=0):=by unfold iP;simp[h1,h2,h3,Hid]
    go_in
    go_wp2_with (first|(go_at_call 171;refine(IG _ _).V ?_;rintro e w' ⟨rfl,rfl⟩)|(go_at_call 172;refine(D5 _ _).V ?_;rintro e w' ⟨rfl,rfl⟩)|(go_at_call 173;refine(Rs _ _).V ?_;rintro e w' ⟨rfl,rfl⟩))
    go_ret;exact⟨rJ (by rw[a.o]),rfl⟩
 .have a:Hid (iP s=2):=by unfold iP;simp[h1,Hid]
  go_in
  go_wp2_with (first|(go_at_call 171;refine(IG _ _).V ?_;rintro e w' ⟨rfl,rfl⟩)|(go_at_call 172;refine(D5 _ _).V ?_;rintro e w' ⟨rfl,rfl⟩))
  go_ret;exact⟨rJ (by rw[a.o]),rfl⟩
def Ar {k:IntKind}{a b:Int}(h:a=b):Value.int k a= .int k b:=by rw[h]
def wC (x:W):ay:= [aa (dN x.1),ae x.1,aa x.2]
def pM (w:aw)(a b c:Value)(t:TypeId):∀j u,[a,b,c][j]?=some u->(w.alloc (.cells #[a,b,c] t)).cell? (((ai w.heap.size 0):Addr).add j)=some u:=by
 intro j u d
 match j,d with
 |0,d=>simp at d;subst d;simp[Addr.add]
 |1,d=>simp at d;subst d;simp[Addr.add]
 |2,d=>simp at d;subst d;simp[Addr.add]
 |j+3,d=>simp at d
def Tryz.info148:(prog.info? 148).map (λi=>(i.zero,i.size,i.bytes))=some (some (.agg #[aa 0,S8,aa 0]),3,32):=Tj
def Sn (t:au)(w:aw)(K:t.size<=2000):
  Calls prog 69 #[ae t] w λe w'=>∃v,e= .returned v/\w'.ownsRow w.heap.size 148 3 v (eB t).length ((eB t).flatMap wC)/\aj w w':=by
 have⟨C,z,s,x,y⟩:=info_parts Tryz.info148;go_in
 go_wp2;go_loopw [3,4] (λv a wr=>∃(n k:Nat) (pre:List W),k<=t.size/\t.size-k<=n/\pre.length<=k/\Hid (pre++jT t n k=yH t)/\a=aa k/\wr.ownsRow w.heap.size 148 3 v pre.length (pre.flatMap wC)/\aj w wr) (λ_ i _=>t.size-(intOf i).toNat)
 case atStart=>exact⟨t.size,0,[],Te,Te,Tf,rfl,rfl,aX _ _ _ _,Below.refl _ _⟩
 case round=>
  obtain⟨n,k,pre,A,B,J,l,rfl,f,b⟩:=hrel;by_cases c:k<t.size
  .have H:=gX c;cases hg:Cg (fR t k)
   .have I:=oM t k c;have G:0<(t.extract k (ic t k)).size:=by rw[aU];omega
    have⟨m,r,g⟩:=zj B c hg;have d:Hid ((pre++ [(t.extract k (ic t k),k)])++jT t m (ic t k)=yH t):=(by have:=l.o;rw[g]at this;simpa [Hid]using this);have D:Hid (dN (t.extract k (ic t k))=iP (t.extract k (ic t k))):=(by unfold dN;rw[dG Te];exact rfl);clear g;go_wp2_with (first|(go_at_call 115;refine(RX _ _).V ?_;rintro e w' ⟨rfl,rfl⟩)|(go_at_call 116;refine(Sl _ _ _ c K).V ?_;rintro e w' ⟨rfl,rfl⟩)|(go_at_call 117;refine(Sm _ _ G).V ?_;rintro e w' ⟨rfl,rfl⟩)|(at_builtin;refine wpList_append_own_at _ rfl _ _ 155 rfl w.heap.size 148 C _ 3 32 underlying155 z s x y rfl Th u3 _ _ rfl (f.alloc _) _ 1 1 [_,_,_] rfl rfl (pM _ _ _ _ _) ?h1 ?Tx ?Ty ?Tz ?_;rotate_right;intro v' w1 o p E F))
    case h1=>intro u h;simp at h;rcases h with rfl|rfl|rfl<;>rfl
    case Tx=>unfold maxLen;omega
    case Ty=>omega
    case Tz=>have:=b.size;simp;omega
    refine⟨⟨m,ic t k,pre++ [(t.extract k (ic t k),k)],I.2,r,Tg,d,Ar Te,?_,?_⟩,by simp[intOf];omega⟩;.simpa [wC,D.o]using o
    .exact(b.alloc b.size _).grown p (by have:=b.size;simp;omega) (λj q=>(f.lt j q).1)
   .have⟨m,r,g⟩:=wz B c hg;have d:Hid (pre++jT t m (k+1)=yH t):=(by have:=l.o;rw[g]at this;simpa [Hid]using this);clear g;go_wp2_with (first|(go_at_call 115;refine(RX _ _).V ?_;rintro e w' ⟨rfl,rfl⟩))
    go_roundw
    case rel=>exact⟨m,k+1,pre,Te,r,Te,d,by go_num,f,b⟩
    case measure=>simp[intOf];omega
  .have d:Hid (pre=yH t):=(by have:=l.o;rw[Ch c]at this;simpa [Hid]using this);go_wp2_with (first|(at_builtin;refine wpList_append_own_at _ rfl _ _ 155 rfl w.heap.size 148 C _ 3 32 underlying155 z s x y rfl Th u3 _ _ rfl (f.alloc _) _ 1 1 [_,_,_] rfl rfl (pM _ _ _ _ _) ?h1 ?Tx ?Ty ?Tz ?_;rotate_right;intro v' w1 o p E F))
   case h1=>intro u h;simp at h;rcases h with rfl|rfl|rfl<;>rfl
   case Tx=>unfold maxLen;omega
   case Ty=>omega
   case Tz=>have:=b.size;simp;omega
   go_ret;refine⟨v',rfl,?_,?_⟩;.have:=d.o;subst this;have A:dN ⟨#[]⟩=4:=rfl;simpa [eB,wC,A]using o
   .exact(b.alloc b.size _).grown p (by have:=b.size;simp;omega) (λj q=>(f.lt j q).1)
section
variable {w w':aw} {n rb j:Nat} {ws:List W}
structure Rd (w:aw)(rb wb:Nat)(ws:List W)(i:Nat):Prop where
 lt:i<ws.length
 few:ws.length<=2001
 ne:rb≠wb
 row:∃cap,w.cell? (ai rb 0)=some (Ta wb ws.length cap)
 next:w.cell? (ai rb 1)=some (aa i)
 free:w.frozen? (ai rb 1)=false
 words:∀(k:Nat) (x:W),ws[k]?=some x->w.cell? (ai wb (k*3))=some (aa (dN x.1))/\w.cell? (ai wb (k*3+1))=some (ae x.1)/\w.cell? (ai wb (k*3+2))=some (aa x.2)
 ends:∀(k:Nat) (x:W),ws[k]?=some x->0<x.1.size->k+1<ws.length
 small:∀(k:Nat) (x:W),ws[k]?=some x->x.1.size<=2000/\x.2<=2000
theorem IM (e p:Int)(w:aw):
  Calls prog 68 #[aa e,aa p] w λe' w'=>e'= .panicked [{v:= .iface 142 (.agg #[aa e,aa p]),recovered:=false}]/\w'=w:=by
 go_in
 go_wp2;exact⟨rfl,rfl,rfl⟩
theorem Mi (w:aw)(rb wb:Nat)(ws:List W)(i:Nat)(x:W)(R:Rd w rb wb ws i)(d:ws[i]?=some x):
  Calls prog 118 #[ag rb] w λe w'=>e= .returned (.agg #[aa (dN x.1),ae x.1,aa x.2])/\aj w w':=by
 have⟨j,a⟩:=R.row;have b:=R.next;have k:=R.lt;have c:=R.few;have⟨f,g,h⟩:=R.words i x d;clear R d;have l:=λo=>(cI w o _ (aZ _ _ a)).J a
 have m:=λo=>(cI w o _ (aZ _ _ b)).J b
 have n:=λo=>(cI w o _ (aZ _ _ f)).J f
 have p:=λo=>(cI w o _ (aZ _ _ g)).J g
 have q:=λo=>(cI w o _ (aZ _ _ h)).J h
 go_in
 go_wp2;go_region
 go_wp2;exact dJ (v:= .agg #[aa (dN x.1),ae x.1,aa x.2]) (by simp[results,results118,go_sem]) rfl ⟨rfl,((Below.refl _ _).alloc (aD _) _).drew⟩
def BT (w:aw)(rb j:Nat):aw:=w.setCell (ai rb 1) (aa j)
def iX (n rb:Nat)(w w':aw)(j:Nat):Prop:=Below n (BT w rb j) w'
theorem wD (w:aw)(rb j:Nat):(BT w rb j).heap.size=w.heap.size:=by simp[BT,World.setCell]
def mj (off:Nat)(v:Value):Obj->Obj
 | .cells c e f=> .cells (c.setIfInBounds off v) e f
 |o=>o
theorem dM (w:aw)(b off:Nat)(v:Value)(k:Nat):(w.setCell (ai b off) v).heap[k]?=if b=k then(w.heap[k]?).map (mj off v)else w.heap[k]?:=by
 simp only[World.setCell,Array.getElem?_modify];split
 .cases w.heap[k]? with
  |none=>rfl
  |some o=>cases o<;>rfl
 .rfl
theorem As (off:Nat)(u v:Value)(o:Obj):mj off v (mj off u o)=mj off v o:=by
 cases o<;>simp[mj]
theorem Ci {b off:Nat}{v:Value}(h:w.cell? (ai b off)=some v):(w.heap[b]?).map (mj off v)=w.heap[b]?:=by
 unfold World.cell? at h
 cases ho:w.heap[b]? with
 |none=>rfl
 |some o=>
  simp only[ho]at h
  cases o with
  |cells c e f=>
   simp at h;simp only[Option.map_some,mj];congr 2;apply Array.ext;.simp
   .intro i d a;rw[Array.getElem_setIfInBounds];split;.subst_vars;rw[cr a]at h;exact(Option.some.inj h).sy
    .rfl
  |_=>rfl
theorem iX.oB (h:w.cell? (ai rb 1)=some (aa j))(a:Below n w w'):iX n rb w w' j:=by
 refine⟨a.os,a.tape,a.output,by rw[wD];exact a.size,λk b=> ?_⟩;rw[a.block k b,BT,dM];split;.subst_vars;exact(Ci h).sy
 .rfl
theorem iX.J {w1 w2:aw}{m i:Nat}(h:iX n rb w w1 i)(k:iX m rb w1 w2 j)(c:n<=m):iX n rb w w2 j:=by
 refine⟨k.os.J h.os,k.tape.J h.tape,k.output.J h.output,?_,λb a=> ?_⟩;.have d:=h.size;have e:=k.size;rw[wD]at*;omega
 .rw[k.block b Te,BT,dM,h.block b a,BT,BT,dM,dM];split;.simp only[Option.map_map];congr 1;funext o;exact As _ _ _ _
  .rfl
theorem iX.size (h:iX n rb w w' j):w.heap.size<=w'.heap.size:=by have:=Below.size h;rwa [wD]at this
theorem iX.cell (h:iX n rb w w' j){a:Addr}(c:a.block<n)(b:a.block≠rb):w'.cell? a=w.cell? a:=by
 refine bz ((Below.block h a.block c).J ?_);rw[BT,dM,dG (λe=>b e.sy)]
theorem iX.rd {wb i:Nat}(R:Rd w rb wb ws i)(h:iX n rb w w' j)(f:rb<n)(q:wb<n)(m:j<ws.length):Rd w' rb wb ws j:=by
 have⟨d,g⟩:=R.row;have c:∀b,w'.cell? (ai wb b)=w.cell? (ai wb b):=λb=>h.cell (a:=(ai wb b)) q (λe=>R.ne e.sy)
 refine⟨m,R.few,R.ne,⟨d,?_⟩,?_,?_,λk x l=> ?_,R.ends,R.small⟩;.rw[Below.cell h (p:=(ai rb 0)) f,BT,World.cell?_setCell_other _ _ _ _ Tf];exact g
 .rw[Below.cell h (p:=(ai rb 1)) f,BT];exact World.cell?_setCell_same _ _ _ R.next
 .rw[Below.frozen h (p:=(ai rb 1)) f,BT,World.frozen?_setCell];exact R.free
 .rw[c,c,c];exact R.words k x l
theorem Rd.blocks {wb i:Nat}(R:Rd w rb wb ws i):rb<w.heap.size/\wb<w.heap.size:=by
 refine⟨aZ _ _ R.next,?_⟩;obtain⟨x,a⟩:∃x,ws[i]?=some x:=⟨_,aP R.lt⟩;exact aZ _ _ (R.words i x a).1
end
section
variable (w:aw) {b n rb j:Nat} {w1 w':aw} {ws:List W} {row:Option Nat} {s:au}
theorem gW {w:aw}(h:b<w.heap.size):(∀o off,(w.alloc o).cell? (ai b off)=w.cell? (ai b off))/\(∀o off,(w.alloc o).frozen? (ai b off)=w.frozen? (ai b off))/\¬b=w.heap.size/\¬w.heap.size=b:=
 ⟨λo off=>cI w o (ai b off) h,λo off=>World.frozen?_of_block (Below.l w o b h),Te,Te⟩
theorem qv {w:aw}(a:Below n w w1)(h:b<n):(∀off,w1.cell? (ai b off)=w.cell? (ai b off))/\(∀off,w1.frozen? (ai b off)=w.frozen? (ai b off)):=
 ⟨λoff=>a.cell (p:=(ai b off)) h,λoff=>a.frozen (p:=(ai b off)) h⟩
theorem Rd.G {w:aw}{wb i:Nat}(R:Rd w rb wb ws i)(h:Below n w w')(a:rb<n)(b:wb<n):Rd w' rb wb ws i:=
 (iX.oB R.next h).rd R a b R.lt
theorem Rd.alloc {w:aw}{wb i:Nat}(R:Rd w rb wb ws i)(o:Obj):Rd (w.alloc o) rb wb ws i:=
 R.G ((Tb w).alloc (aD _) o) R.blocks.1 R.blocks.2
theorem iX.alloc {w:aw}(h:iX n rb w w' j)(a:n<=w.heap.size)(o:Obj):iX n rb w (w'.alloc o) j:=
 Below.alloc h (aL a h.size) o
theorem iX.setCell {w:aw}(h:iX n rb w w' j){a:Addr}(b:n<=a.block)(u:Value):iX n rb w (w'.setCell a u) j:=Below.setCell h b u
theorem iX.drew {w:aw}(h:iX n rb w w' j):iX n rb w w'.drew j:=Below.drew h
theorem iX.grown {w:aw}(h:iX n rb w w1 j)(a:w1.grownBy w' row)(b:n<=w.heap.size)(c:∀k,row=some k->n<=k):iX n rb w w' j:=
 Below.grown h a (aL b h.size) c
theorem iX.G {w:aw}{m:Nat}(h:iX n rb w w1 j)(b:Below m w1 w')(a:n<=m):iX n rb w w' j:=Below.J h (b.V a)
theorem iX.step {w:aw}{i:Nat}(h:iX n rb w w' i)(j:Nat):iX n rb w (w'.setCell (ai rb 1) (aa j)) j:=
 h.J (Below.refl n (BT w' rb j)) (aD _)
theorem QF (rb wb:Nat)(ws:List W)(i:Nat)(x:W)(R:Rd w rb wb ws i)(h:ws[i]?=some x)(n:0<x.1.size):
  Calls prog 337 #[ag rb] w λe w'=>e= .returned (.agg #[aa (dN x.1),ae x.1,aa x.2])/\Rd w' rb wb ws (i+1)/\iX w.heap.size rb w w' (i+1):=by
 have m:=R.lt;have g:=R.few;have⟨k,l⟩:=R.blocks;go_in
 go_wp2_with fail;refine(Mi _ rb wb ws i x (R.alloc _) h).V ?_;rintro e w1 ⟨rfl,c⟩;have o:w.heap.size<w1.heap.size:=by have:=c.size;simp at this;omega
 have f:=(R.alloc _).G c Tg Tg;have⟨t,u,y,z⟩:=gW (w:=w1) (b:=rb) Te;have⟨A,B,C,D⟩:=gW (w:=w1) (b:=w.heap.size) o;have⟨E,F⟩:=qv c (b:=w.heap.size) Tf;have p:=f.next;have q:=f.free;have r:¬rb=w.heap.size:=Te;have s:¬w.heap.size=rb:=Te;go_wp2_with fail;have j:iX w.heap.size rb w w1 i:=iX.oB R.next ((Tc w _).J (c.V Tf));have d:=(((((j.alloc (aD _) (ak #[Value.int IntKind.i64 (dN x.fst),Value.string x.fst,Value.int IntKind.i64 x.snd] 148)).step (i+1)).setCell (a:=(ai w.heap.size 0)) (aD _) (Value.int IntKind.i64 (dN x.fst))).setCell (a:=(ai w.heap.size 1)) (aD _) (Value.string x.fst)).setCell (a:=(ai w.heap.size 2)) (aD _) (Value.int IntKind.i64 x.snd));refine dJ (v:= .agg #[aa (dN x.1),ae x.1,aa x.2]) ?_ rfl ⟨rfl,?_,d⟩;.simp[results,results337,go_sem, *]
 .exact d.rd R k l (R.ends i x h n)
theorem jk (a b c:Value)(w:aw):(Instr.field 148 (.agg #[a,b,c]) 0).run prog w= .ok a w:=Tj
theorem jm (a b c:Value)(w:aw):(Instr.field 148 (.agg #[a,b,c]) 1).run prog w= .ok b w:=Tj
theorem jn (a b c:Value)(w:aw):(Instr.field 148 (.agg #[a,b,c]) 2).run prog w= .ok c w:=Tj
attribute [local go_sem] jk jm jn
def dX (e p:Int):Ending:= .panicked [{v:= .iface 142 (.agg #[aa e,aa p]),recovered:=false}]
theorem RZ (rb wb:Nat)(ws:List W)(i:Nat)(x:W)(R:Rd w rb wb ws i)(b:ws[i]?=some x):
  Calls prog 336 #[ag rb] w λe w'=>e=dX 2 x.2/\aj w w':=by
 go_in
 go_wp2_with fail;refine(Mi _ rb wb ws i x R b).V ?_;rintro e w1 ⟨rfl,a⟩;go_wp2_with fail;refine(IM _ _ _).V ?_;rintro e w2 ⟨rfl,rfl⟩;go_wp2;exact⟨rfl,rfl,a⟩
theorem Mp (rb wb:Nat)(ws:List W)(i:Nat)(x:W)(s:au)(R:Rd w rb wb ws i)(b:ws[i]?=some x):
  Calls prog 175 #[ag rb,ae s] w λe w'=>e= .returned (.bool (x.1.toList==s.toList))/\aj w w':=by
 go_in
 go_wp2_with fail;refine(Mi _ rb wb ws i x R b).V ?_;rintro e w1 ⟨rfl,a⟩;go_wp2;go_ret;exact⟨rfl,a⟩
theorem sy (h:dN s≠4):0<s.size:=by
 unfold dN at h;by_cases h0:s.size=0;.rw[dH h0]at h;exact absurd rfl h
 .omega
theorem sA {l:an}(h:(s.toList==l)=true)(c:0<l.length):0<s.size:=by
 have a:s.toList=l:=by simpa using h
 have b:s.toList.length=s.size:=by rw[ByteArray.toList_eq];rfl
 rw[a]at b;omega
theorem OR (rb wb:Nat)(ws:List W)(i:Nat)(x:W)(s:au)(R:Rd w rb wb ws i)(c:ws[i]?=some x)(j:(x.1.toList==s.toList)=true)(h:0<x.1.size):
  Calls prog 256 #[ag rb,ae s] w λe w'=>e= .returned (.tuple #[])/\Rd w' rb wb ws (i+1)/\iX w.heap.size rb w w' (i+1):=by
 go_in
 go_wp2_with fail;refine(Mp _ rb wb ws i x s R c).V ?_;rintro e w1 ⟨rfl,b⟩;have f:=R.G b R.blocks.1 R.blocks.2;have a:=iX.oB R.next b;go_wp2_with fail;refine(QF _ rb wb ws i x f c h).V ?_;rintro e w2 ⟨rfl,g,d⟩;go_wp2;go_end0;exact⟨rfl,g,a.J d a.size⟩
theorem OS (rb wb:Nat)(ws:List W)(i:Nat)(x:W)(s:au)(R:Rd w rb wb ws i)(b:ws[i]?=some x)(g:(x.1.toList==s.toList)=false):
  Calls prog 256 #[ag rb,ae s] w λe w'=>e=dX 2 x.2/\iX w.heap.size rb w w' i:=by
 go_in
 go_wp2_with fail;refine(Mp _ rb wb ws i x s R b).V ?_;rintro e w1 ⟨rfl,a⟩;have d:=R.G a R.blocks.1 R.blocks.2;have c:=iX.oB R.next a;go_wp2_with fail;refine(RZ _ rb wb ws i x d b).V ?_;rintro e w2 ⟨rfl,f⟩;unfold dX;go_wp2;exact⟨rfl,rfl,c.G f a.size⟩
theorem OT (rb wb:Nat)(ws:List W)(i:Nat)(x:W)(k:Int)(R:Rd w rb wb ws i)(g:ws[i]?=some x)(t:(dN x.1 !=k)=false)(j:0<x.1.size):
  Calls prog 257 #[ag rb,aa k] w λe w'=>e= .returned (.agg #[aa (dN x.1),ae x.1,aa x.2])/\Rd w' rb wb ws (i+1)/\iX w.heap.size rb w w' (i+1):=by
 have o:=(Tb w).alloc (aD _) (ak #[Value.int IntKind.i64 0,Value.string {data:= #[]},Value.int IntKind.i64 0] 148);go_in
 go_wp2_with fail;refine(Mi _ rb wb ws i x (R.alloc _) g).V ?_;rintro e w1 ⟨rfl,d⟩;have q:=(R.alloc _).G d (R.alloc _).blocks.1 (R.alloc _).blocks.2;have m:=iX.oB R.next (o.J (d.V Tf));have l:w.heap.size<w1.heap.size:=by have:=d.size;simp at this;omega
 go_wp2_with fail;refine(QF _ rb wb ws i x q g j).V ?_;rintro e w2 ⟨rfl,s,f⟩;have n:=m.J f Te;have r:¬w.heap.size=rb:=by have:=R.blocks;omega
 have⟨u,y⟩:=qv d (b:=w.heap.size) Tf;have u1:∀c,w2.cell? (ai w.heap.size c)=w1.cell? (ai w.heap.size c):=λc=>f.cell (a:=(ai w.heap.size c)) l r
 have u2:∀c,w2.frozen? (ai w.heap.size c)=w1.frozen? (ai w.heap.size c):=λc=>(Below.frozen f (p:=(ai w.heap.size c)) l).J (World.frozen?_setCell _ _ _ _)
 go_wp2;have h:=((n.setCell (a:=(ai w.heap.size 0)) (aD _) (Value.int IntKind.i64 (dN x.fst))).setCell (a:=(ai w.heap.size 1)) (aD _) (Value.string x.fst)).setCell (a:=(ai w.heap.size 2)) (aD _) (Value.int IntKind.i64 x.snd);refine dJ (v:= .agg #[aa (dN x.1),ae x.1,aa x.2]) ?_ rfl ⟨rfl,?_,h⟩;.simp[results,results257,go_sem, *]
 .exact h.rd R R.blocks.1 R.blocks.2 (R.ends i x g j)
theorem OU (rb wb:Nat)(ws:List W)(i:Nat)(x:W)(k:Int)(R:Rd w rb wb ws i)(b:ws[i]?=some x)(h:(dN x.1 !=k)=true):
  Calls prog 257 #[ag rb,aa k] w λe w'=>e=dX 2 x.2/\iX w.heap.size rb w w' i:=by
 have d:=(Tb w).alloc (aD _) (ak #[Value.int IntKind.i64 0,Value.string {data:= #[]},Value.int IntKind.i64 0] 148);go_in
 go_wp2_with fail;refine(Mi _ rb wb ws i x (R.alloc _) b).V ?_;rintro e w1 ⟨rfl,a⟩;have f:=(R.alloc _).G a (R.alloc _).blocks.1 (R.alloc _).blocks.2;have c:=iX.oB R.next (d.J (a.V Tf));have j:w.heap.size<w1.heap.size:=by have:=a.size;simp at this;omega
 go_wp2_with fail;refine(RZ _ rb wb ws i x f b).V ?_;rintro e w2 ⟨rfl,g⟩;unfold dX;go_wp2;exact⟨rfl,rfl,c.G g Te⟩
end
section
variable {α:Type} {k i:Nat} (ws:List W) {stop:Nat->Bool}
structure ek where
 form:Int
 key:Option W
 type:W
 name:W
 num:W
structure ft where
 oneof:Option W
 fields:List ek
structure dS where
 enum:Bool
 name:W
 parts:List ft
 values:List (W×W)
abbrev mX (α:Type):=Except Nat (α×Nat)
def gS {α β:Type}(r:mX α)(f:α->Nat->mX β):mX β:=
 match r with
 | .error p=> .error p
 | .ok (a,j)=>f a j
def jK (ws:List W)(k:Int)(i:Nat):mX W:=
 match ws[i]? with
 |some x=>if dN x.1==k then .ok (x,i+1)else .error x.2
 |none=> .error 0
def fU (ws:List W)(s:an)(i:Nat):mX Unit:=
 match ws[i]? with
 |some x=>if x.1.toList==s then .ok ((),i+1)else .error x.2
 |none=> .error 0
def lN (ws:List W)(i:Nat):mX W:=
 match ws[i]? with
 |some x=>if dN x.1==3||dN x.1==1 then .ok (x,i+1)else .error x.2
 |none=> .error 0
def jx (ws:List W)(i:Nat):mX (W×W):=
 gS (jK ws 1 i) λn i=>gS (fU ws [61] i) λ_ i=>gS (jK ws 2 i) λm i=>gS (fU ws [59] i) λ_ i=> .ok ((n,m),i)
def fF (ws:List W)(form:Int)(i:Nat):mX ek:=
 gS (lN ws i) λt i=>gS (jx ws i) λnm i=> .ok (⟨form,none,t,nm.1,nm.2⟩,i)
def lS (ws:List W)(i:Nat):mX ek:=
 gS (fU ws [109,97,112] i) λ_ i=>gS (fU ws [60] i) λ_ i=>gS (lN ws i) λk i=>gS (fU ws [44] i) λ_ i=>
 gS (lN ws i) λt i=>gS (fU ws [62] i) λ_ i=>gS (jx ws i) λnm i=> .ok (⟨4,some k,t,nm.1,nm.2⟩,i)
def fC {α:Type}(stop:Nat->Bool)(p:Nat->mX α):Nat->Nat->mX (List α)
 |0,i=> .ok ([],i)
 |n+1,i=>if stop i then .ok ([],i)else gS (p i) λa j=>gS (fC stop p n j) λl k=> .ok (a::l,k)
def m9 {α:Type}(pre:List α)(r:mX (List α)):mX (List α):=gS r λl k=> .ok (pre++l,k)
def fO (ws:List W)(s:an)(i:Nat):Bool:=
 match ws[i]? with
 |some x=>x.1.toList==s
 |none=>true
def mm (ws:List W)(i:Nat):Bool:=
 match ws[i]? with
 |some x=>dN x.1==4
 |none=>true
def ie (ws:List W)(i:Nat):mX ft:=
 gS (fU ws [111,110,101,111,102] i) λ_ i=>gS (jK ws 1 i) λo i=>gS (fU ws [123] i) λ_ i=>gS (fF ws 3 i) λf i=>
 gS (m9 [f] (fC (fO ws [125]) (fF ws 3) ws.length i)) λl i=>gS (fU ws [125] i) λ_ i=> .ok (⟨some o,l⟩,i)
def kN (r:mX ek):mX ft:=gS r λf i=> .ok (⟨none,[f]⟩,i)
def jg (ws:List W)(i:Nat):mX ft:=
 if fO ws [111,110,101,111,102] i then ie ws i
 else if fO ws [109,97,112] i then kN (lS ws i)
 else if fO ws [114,101,112,101,97,116,101,100] i then kN (fF ws 2 (i+1))
 else if fO ws [111,112,116,105,111,110,97,108] i then kN (fF ws 1 (i+1))
 else kN (fF ws 0 i)
def gz (ws:List W)(i:Nat):mX dS:=
 gS (fU ws [109,101,115,115,97,103,101] i) λ_ i=>gS (jK ws 1 i) λn i=>gS (fU ws [123] i) λ_ i=>
 gS (fC (fO ws [125]) (jg ws) ws.length i) λl i=>gS (fU ws [125] i) λ_ i=> .ok (⟨false,n,l,[]⟩,i)
def j9 (ws:List W)(i:Nat):mX dS:=
 gS (fU ws [101,110,117,109] i) λ_ i=>gS (jK ws 1 i) λn i=>gS (fU ws [123] i) λ_ i=>
 gS (fC (fO ws [125]) (jx ws) ws.length i) λl i=>gS (fU ws [125] i) λ_ i=> .ok (⟨true,n,[],l⟩,i)
def ir (ws:List W)(i:Nat):mX dS:=if fO ws [101,110,117,109] i then j9 ws i else gz ws i
def nY (ws:List W):mX (List dS):=fC (mm ws) (ir ws) ws.length 0
def On {α:Type}(i:Nat)(r:mX α):Prop:=∀a j,r= .ok (a,j)->i<j
theorem dQ {β:Type}{r:mX α}{f:α->Nat->mX β}{b:β}(h:gS r f= .ok (b,k)):∃a j,r= .ok (a,j)/\f a j= .ok (b,k):=by
 cases r with
 |error p=>simp[gS]at h
 |ok x=>exact⟨x.1,x.2,rfl,h⟩
theorem gJ (k:Int)(i:Nat):∀a j,jK ws k i= .ok (a,j)->j=i+1/\ws[i]?=some a/\dN a.1=k:=by
 intro a j h;unfold jK at h;split at h
 .split at h;.simp at h;obtain⟨rfl,rfl⟩:=h;refine⟨rfl,To,by simp_all⟩
  .simp at h
 .simp at h
theorem eA (s:an)(i:Nat):∀a j,fU ws s i= .ok (a,j)->j=i+1/\∃x,ws[i]?=some x/\x.1.toList=s:=by
 intro a j h;unfold fU at h;split at h
 .split at h;.simp at h;subst h;exact⟨rfl,_,To,by simp_all⟩
  .simp at h
 .simp at h
theorem ke (i:Nat):∀a j,lN ws i= .ok (a,j)->j=i+1/\ws[i]?=some a/\(dN a.1=3\/dN a.1=1):=by
 intro a j h;unfold lN at h;split at h
 .split at h;.simp at h;obtain⟨rfl,rfl⟩:=h;refine⟨rfl,To,by simp_all⟩
  .simp at h
 .simp at h
theorem sB (i:Nat):On i (jx ws i):=by
 intro a j h;unfold jx at h;have⟨_,f,b,h⟩:=dQ h;have⟨_,g,c,h⟩:=dQ h;have⟨_,k,d,h⟩:=dQ h;have⟨_,l,e,h⟩:=dQ h;have:=(gJ _ _ _ _ _ b).1;have:=(eA _ _ _ _ _ c).1;have:=(gJ _ _ _ _ _ d).1;have:=(eA _ _ _ _ _ e).1;simp at h;omega
theorem jy (form:Int)(i:Nat):On i (fF ws form i):=by
 intro a j h;unfold fF at h;have⟨_,d,b,h⟩:=dQ h;have⟨_,e,c,h⟩:=dQ h;have:=(ke _ _ _ _ b).1;have:=sB _ _ _ _ c;simp at h;omega
theorem Mq (i:Nat):On i (lS ws i):=by
 intro a j h;unfold lS at h;have⟨_,l,b,h⟩:=dQ h;have⟨_,m,c,h⟩:=dQ h;have⟨_,n,d,h⟩:=dQ h;have⟨_,o,e,h⟩:=dQ h;have⟨_,p,f,h⟩:=dQ h;have⟨_,q,g,h⟩:=dQ h;have⟨_,r,k,h⟩:=dQ h;have:=(eA _ _ _ _ _ b).1;have:=(eA _ _ _ _ _ c).1;have:=(ke _ _ _ _ d).1;have:=(eA _ _ _ _ _ e).1;have:=(ke _ _ _ _ f).1;have:=(eA _ _ _ _ _ g).1;have:=sB _ _ _ _ k;simp at h;omega
theorem sC (stop:Nat->Bool)(p:Nat->mX α)(b:∀i,On i (p i)):∀n i a j,fC stop p n i= .ok (a,j)->i<=j
 |0,i,a,j,h=>by simp[fC]at h;omega
 |n+1,i,a,j,h=>by
  unfold fC at h;split at h;.simp at h;omega
  .have⟨_,e,c,h⟩:=dQ h;have⟨_,f,d,h⟩:=dQ h;have:=b _ _ _ c;have:=sC stop p b _ _ _ _ d;simp at h;omega
theorem G4 (i:Nat):On i (ie ws i):=by
 intro a j h;unfold ie at h;have⟨_,m,b,h⟩:=dQ h;have⟨_,n,c,h⟩:=dQ h;have⟨_,o,d,h⟩:=dQ h;have⟨_,p,e,h⟩:=dQ h;have⟨_,q,f,h⟩:=dQ h;have⟨_,r,g,h⟩:=dQ h;have⟨_,s,k,l⟩:=dQ f;have:=(eA _ _ _ _ _ b).1;have:=(gJ _ _ _ _ _ c).1;have:=(eA _ _ _ _ _ d).1;have:=jy _ _ _ _ _ e;have:=sC _ _ (jy ws 3) _ _ _ _ k;have:=(eA _ _ _ _ _ g).1;simp at h l;omega
theorem qw {r:mX ek}(c:On i r):On i (kN r):=by
 intro a j h;have⟨_,d,b,h⟩:=dQ h;have:=c _ _ b;simp at h;omega
theorem On.V {r:mX α}(h:On k r)(b:i<=k):On i r:=λa j e=>Nat.lt_of_le_of_lt b (h a j e)
theorem wE (i:Nat):On i (jg ws i):=by
 unfold jg;split;.exact G4 ws i
 .split;.exact qw (Mq ws i)
  .split;.exact qw ((jy ws 2 (i+1)).V Te)
   .split;.exact qw ((jy ws 1 (i+1)).V Te)
    .exact qw (jy ws 0 i)
theorem oN {p:Nat->mX α}{n:Nat}(h:stop i=true):fC stop p n i= .ok ([],i):=by
 cases n with
 |zero=>rfl
 |succ n=>simp[fC,h]
theorem qx {p:Nat->mX α}{n q:Nat}(h:stop i=false)(b:0<n)(a:p i= .error q):fC stop p n i= .error q:=by
 cases n with
 |zero=>omega
 |succ n=>simp[fC,h,a,gS]
theorem sD {p:Nat->mX α}{n j:Nat}{a:α}(pre:List α)(h:stop i=false)(c:0<n)(b:p i= .ok (a,j)):
  m9 pre (fC stop p n i)=m9 (pre++ [a]) (fC stop p (n-1) j):=by
 cases n with
 |zero=>omega
 |succ n=>
  simp only[fC,h,b,gS,Nat.add_sub_cancel];cases fC stop p n j<;>simp[m9,gS]
end
end Go.Proofs.YtfebdimolnobaaaGreatDoor
namespace Go.Proofs
open Go.Shelf
def Tryz.laysPu14_ren:Go.Shelf.Ren:=⟨fun|14=>244|16=>329|17=>330|19=>394|20=>395|21=>396|22=>397|23=>398|24=>399|25=>164|27=>425|26=>424|28=>439|29=>445|30=>448|31=>449|32=>450|33=>451|35=>255|34=>452|36=>453|37=>454|38=>455|39=>456|40=>457|n=>n,fun|9=>9|3=>3|22=>53|24=>354|25=>362|4=>4|34=>463|5=>5|36=>295|37=>140|0=>0|39=>465|21=>21|44=>482|47=>357|50=>493|48=>491|2=>2|52=>500|55=>502|59=>505|60=>164|20=>20|61=>506|65=>507|66=>508|67=>70|n=>n,fun|0=>4|1=>5|2=>6|3=>7|4=>8|n=>n⟩
theorem Tryz.laysPu14:Go.Proofs.LaysPu.n14 Tryz.prog Tryz.laysPu14_ren:=by constructor<;>first|kernel_rfl|(intro w;kernel_rfl)
def Tryz.laysPu25_ren:Go.Shelf.Ren:=⟨fun|25=>164|n=>n,fun|9=>9|3=>3|4=>4|37=>140|0=>0|47=>357|5=>5|n=>n,fun|n=>n⟩
theorem Tryz.laysPu25:Go.Proofs.LaysPu.n25 Tryz.prog Tryz.laysPu25_ren:=by constructor<;>first|kernel_rfl|(intro w;kernel_rfl)
end Go.Proofs
namespace Go.Proofs.YtfebdimolnobaaaGreatDoor
open Go.RowKit Go.Proofs.Tryz
end Go.Proofs.YtfebdimolnobaaaGreatDoor
namespace Go.Proofs
open Go.Shelf
def Tryz.laysVs_ren:Go.Shelf.Ren:=⟨fun|196=>325|259=>393|n=>n,fun|9=>9|4=>4|3=>3|5=>5|12=>12|119=>459|0=>0|46=>295|139=>462|138=>461|53=>53|n=>n,fun|3=>2|4=>3|n=>n⟩
theorem Tryz.laysVs:Go.Proofs.Lays.n196 Tryz.prog Tryz.laysVs_ren:=by constructor<;>first|kernel_rfl|(intro w;kernel_rfl)
end Go.Proofs
namespace Go.Proofs.YtfebdimolnobaaaGreatDoor
open Go.RowKit Go.Proofs.Tryz
section
variable {P:Program} {ops:Array Oper} {Q:Exit->Act->aw->Prop}
def uk (l:List Bool)(i:Nat)(h:l[i]?=some false):(l.set i true).count false+1=l.count false:=by
 induction l generalizing i with
 |nil=>cases h
 |cons x xs ih=>
  cases i with
  |zero=>simp only[cO,Option.some.injEq]at h;subst h;simp
  |succ i=>
   simp only[cg]at h;have q:=ih i h;simp only[aG,List.count_cons];omega
def qO {L:Array Bool}{i:Nat}(h:L.getD i true=false):L.toList[i]?=some false:=by
 rw[bT];rw[Array.getD_eq_getD_getElem?]at h
 cases hq:L[i]? with
 |none=>rw[hq]at h;cases h
 |some x=>rw[hq]at h;exact dK some h
def Gv (P:Program)(ops:Array Oper)(Q:Exit->Act->aw->Prop)(J:Array Bool->Act->aw->Prop)(i:Nat)(o:Oper):Prop:=
 ∀L a w,J L a w->L.getD i true=false->(o.after.all λe=> !Region.binds .any e||L.getD e.on false)=true->
  ∀K:Act->aw->Prop,Shut (∀a' w',J (L.setIfInBounds i true) a' w'->K a' w')->
   if Region.wanted o (yielded ops a.tmps)=true then Oper.wp P o a w K Q else K (a.put o.dst undef) w
def eH {af:Array Edge}{L:Array Bool}{k:Nat}(a:(af.all λe=> !Region.binds .any e||L.getD e.on false)=true)(c:(af.any λe=>Region.binds .any e&&e.on==k)=true):L.getD k false=true:=by
 have⟨i,b,h⟩:=Array.any_eq_true.1 c;rw[bK]at h;have q:=Array.all_eq_true.1 a i b;rw[h.1,du,cC,beq_iff_eq.1 h.2]at q;exact q
def mP (P:Program)(ops:Array Oper)(Q:Exit->Act->aw->Prop)(J:Array Bool->Act->aw->Prop)(k:Nat)(l:List Oper):Prop:=∀j o,l[j]?=some o->Gv P ops Q J (k+j) o
def mP.nil {J:Array Bool->Act->aw->Prop}{k:Nat}:mP P ops Q J k []:=λj o h=>by cases h
def mP.cons {J:Array Bool->Act->aw->Prop}{k:Nat}{o:Oper}{l:List Oper}(h:Gv P ops Q J k o)(b:mP P ops Q J (k+1) l):mP P ops Q J k (o::l):=λj x a=>by
 cases j with
 |zero=>simp only[cO,Option.some.injEq]at a;subst a;exact h
 |succ j=>simp only[cg]at a;have q:=b j x a;rwa [Nat.add_right_comm,Nat.add_assoc]at q
def Lr (ops:Array Oper):Bool:=(List.range ops.size).all λi=>((ops[i]?).map λo=>o.after.all λe=> !Region.binds .any e||decide (e.on<i)).getD true
def In (hb:Lr ops=true){L:Array Bool}(h:Region.ready .any ops L= [])(n:Nat):∀i,i<n->i<ops.size->L.getD i true=true:=by
 induction n with
 |zero=>intro i k;omega
 |succ n ih=>
  intro i k a;by_cases hn:i<n;.exact ih i hn a
  have e:i=n:=Te;subst e
  cases hg:L.getD i true with
  |true=>rfl
  |false=>
   have b:i∈Region.ready .any ops L:=(by refine mem_ready.2 ⟨hg,_,cr a,λe j g=> ?_⟩;have q:=List.all_eq_true.1 hb i (List.mem_range.2 a);rw[cr a]at q;have c:=Array.all_eq_true_iff_forall_mem.1 q e j;rw[g,du,cC]at c;have l:=dI c;have d:=ih e.on l Te;have m:e.on<L.size:=(by have f:=qO hg;rw[bT]at f;have⟨o,_⟩:=bJ.1 f;omega);rw[Array.getD_eq_getD_getElem?,cr m]at d⊢;exact d);rw[h]at b;cases b
def Io {L:Array Bool}(h:L.toList.count false=0)(i:Nat):L.getD i true=true:=by
 cases hg:L.getD i true with
 |true=>rfl
 |false=>
  have q:=uk _ _ (qO hg);omega
def Ip {J:Array Bool->Act->aw->Prop}(hb:Lr ops=true)(t:mP P ops Q J 0 ops.toList)(h:∀L a w,J L a w->(∀i,i<ops.size->L.getD i true=true)->Q .normal a w):
  ∀(fuel:Nat) (L:Array Bool) (a:Act) (w:aw),L.toList.count false<=fuel->J L a w->wpAny P .any ops Q fuel L a w:=by
 intro fuel
 induction fuel with
 |zero=>
  intro L a w r d;refine⟨List.eq_nil_iff_forall_not_mem.2 λi b=> ?_,h _ _ _ d λi _=>Io Te i⟩;have q:=uk _ _ (qO (mem_ready.1 b).1)
  omega
 |succ n ih=>
  intro L a w r d;refine⟨λc=>h _ _ _ d λi b=>In hb c (i+1) i (Nat.lt_succ_self i) b,λi b=> ?_⟩;have⟨c,o,j,l⟩:=mem_ready.1 b;have q:=uk _ _ (qO c);have f:=t i o (by rw[bT];exact j);rw[dg]at f;refine wpOp_step j λk p=>f L a w d c ?_ k λg w' m=>p g w' (ih _ g w' ?_ m)
  .rw[Array.all_eq_true_iff_forall_mem];intro e s
   cases hb:Region.binds .any e with
   |false=>rfl
   |true=>simpa using l e s hb
  .rw[Array.toList_setIfInBounds];omega
def li {id:Nat}{a:Act}{w:aw}(J:Array Bool->Act->aw->Prop)(hm:P.follows .mixedOrders=true)(b:J (Array.replicate ops.size false) a w.drew)
  (hb:Lr ops=true) (c:∀L a w,J L a w->(∀i,i<ops.size->L.getD i true=true)->Q .normal a w) (d:mP P ops Q J 0 ops.toList):(Code.region id ops true).wp P Q a w:=
 wp_region_any hm (Ip hb d c _ _ _ _ Tf b)
end
end Go.Proofs.YtfebdimolnobaaaGreatDoor
namespace Go.Proofs
open Go.Shelf
def Tryz.laysLn_ren:Go.Shelf.Ren:=⟨fun|129=>255|n=>n,fun|53=>53|3=>3|4=>4|46=>295|5=>5|9=>9|n=>n,fun|n=>n⟩
theorem Tryz.laysLn:Go.Proofs.Lays.n129 Tryz.prog Tryz.laysLn_ren:=by constructor<;>first|kernel_rfl|(intro w;kernel_rfl)
end Go.Proofs
namespace Go.Proofs.YtfebdimolnobaaaGreatDoor
open Go.RowKit Go.Proofs.Tryz
end Go.Proofs.YtfebdimolnobaaaGreatDoor
