import Derived.Test.YtfebdimolnobaaaGreatDoorProg
import Derived.Below
import Derived.Deep.AppendLies
import Derived.OwnWalk
import Derived.Deep.DrawnRows
import Derived.WalkKit
import Derived.WalkSpells
import Derived.WalkLawsBesides
import Derived.Maps.AppendAt
import Derived.Deep.RegionHeld3
import Derived.Deep.RegionLaw
import Derived.Deep.CutRange
import Derived.Deep.Light
set_option maxRecDepth 100000
set_option maxHeartbeats 8000000
set_option linter.all false
namespace Go.Proofs.YtfebdimolnobaaaGreatDoor
open Go.RowKit Go.Proofs.Tryz
section
set_option linter.defProp false
section
abbrev aa (n:Int):Value:=.int .i64 n
abbrev ae (s:ByteArray):Value:=.string s
abbrev ai (b o:Nat):Addr:=⟨b,o,none⟩
abbrev ag (b:Nat):Value:=.pointer (some ⟨b,0,none⟩)
abbrev ah:Value:=.slice none 0 0
abbrev aj (w w':World):Prop:=Below w.heap.size w w'
abbrev ak (c:Array Value) (t:TypeId):Obj:=.cells c t
abbrev am:=ByteArray
abbrev an:=World
abbrev ap:=Nat → Prop
abbrev aq:=List Value
abbrev ar:=List ByteArray
abbrev au:=List Nat
abbrev aw:=Option Addr
def ax:=@List.setIfInBounds_toArray
def ay:=@Nat.le_refl
def aA:=@List.set_cons_zero
def aB:=@List.set_cons_succ
def aC:=@List.getElem_cons_zero
def aD:=@Nat.lt_of_lt_of_le
def aE:=@List.getElem_toArray
def aF:=@List.getElem_cons_succ
def aG:=@Nat.le_trans
def aH:=@List.length_append
def aI:=@List.mem_of_getElem?
def aJ:=@Bool.and_eq_true
def aK:=@List.getElem?_eq_getElem
def aL:=@Nat.zero_le
def aM:=@Bool.false_eq_true
def aN:=@List.mem_cons
def aO:=@List.getElem?_map
def aP:=@List.mem_map
def aQ:=@World.block_lt_of_cell?
def aR:=@List.mem_append
def aS:=@List.nil_append
def aT:=@List.mem_cons_of_mem
def aU:=@ByteArray.size_extract
def aV:=@List.mem_cons_self
def aW:=@Option.map_eq_some_iff
def aX:=@List.drop_eq_getElem_cons
def aY:=@List.getElem?_eq_none
def aZ:=@List.append_assoc
def ba:=@List.contains_cons
def be:=@List.length_cons
def bf:=@List.cons_append
def bg:=@List.pairwise_cons
def bi:=@List.flatMap_cons
def bj:=@ByteArray.size_append
def bm:=@World.ownsRow_nil
def bn:=@List.mem_singleton
def bo:=@List.take_length
def br:=@World.news_of_block
def bt:=@Int.eq_ofNat_of_zero_le
def bu:=@World.cell?_of_block
def bw:=@List.mem_filter
def bz:=@Array.getElem?_toList
def bA:=@Array.getElem?_eq_some_iff
def bB:=@List.map_map
def bC:=@List.eq_nil_of_length_eq_zero
def bE:=@List.length_map
def bF:=@Array.getElem?_eq_getElem
def bG:=@List.length_take
def bH:=@List.not_mem_nil
def bI:=@List.map_append
def bJ:=@List.take_add_one
def bK:=@List.mem_iff_getElem?
def bM:=@List.pairwise_iff_getElem
def bN:=@List.append_nil
def bO:=@List.map_cons
def bS:=@List.all_eq_true
def bT:=@Nat.le_succ
def bU:=@List.pairwise_append
def bV:=@List.length_filter_le
def bW:=@List.getD_eq_getElem?_getD
def bX:=@List.getElem?_eq_some_iff
def bY:=@List.take_of_length_le
def bZ:=@Option.isSome_iff_exists
def ca:=@List.take_append_drop
def cg:=@List.getElem?_append_right
def ch:=@Bool.eq_false_iff
def ci:=@Bool.or_eq_true
def cj:=@World.size_alloc
def ck:=@Nat.le_of_lt
def cl:=@List.drop_of_length_le
def cm:=@List.pairwise_map
def cn:=@Bool.not_eq_true'
def co:=@Bool.eq_iff_iff
def cp:=@List.getElem?_append_left
def cq:=@Bool.or_true
def cr:=@List.getElem?_take_of_lt
def cu:=@List.filter_cons
def cw:=@List.drop_length
def cy:=@World.size_setCell
def cz:=@Bool.true_and
def cA:=@Bool.false_and
def cB:=@Bool.and_false
def cC:=@List.getElem?_cons_succ
def cD:=@List.getElem?_cons_zero
def cE:=@Array.getElem?_eq_none
def cF:=@Bool.or_false
def cG:=@List.getElem?_toArray
def cH:=@World.cell?_alloc_lt
def cI:=@ByteArray.data_extract
def cJ:=@Bool.true_or
def cK:=@List.filter_append
def cL:=@Bool.not_true
def cM:=@ByteArray.ext
def cN:=@Nat.add_assoc
def cO:=@List.drop_eq_nil_iff
def cS:=@Bool.not_false
def cT:=@Array.toList_inj
def cU:=@Prod.ext
def cV:=@List.flatMap_append
def cW:=@List.length_nil
def cX:=@Nat.shiftLeft_add_eq_or_of_lt
def cY:=@List.take_append_of_le_length
def cZ:=@Option.mem_toList
def da:=@List.getElem?_of_mem
def dd:=@Bool.or_eq_false_iff
def de:=@Nat.pow_le_pow_right
def df:=@Nat.shiftLeft_eq
def dg:=@Array.replicate_succ
def dh:=@Array.replicate_zero
def dj:=@Bool.false_or
def dl:=@Bool.and_true
def dm:=@Int.le_refl
def dq:=@List.filter_sublist
def dt:=@Array.length_toList
def du:=@List.filter_eq_self
def dv:=@List.append_toArray
def dw:=@Int.natCast_add
def dx:=@Array.extract_size
def dy:=@List.any_eq_false
def dz:=@List.nodup_append
def dA:=@List.getElem?_set
def dB:=@List.size_toArray
def dC:=@List.push_toArray
def dD:=@if_neg
def dE:=@if_pos
def dF:=@decide_eq_true_eq
def dG:=@bodyPost_ret
def dH:=@congrArg
abbrev T9:Value:=.string ⟨#[]⟩
abbrev Ua:=Calls Tryz.prog
abbrev Ub(g n c:Nat):Value:=.slice (some ⟨g,0,none⟩) n c
theorem Uc(w:World):Below w.heap.size w w:=Below.refl _ w
theorem Ud(w:World)(o:Obj):Below w.heap.size w (w.alloc o):=(Below.refl _ w).alloc (Nat.le_refl _) o
theorem Ue{P:Prop}(h:P:=by omega):P:=h
theorem Uf{P:Prop}(h:P:=by simp):P:=h
theorem Ug{P:Prop}(h:P:=by simp;omega):P:=h
theorem Uh{P:Prop}(h:P:=by decide):P:=h
theorem Ui{P:Prop}(h:P:=by decide+kernel):P:=h
theorem Uj{P:Prop}(h:P:=by kernel_rfl):P:=h
theorem Uk{P:Prop}(h:P:=by rfl):P:=h
theorem Ul{P:Prop}(h:P:=by unfold maxLen;omega):P:=h
theorem Um{P:Prop}(h:P:=by simp[Value.oneCell']):P:=h
theorem Un{P:Prop}(h:P:=by first|omega|(simp<;>omega)):P:=h
theorem Uo{P:Prop}(h:P:=by assumption):P:=h
theorem Up{P:Prop}(h:P:=by go_simp):P:=h
theorem T8:(∀{α:Type} (l:List α) (i:Nat) (a:α),l.toArray.setIfInBounds i a=(l.set i a).toArray)∧(∀{α:Type} (x a:α) (l:List α),(x::l).set 0 a=a::l)∧(∀{α:Type} (x a:α) (l:List α) (i:Nat),(x::l).set (i+1) a=x::l.set i a)∧(∀{α:Type} (l:List α) (i:Nat) (h:i<l.toArray.size),l.toArray[i]=l[i]'(by simpa using h))∧(∀{α:Type} (x:α) (l:List α) (h:0<(x::l).length),(x::l)[0]=x)∧∀{α:Type} (x:α) (l:List α) (i:Nat) (h:i+1<(x::l).length),(x::l)[i+1]=l[i]'(by simpa using h):=⟨by simp,by simp,by simp,by simp,by simp,by simp⟩
namespace Uq
attribute [scoped go_sem↓] Go.wp_at_zero Go.wp_at_succ
end Uq
end
end
def vD (fn:Fn)(first cap:Array Value)(w:an):(Instr.makeFunc fn first cap).run prog w= .ok (.func fn first cap) w:=rfl
def gl {α:Type}{l:List α}{i:Nat}{x:α}(h:l[i]?=some x):i<l.length:=(bX.1 h).1
def gx {α:Type}{l:List α}{i:Nat}(h:i<l.length):∃x,l[i]?=some x:=⟨_,aK h⟩
def uY (c:Int):Bool:=(decide (97<=c)&&decide (c<=122))||(decide (65<=c)&&decide (c<=90))||c==95
def lD (c:Int):Bool:=decide (48<=c)&&decide (c<=57)
def Cu (c:Int):Bool:=c==32||c==10
def ix {a b:Bool}(h:a=true<->b=true):Ending.returned (.bool a)= .returned (.bool b):=by
 rw[co.2 h]
def IG (c:Int)(w:an):
  Calls prog 171 #[.int .u8 c] w λe w'=>e= .returned (.bool (uY c))/\w'=w:=by
 go_in
 go_wp2
 all_goals
  go_ret;exact⟨ix (by simp[uY];try omega),rfl⟩
def Ek (c:Int)(w:an):
  Calls prog 172 #[.int .u8 c] w λe w'=>e= .returned (.bool (lD c))/\w'=w:=by
 go_in
 go_wp2
 all_goals
  go_ret;exact⟨ix (by simp[lD];try omega),rfl⟩
def Ta (c:Int)(w:an):
  Calls prog 115 #[.int .u8 c] w λe w'=>e= .returned (.bool (Cu c))/\w'=w:=by
 go_in
 go_wp2
 all_goals
  go_ret;exact⟨ix (by simp[Cu];try omega),rfl⟩
def ME:List (List UInt8):= [[109,101,115,115,97,103,101],[101,110,117,109],[114,101,112,101,97,116,101,100],[111,112,116,105,111,110,97,108],[111,110,101,111,102],[109,97,112]]
def mN:List (List UInt8):= [[105,110,116,51,50],[105,110,116,54,52],[117,105,110,116,51,50],[117,105,110,116,54,52],[115,105,110,116,51,50],[115,105,110,116,54,52],[98,111,111,108],[102,105,120,101,100,51,50],[102,105,120,101,100,54,52],[115,102,105,120,101,100,51,50],[115,102,105,120,101,100,54,52],[102,108,111,97,116],[100,111,117,98,108,101],[115,116,114,105,110,103],[98,121,116,101,115]]
def oZ (l:List UInt8):Bool:=ME.contains l
def je (l:List UInt8):Bool:=mN.contains l
def Sg (s:am)(w:an):
  Calls prog 173 #[ae s] w λe w'=>e= .returned (.bool (oZ s.toList))/\w'=w:=by
 cases h0:(s.toList== [109,101,115,115,97,103,101])
 rotate_left
 ·go_in
  go_wp2;go_ret;exact⟨ix (by simp only[oZ,ME,ba,h0];simp),rfl⟩
 cases h1:(s.toList== [101,110,117,109])
 rotate_left
 ·go_in
  go_wp2;go_ret;exact⟨ix (by simp only[oZ,ME,ba,h0,h1];simp),rfl⟩
 cases h2:(s.toList== [114,101,112,101,97,116,101,100])
 rotate_left
 ·go_in
  go_wp2;go_ret;exact⟨ix (by simp only[oZ,ME,ba,h0,h1,h2];simp),rfl⟩
 cases h3:(s.toList== [111,112,116,105,111,110,97,108])
 rotate_left
 ·go_in
  go_wp2;go_ret;exact⟨ix (by simp only[oZ,ME,ba,h0,h1,h2,h3];simp),rfl⟩
 cases h4:(s.toList== [111,110,101,111,102])
 rotate_left
 ·go_in
  go_wp2;go_ret;exact⟨ix (by simp only[oZ,ME,ba,h0,h1,h2,h3,h4];simp),rfl⟩
 cases h5:(s.toList== [109,97,112])
 rotate_left
 ·go_in
  go_wp2;go_ret;exact⟨ix (by simp only[oZ,ME,ba,h0,h1,h2,h3,h4,h5];simp),rfl⟩
 ·go_in
  go_wp2;go_ret;exact⟨ix (by simp only[oZ,ME,ba,h0,h1,h2,h3,h4,h5];simp),rfl⟩
def Tb (s:am)(w:an):
  Calls prog 174 #[ae s] w λe w'=>e= .returned (.bool (je s.toList))/\w'=w:=by
 cases h0:(s.toList== [105,110,116,51,50])
 rotate_left
 ·go_in
  go_wp2;go_ret;exact⟨ix (by simp only[je,mN,ba,h0];simp),rfl⟩
 cases h1:(s.toList== [105,110,116,54,52])
 rotate_left
 ·go_in
  go_wp2;go_ret;exact⟨ix (by simp only[je,mN,ba,h0,h1];simp),rfl⟩
 cases h2:(s.toList== [117,105,110,116,51,50])
 rotate_left
 ·go_in
  go_wp2;go_ret;exact⟨ix (by simp only[je,mN,ba,h0,h1,h2];simp),rfl⟩
 cases h3:(s.toList== [117,105,110,116,54,52])
 rotate_left
 ·go_in
  go_wp2;go_ret;exact⟨ix (by simp only[je,mN,ba,h0,h1,h2,h3];simp),rfl⟩
 cases h4:(s.toList== [115,105,110,116,51,50])
 rotate_left
 ·go_in
  go_wp2;go_ret;exact⟨ix (by simp only[je,mN,ba,h0,h1,h2,h3,h4];simp),rfl⟩
 cases h5:(s.toList== [115,105,110,116,54,52])
 rotate_left
 ·go_in
  go_wp2;go_ret;exact⟨ix (by simp only[je,mN,ba,h0,h1,h2,h3,h4,h5];simp),rfl⟩
 cases h6:(s.toList== [98,111,111,108])
 rotate_left
 ·go_in
  go_wp2;go_ret;exact⟨ix (by simp only[je,mN,ba,h0,h1,h2,h3,h4,h5,h6];simp),rfl⟩
 cases h7:(s.toList== [102,105,120,101,100,51,50])
 rotate_left
 ·go_in
  go_wp2;go_ret;exact⟨ix (by simp only[je,mN,ba,h0,h1,h2,h3,h4,h5,h6,h7];simp),rfl⟩
 cases h8:(s.toList== [102,105,120,101,100,54,52])
 rotate_left
 ·go_in
  go_wp2;go_ret;exact⟨ix (by simp only[je,mN,ba,h0,h1,h2,h3,h4,h5,h6,h7,h8];simp),rfl⟩
 cases h9:(s.toList== [115,102,105,120,101,100,51,50])
 rotate_left
 ·go_in
  go_wp2;go_ret;exact⟨ix (by simp only[je,mN,ba,h0,h1,h2,h3,h4,h5,h6,h7,h8,h9];simp),rfl⟩
 cases h10:(s.toList== [115,102,105,120,101,100,54,52])
 rotate_left
 ·go_in
  go_wp2;go_ret;exact⟨ix (by simp only[je,mN,ba,h0,h1,h2,h3,h4,h5,h6,h7,h8,h9,h10];simp),rfl⟩
 cases h11:(s.toList== [102,108,111,97,116])
 rotate_left
 ·go_in
  go_wp2;go_ret;exact⟨ix (by simp only[je,mN,ba,h0,h1,h2,h3,h4,h5,h6,h7,h8,h9,h10,h11];simp),rfl⟩
 cases h12:(s.toList== [100,111,117,98,108,101])
 rotate_left
 ·go_in
  go_wp2;go_ret;exact⟨ix (by simp only[je,mN,ba,h0,h1,h2,h3,h4,h5,h6,h7,h8,h9,h10,h11,h12];simp),rfl⟩
 cases h13:(s.toList== [115,116,114,105,110,103])
 rotate_left
 ·go_in
  go_wp2;go_ret;exact⟨ix (by simp only[je,mN,ba,h0,h1,h2,h3,h4,h5,h6,h7,h8,h9,h10,h11,h12,h13];simp),rfl⟩
 cases h14:(s.toList== [98,121,116,101,115])
 rotate_left
 ·go_in
  go_wp2;go_ret;exact⟨ix (by simp only[je,mN,ba,h0,h1,h2,h3,h4,h5,h6,h7,h8,h9,h10,h11,h12,h13,h14];simp),rfl⟩
 ·go_in
  go_wp2;go_ret;exact⟨ix (by simp only[je,mN,ba,h0,h1,h2,h3,h4,h5,h6,h7,h8,h9,h10,h11,h12,h13,h14];simp),rfl⟩
section
variable {t:am} {k n:Nat} {p:Int->Bool}
def fL (t:am)(k:Nat):Int:=if h:k<t.size then(t[k].toNat:Int)else 0
theorem jf (h:k<t.size):(t[k].toNat:Int)=fL t k:=by unfold fL;rw[dif_pos h]
def iy (p:Int->Bool)(t:am):Nat->Nat->Nat
 |0,k=>k
 |n+1,k=>if decide (k<t.size)&&p (fL t k)then iy p t n (k+1)else k
theorem vE (hn:t.size-k<=n)(hk:k<t.size)(hp:p (fL t k)=true):
  ∃m,t.size-(k+1)<=m/\iy p t n k=iy p t m (k+1):=by
 cases n with
 |zero=>omega
 |succ m=>exact⟨m,Ue,by simp[iy,hk,hp]⟩
theorem jB (h:¬k<t.size\/p (fL t k)=false):iy p t n k=k:=by
 cases n with
 |zero=>rfl
 |succ m=>rcases h with h|h<;>simp[iy,h]
theorem AC (p:Int->Bool)(t:am):∀n k,k<=t.size->k<=iy p t n k/\iy p t n k<=t.size
 |0,k,h=>⟨ay _,h⟩
 |n+1,k,h=>by
  unfold iy
  by_cases hc:(decide (k<t.size)&&p (fL t k))=true
  ·rw[dE hc];have h1:k<t.size:=by simp at hc;exact hc.1
   have:=AC p t n (k+1) h1;omega
  ·rw[dD hc];omega
def ww (c:Int):Bool:=uY c||lD c
def gQ (t:am)(a:Nat):Nat:=
 if uY (fL t a)then iy ww t t.size (a+1)else if lD (fL t a)&&fL t a !=48 then iy lD t t.size (a+1)else a+1
theorem oo (t:am)(a:Nat)(h:a<t.size):a+1<=gQ t a/\gQ t a<=t.size:=by
 unfold gQ
 split
 ·exact AC _ _ _ _ h
 ·split
  ·exact AC _ _ _ _ h
  ·omega
abbrev W:=am×Nat
def j9 (t:am):Nat->Nat->List W
 |0,_=> []
 |n+1,a=>if a<t.size then if Cu (fL t a)then j9 t n (a+1)else(t.extract a (gQ t a),a)::j9 t n (gQ t a)else []
def zb (t:am):List W:=j9 t t.size 0
def fA (t:am):List W:=zb t++ [(⟨#[]⟩,t.size)]
theorem wy {a:Nat}(h:¬a<t.size):j9 t n a= []:=by
 cases n with
 |zero=>rfl
 |succ n=>simp[j9,h]
theorem wz {a:Nat}(hn:t.size-a<=n)(h:a<t.size)(hg:Cu (fL t a)=true):
  ∃m,t.size-(a+1)<=m/\j9 t n a=j9 t m (a+1):=by
 cases n with
 |zero=>omega
 |succ m=>exact⟨m,Ue,by simp[j9,h,hg]⟩
theorem zg {a:Nat}(hn:t.size-a<=n)(h:a<t.size)(hg:Cu (fL t a)=false):
  ∃m,t.size-(gQ t a)<=m/\j9 t n a=(t.extract a (gQ t a),a)::j9 t m (gQ t a):=by
 cases n with
 |zero=>omega
 |succ m=>
  have:=oo t a h;exact⟨m,Ue,by simp[j9,h,hg]⟩
theorem o0 (t:am):∀n a,∀x∈j9 t n a,a<=x.2/\x.2<t.size/\0<x.1.size/\x.1.size<=t.size
 |0,a,x,h=>by simp[j9]at h
 |n+1,a,x,h=>by
  unfold j9 at h
  by_cases ha:a<t.size
  ·rw[dE ha]at h
   by_cases hg:Cu (fL t a)=true
   ·rw[dE hg]at h;have:=o0 t n (a+1) x h;omega
   ·rw[dD hg]at h;have he:=oo t a ha
    rcases aN.1 h with rfl|h
    ·refine⟨ay _,ha,?_,?_⟩<;>simp[aU]<;>omega
    ·have:=o0 t n (gQ t a) x h;omega
  ·rw[dD ha]at h;simp at h
theorem o8 (t:am):∀n a,(j9 t n a).length<=t.size-a
 |0,a=>by simp[j9]
 |n+1,a=>by
  unfold j9
  by_cases ha:a<t.size
  ·rw[dE ha];have he:=oo t a ha
   by_cases hg:Cu (fL t a)=true
   ·rw[dE hg];have:=o8 t n (a+1);omega
   ·rw[dD hg];have:=o8 t n (gQ t a);simp only[be];omega
  ·rw[dD ha];simp
end
def tz {k:IntKind}{a b:Int}(h:a=b):Ending.returned (.int k a)= .returned (.int k b):=by rw[h]
def Ts (t:am)(a:Nat)(w:an)(h:a<t.size)(ht:t.size<=2000):
  Calls prog 116 #[ae t,aa a] w λe w'=>e= .returned (aa (gQ t a))/\w'=w:=by
 have hb:=jf h
 cases h1:uY (fL t a)
 ·cases h2:lD (fL t a)
  ·have HE:Hid (gQ t a=a+1):=by unfold gQ;simp[h1,h2,Hid]
   go_in
   go_wp2_with (first|(go_at_call 171;refine(IG _ _).mono ?_;rintro e w' ⟨rfl,rfl⟩)|(go_at_call 172;refine(Ek _ _).mono ?_;rintro e w' ⟨rfl,rfl⟩))
   go_ret;exact⟨tz (by rw[HE.out];simp),rfl⟩
  ·cases h3:(fL t a !=48)
   ·have HE:Hid (gQ t a=a+1):=by unfold gQ;simp only[h1,h2,h3,Hid];simp
    go_in
    go_wp2_with (first|(go_at_call 171;refine(IG _ _).mono ?_;rintro e w' ⟨rfl,rfl⟩)|(go_at_call 172;refine(Ek _ _).mono ?_;rintro e w' ⟨rfl,rfl⟩))
    go_ret;exact⟨tz (by rw[HE.out];simp),rfl⟩
   ·have HE:Hid (gQ t a=iy lD t t.size (a+1)):=by unfold gQ;simp only[h1,h2,h3,Hid];simp
    go_in
    go_wp2_with (first|(go_at_call 171;refine(IG _ _).mono ?_;rintro e w' ⟨rfl,rfl⟩)|(go_at_call 172;refine(Ek _ _).mono ?_;rintro e w' ⟨rfl,rfl⟩))
    go_loop [6] (λi=>∃n k:Nat,k<=t.size/\t.size-k<=n/\Hid (iy lD t n k=iy lD t t.size (a+1))/\i=aa k) (λi=>t.size-(intOf i).toNat)
    case atStart=>exact⟨t.size,a+1,Ue,Ue,rfl,Uf⟩
    case round=>
     obtain⟨n,k,hk,hn,HS,rfl⟩:=hrel
     by_cases hlt:k<t.size
     ·have Uq:=jf hlt
      cases h4:lD (fL t k)
      ·have HF:Hid (k=iy lD t t.size (a+1)):=by rw[<-HS.out,jB (.inr h4)];exact rfl
       go_wp2_with (first|(go_at_call 172;refine(Ek _ _).mono ?_;rintro e w' ⟨rfl,rfl⟩))
       go_ret;exact⟨tz (by rw[HE.out,<-HF.out]),rfl⟩
      ·have⟨m,hm,hs⟩:=vE hn hlt h4;have HF:Hid (iy lD t m (k+1)=iy lD t t.size (a+1)):=hs.symm.trans HS.out;clear hs;go_wp2_with (first|(go_at_call 172;refine(Ek _ _).mono ?_;rintro e w' ⟨rfl,rfl⟩))
       go_round
       case rel=>exact⟨m,k+1,Ue,hm,HF,by go_num⟩
       case measure=>simp[intOf];omega
     ·have HF:Hid (k=iy lD t t.size (a+1)):=by rw[<-HS.out,jB (.inl hlt)];exact rfl
      go_wp2_with (first|(go_at_call 172;refine(Ek _ _).mono ?_;rintro e w' ⟨rfl,rfl⟩))
      go_ret;exact⟨tz (by rw[HE.out,<-HF.out]),rfl⟩
 ·have HE:Hid (gQ t a=iy ww t t.size (a+1)):=by unfold gQ;simp only[h1,Hid];simp
  go_in
  go_wp2_with (first|(go_at_call 171;refine(IG _ _).mono ?_;rintro e w' ⟨rfl,rfl⟩)|(go_at_call 172;refine(Ek _ _).mono ?_;rintro e w' ⟨rfl,rfl⟩))
  go_loop [6] (λi=>∃n k:Nat,k<=t.size/\t.size-k<=n/\Hid (iy ww t n k=iy ww t t.size (a+1))/\i=aa k) (λi=>t.size-(intOf i).toNat)
  case atStart=>exact⟨t.size,a+1,Ue,Ue,rfl,Uf⟩
  case round=>
   obtain⟨n,k,hk,hn,HS,rfl⟩:=hrel
   by_cases hlt:k<t.size
   ·have Uq:=jf hlt
    cases h4:ww (fL t k)
    ·have HF:Hid (k=iy ww t t.size (a+1)):=by rw[<-HS.out,jB (.inr h4)];exact rfl
     have h5:uY (fL t k)=false/\lD (fL t k)=false:=by simpa [ww]using h4
     obtain⟨h5,h6⟩:=h5;clear h4;go_wp2_with (first|(go_at_call 171;refine(IG _ _).mono ?_;rintro e w' ⟨rfl,rfl⟩)|(go_at_call 172;refine(Ek _ _).mono ?_;rintro e w' ⟨rfl,rfl⟩))
     go_ret;exact⟨tz (by rw[HE.out,<-HF.out]),rfl⟩
    ·have⟨m,hm,hs⟩:=vE hn hlt h4;have HF:Hid (iy ww t m (k+1)=iy ww t t.size (a+1)):=hs.symm.trans HS.out;clear hs
     cases h5:uY (fL t k)
     ·have h6:lD (fL t k)=true:=by simpa [ww,h5]using h4
      clear h4;go_wp2_with (first|(go_at_call 171;refine(IG _ _).mono ?_;rintro e w' ⟨rfl,rfl⟩)|(go_at_call 172;refine(Ek _ _).mono ?_;rintro e w' ⟨rfl,rfl⟩))
      go_round
      case rel=>exact⟨m,k+1,Ue,hm,HF,by go_num⟩
      case measure=>simp[intOf];omega
     ·clear h4;go_wp2_with (first|(go_at_call 171;refine(IG _ _).mono ?_;rintro e w' ⟨rfl,rfl⟩)|(go_at_call 172;refine(Ek _ _).mono ?_;rintro e w' ⟨rfl,rfl⟩))
      go_round
      case rel=>exact⟨m,k+1,Ue,hm,HF,by go_num⟩
      case measure=>simp[intOf];omega
   ·have HF:Hid (k=iy ww t t.size (a+1)):=by rw[<-HS.out,jB (.inl hlt)];exact rfl
    go_wp2_with (first|(go_at_call 172;refine(Ek _ _).mono ?_;rintro e w' ⟨rfl,rfl⟩))
    go_ret;exact⟨tz (by rw[HE.out,<-HF.out]),rfl⟩
def iQ (s:am):Int:=
 if lD (fL s 0)then 2 else if !uY (fL s 0)||oZ s.toList then 0 else if je s.toList then 3 else 1
def dJ (s:am):Int:=if s.size=0 then 4 else iQ s
def Tt (s:am)(w:an)(h:0<s.size):
  Calls prog 117 #[ae s] w λe w'=>e= .returned (aa (iQ s))/\w'=w:=by
 have hb:=jf h
 cases h1:lD (fL s 0)
 ·cases h2:uY (fL s 0)
  ·have HE:Hid (iQ s=0):=by unfold iQ;simp[h1,h2,Hid]
   go_in
   go_wp2_with (first|(go_at_call 171;refine(IG _ _).mono ?_;rintro e w' ⟨rfl,rfl⟩)|(go_at_call 172;refine(Ek _ _).mono ?_;rintro e w' ⟨rfl,rfl⟩))
   go_ret;exact⟨tz (by rw[HE.out]),rfl⟩
  ·cases h3:oZ s.toList
   ·cases h4:je s.toList
    ·have HE:Hid (iQ s=1):=by unfold iQ;simp[h1,h2,h3,h4,Hid]
     go_in
     go_wp2_with (first|(go_at_call 171;refine(IG _ _).mono ?_;rintro e w' ⟨rfl,rfl⟩)|(go_at_call 172;refine(Ek _ _).mono ?_;rintro e w' ⟨rfl,rfl⟩)|(go_at_call 173;refine(Sg _ _).mono ?_;rintro e w' ⟨rfl,rfl⟩)|(go_at_call 174;refine(Tb _ _).mono ?_;rintro e w' ⟨rfl,rfl⟩))
     go_ret;exact⟨tz (by rw[HE.out]),rfl⟩
    ·have HE:Hid (iQ s=3):=by unfold iQ;simp[h1,h2,h3,h4,Hid]
     go_in
     go_wp2_with (first|(go_at_call 171;refine(IG _ _).mono ?_;rintro e w' ⟨rfl,rfl⟩)|(go_at_call 172;refine(Ek _ _).mono ?_;rintro e w' ⟨rfl,rfl⟩)|(go_at_call 173;refine(Sg _ _).mono ?_;rintro e w' ⟨rfl,rfl⟩)|(go_at_call 174;refine(Tb _ _).mono ?_;rintro e w' ⟨rfl,rfl⟩))
     go_ret;exact⟨tz (by rw[HE.out]),rfl⟩
   ·have HE:Hid (iQ s=0):=by unfold iQ;simp[h1,h2,h3,Hid]
    go_in
    go_wp2_with (first|(go_at_call 171;refine(IG _ _).mono ?_;rintro e w' ⟨rfl,rfl⟩)|(go_at_call 172;refine(Ek _ _).mono ?_;rintro e w' ⟨rfl,rfl⟩)|(go_at_call 173;refine(Sg _ _).mono ?_;rintro e w' ⟨rfl,rfl⟩))
    go_ret;exact⟨tz (by rw[HE.out]),rfl⟩
 ·have HE:Hid (iQ s=2):=by unfold iQ;simp[h1,Hid]
  go_in
  go_wp2_with (first|(go_at_call 171;refine(IG _ _).mono ?_;rintro e w' ⟨rfl,rfl⟩)|(go_at_call 172;refine(Ek _ _).mono ?_;rintro e w' ⟨rfl,rfl⟩))
  go_ret;exact⟨tz (by rw[HE.out]),rfl⟩
def AD {k:IntKind}{a b:Int}(h:a=b):Value.int k a= .int k b:=by rw[h]
def wA (x:W):aq:= [aa (dJ x.1),ae x.1,aa x.2]
def o9 (w:an)(a b c:Value)(t:TypeId):∀j u,[a,b,c][j]?=some u->(w.alloc (.cells #[a,b,c] t)).cell? (((ai w.heap.size 0):Addr).add j)=some u:=by
 intro j u hj
 match j,hj with
 |0,hj=>simp at hj;subst hj;simp[Addr.add]
 |1,hj=>simp at hj;subst hj;simp[Addr.add]
 |2,hj=>simp at hj;subst hj;simp[Addr.add]
 |j+3,hj=>simp at hj
def Tryz.info148:(prog.info? 148).map (λi=>(i.zero,i.size,i.bytes))=some (some (.agg #[aa 0,T9,aa 0]),3,32):=Uj
def Tu (t:am)(w:an)(ht:t.size<=2000):
  Calls prog 69 #[ae t] w λe w'=>∃v,e= .returned v/\w'.ownsRow w.heap.size 148 3 v (fA t).length ((fA t).flatMap wA)/\aj w w':=by
 have⟨i0,hi,UB,UC,UD⟩:=info_parts Tryz.info148;go_in
 go_wp2;go_loopw [3,4] (λv a wr=>∃(n k:Nat) (pre:List W),k<=t.size/\t.size-k<=n/\pre.length<=k/\Hid (pre++j9 t n k=zb t)/\a=aa k/\wr.ownsRow w.heap.size 148 3 v pre.length (pre.flatMap wA)/\aj w wr) (λ_ i _=>t.size-(intOf i).toNat)
 case atStart=>exact⟨t.size,0,[],Ue,Ue,Uf,rfl,rfl,bm _ _ _ _,Below.refl _ _⟩
 case round=>
  obtain⟨n,k,pre,hk,hn,hpl,HL,rfl,Uq,Ut⟩:=hrel
  by_cases Uu:k<t.size
  ·have hbk:=jf Uu
   cases hg:Cu (fL t k)
   ·have he:=oo t k Uu;have UE:0<(t.extract k (gQ t k)).size:=by rw[aU];omega
    have⟨m,hm,Uv⟩:=zg hn Uu hg
    have HF:Hid ((pre++ [(t.extract k (gQ t k),k)])++j9 t m (gQ t k)=zb t):=by
     have:=HL.out;rw[Uv]at this;simpa [Hid]using this
    have HK:Hid (dJ (t.extract k (gQ t k))=iQ (t.extract k (gQ t k))):=by
     unfold dJ;rw[dD Ue];exact rfl
    clear Uv;go_wp2_with (first|(go_at_call 115;refine(Ta _ _).mono ?_;rintro e w' ⟨rfl,rfl⟩)|(go_at_call 116;refine(Ts _ _ _ Uu ht).mono ?_;rintro e w' ⟨rfl,rfl⟩)|(go_at_call 117;refine(Tt _ _ UE).mono ?_;rintro e w' ⟨rfl,rfl⟩)|(at_builtin;refine wpList_append_own_at _ rfl _ _ 155 rfl w.heap.size 148 i0 _ 3 32 underlying155 hi UB UC UD rfl Uh u3 _ _ rfl (Uq.alloc _) _ 1 1 [_,_,_] rfl rfl (o9 _ _ _ _ _) ?h1 ?Uw ?Ux ?Uy ?_;rotate_right;intro v' w1 Ur Us Uz UA))
    case h1=>intro u hu;simp at hu;rcases hu with rfl|rfl|rfl<;>rfl
    case Uw=>unfold maxLen;omega
    case Ux=>omega
    case Uy=>have:=Ut.size;simp;omega
    refine⟨⟨m,gQ t k,pre++ [(t.extract k (gQ t k),k)],he.2,hm,Ug,HF,AD Ue,?_,?_⟩,by simp[intOf];omega⟩
    ·simpa [wA,HK.out]using Ur
    ·exact(Ut.alloc Ut.size _).grown Us (by have:=Ut.size;simp;omega) (λj hj=>(Uq.lt j hj).1)
   ·have⟨m,hm,Uv⟩:=wz hn Uu hg
    have HF:Hid (pre++j9 t m (k+1)=zb t):=by
     have:=HL.out;rw[Uv]at this;simpa [Hid]using this
    clear Uv;go_wp2_with (first|(go_at_call 115;refine(Ta _ _).mono ?_;rintro e w' ⟨rfl,rfl⟩))
    go_roundw
    case rel=>exact⟨m,k+1,pre,Ue,hm,Ue,HF,by go_num,Uq,Ut⟩
    case measure=>simp[intOf];omega
  ·have HF:Hid (pre=zb t):=by
    have:=HL.out;rw[wy Uu]at this;simpa [Hid]using this
   go_wp2_with (first|(at_builtin;refine wpList_append_own_at _ rfl _ _ 155 rfl w.heap.size 148 i0 _ 3 32 underlying155 hi UB UC UD rfl Uh u3 _ _ rfl (Uq.alloc _) _ 1 1 [_,_,_] rfl rfl (o9 _ _ _ _ _) ?h1 ?Uw ?Ux ?Uy ?_;rotate_right;intro v' w1 Ur Us Uz UA))
   case h1=>intro u hu;simp at hu;rcases hu with rfl|rfl|rfl<;>rfl
   case Uw=>unfold maxLen;omega
   case Ux=>omega
   case Uy=>have:=Ut.size;simp;omega
   go_ret;refine⟨v',rfl,?_,?_⟩
   ·have:=HF.out;subst this;have hk:dJ ⟨#[]⟩=4:=rfl;simpa [fA,wA,hk]using Ur
   ·exact(Ut.alloc Ut.size _).grown Us (by have:=Ut.size;simp;omega) (λj hj=>(Uq.lt j hj).1)
section
variable {w w':an} {n rb j:Nat} {ws:List W}
structure Rd (w:an)(rb wb:Nat)(ws:List W)(i:Nat):Prop where
 lt:i<ws.length
 few:ws.length<=2001
 ne:rb≠wb
 row:∃cap,w.cell? (ai rb 0)=some (Ub wb ws.length cap)
 next:w.cell? (ai rb 1)=some (aa i)
 free:w.frozen? (ai rb 1)=false
 words:∀(k:Nat) (x:W),ws[k]?=some x->w.cell? (ai wb (k*3))=some (aa (dJ x.1))/\w.cell? (ai wb (k*3+1))=some (ae x.1)/\w.cell? (ai wb (k*3+2))=some (aa x.2)
 ends:∀(k:Nat) (x:W),ws[k]?=some x->0<x.1.size->k+1<ws.length
 small:∀(k:Nat) (x:W),ws[k]?=some x->x.1.size<=2000/\x.2<=2000
theorem IH (e p:Int)(w:an):
  Calls prog 68 #[aa e,aa p] w λe' w'=>e'= .panicked [{v:= .iface 142 (.agg #[aa e,aa p]),recovered:=false}]/\w'=w:=by
 go_in
 go_wp2;exact⟨rfl,rfl,rfl⟩
theorem Mx (w:an)(rb wb:Nat)(ws:List W)(i:Nat)(x:W)(R:Rd w rb wb ws i)(hx:ws[i]?=some x):
  Calls prog 118 #[ag rb] w λe w'=>e= .returned (.agg #[aa (dJ x.1),ae x.1,aa x.2])/\aj w w':=by
 have⟨cap,Uq⟩:=R.row;have Ur:=R.next;have hlt:=R.lt;have hfew:=R.few;have⟨q0,q1,q2⟩:=R.words i x hx;clear R hx;have a0:=λo=>(cH w o _ (aQ _ _ Uq)).trans Uq
 have a1:=λo=>(cH w o _ (aQ _ _ Ur)).trans Ur
 have b0:=λo=>(cH w o _ (aQ _ _ q0)).trans q0
 have b1:=λo=>(cH w o _ (aQ _ _ q1)).trans q1
 have b2:=λo=>(cH w o _ (aQ _ _ q2)).trans q2
 go_in
 go_wp2;go_region
 go_wp2;exact dG (v:= .agg #[aa (dJ x.1),ae x.1,aa x.2]) (by simp[results,results118,go_sem]) rfl ⟨rfl,((Below.refl _ _).alloc (ay _) _).drew⟩
def Cn (w:an)(rb j:Nat):an:=w.setCell (ai rb 1) (aa j)
def iR (n rb:Nat)(w w':an)(j:Nat):Prop:=Below n (Cn w rb j) w'
theorem wC (w:an)(rb j:Nat):(Cn w rb j).heap.size=w.heap.size:=by simp[Cn,World.setCell]
def me (off:Nat)(v:Value):Obj->Obj
 | .cells c e f=> .cells (c.setIfInBounds off v) e f
 |o=>o
theorem dK (w:an)(b off:Nat)(v:Value)(k:Nat):(w.setCell (ai b off) v).heap[k]?=if b=k then(w.heap[k]?).map (me off v)else w.heap[k]?:=by
 simp only[World.setCell,Array.getElem?_modify]
 split
 ·cases w.heap[k]? with
  |none=>rfl
  |some o=>cases o<;>rfl
 ·rfl
theorem AE (off:Nat)(u v:Value)(o:Obj):me off v (me off u o)=me off v o:=by
 cases o<;>simp[me]
theorem Cv {b off:Nat}{v:Value}(h:w.cell? (ai b off)=some v):(w.heap[b]?).map (me off v)=w.heap[b]?:=by
 unfold World.cell? at h
 cases ho:w.heap[b]? with
 |none=>rfl
 |some o=>
  simp only[ho]at h
  cases o with
  |cells c e f=>
   simp at h;simp only[Option.map_some,me]
   congr 2;apply Array.ext
   ·simp
   ·intro i h1 h2;rw[Array.getElem_setIfInBounds]
    split
    ·subst_vars
     rw[bF h2]at h;exact(Option.some.inj h).symm
    ·rfl
  |_=>rfl
theorem iR.of_below (h:w.cell? (ai rb 1)=some (aa j))(hb:Below n w w'):iR n rb w w' j:=by
 refine⟨hb.os,hb.tape,hb.output,by rw[wC];exact hb.size,λk hk=> ?_⟩;rw[hb.block k hk,Cn,dK]
 split
 ·subst_vars;exact(Cv h).symm
 ·rfl
theorem iR.trans {w1 w2:an}{m i:Nat}(h:iR n rb w w1 i)(k:iR m rb w1 w2 j)(hnm:n<=m):iR n rb w w2 j:=by
 refine⟨k.os.trans h.os,k.tape.trans h.tape,k.output.trans h.output,?_,λb hb=> ?_⟩
 ·have h1:=h.size;have h2:=k.size;rw[wC]at*;omega
 ·rw[k.block b Ue,Cn,dK,h.block b hb,Cn,Cn,dK,dK]
  split
  ·simp only[Option.map_map];congr 1;funext o;exact AE _ _ _ _
  ·rfl
theorem iR.size (h:iR n rb w w' j):w.heap.size<=w'.heap.size:=by have:=Below.size h;rwa [wC]at this
theorem iR.cell (h:iR n rb w w' j){a:Addr}(ha:a.block<n)(hne:a.block≠rb):w'.cell? a=w.cell? a:=by
 refine bu ((Below.block h a.block ha).trans ?_);rw[Cn,dK,dD (λe=>hne e.symm)]
theorem iR.rd {wb i:Nat}(R:Rd w rb wb ws i)(h:iR n rb w w' j)(hr:rb<n)(hw:wb<n)(hj:j<ws.length):Rd w' rb wb ws j:=by
 have⟨cap,Uq⟩:=R.row;have Us:∀off,w'.cell? (ai wb off)=w.cell? (ai wb off):=λoff=>h.cell (a:=(ai wb off)) hw (λe=>R.ne e.symm)
 refine⟨hj,R.few,R.ne,⟨cap,?_⟩,?_,?_,λk x hx=> ?_,R.ends,R.small⟩
 ·rw[Below.cell h (p:=(ai rb 0)) hr,Cn,World.cell?_setCell_other _ _ _ _ Uf];exact Uq
 ·rw[Below.cell h (p:=(ai rb 1)) hr,Cn];exact World.cell?_setCell_same _ _ _ R.next
 ·rw[Below.frozen h (p:=(ai rb 1)) hr,Cn,World.frozen?_setCell];exact R.free
 ·rw[Us,Us,Us];exact R.words k x hx
theorem Rd.blocks {wb i:Nat}(R:Rd w rb wb ws i):rb<w.heap.size/\wb<w.heap.size:=by
 refine⟨aQ _ _ R.next,?_⟩;obtain⟨x,hx⟩:∃x,ws[i]?=some x:=⟨_,aK R.lt⟩;exact aQ _ _ (R.words i x hx).1
end
section
variable (w:an) {b n rb j:Nat} {w1 w':an} {ws:List W} {row:Option Nat} {s:am}
theorem gA {w:an}(h:b<w.heap.size):(∀o off,(w.alloc o).cell? (ai b off)=w.cell? (ai b off))/\(∀o off,(w.alloc o).frozen? (ai b off)=w.frozen? (ai b off))/\¬b=w.heap.size/\¬w.heap.size=b:=
 ⟨λo off=>cH w o (ai b off) h,λo off=>World.frozen?_of_block (Below.heap_alloc w o b h),Ue,Ue⟩
theorem p7 {w:an}(hb:Below n w w1)(h:b<n):(∀off,w1.cell? (ai b off)=w.cell? (ai b off))/\(∀off,w1.frozen? (ai b off)=w.frozen? (ai b off)):=
 ⟨λoff=>hb.cell (p:=(ai b off)) h,λoff=>hb.frozen (p:=(ai b off)) h⟩
theorem Rd.below {w:an}{wb i:Nat}(R:Rd w rb wb ws i)(h:Below n w w')(hr:rb<n)(hw:wb<n):Rd w' rb wb ws i:=
 (iR.of_below R.next h).rd R hr hw R.lt
theorem Rd.alloc {w:an}{wb i:Nat}(R:Rd w rb wb ws i)(o:Obj):Rd (w.alloc o) rb wb ws i:=
 R.below ((Uc w).alloc (ay _) o) R.blocks.1 R.blocks.2
theorem iR.alloc {w:an}(h:iR n rb w w' j)(hn:n<=w.heap.size)(o:Obj):iR n rb w (w'.alloc o) j:=
 Below.alloc h (aG hn h.size) o
theorem iR.setCell {w:an}(h:iR n rb w w' j){a:Addr}(ha:n<=a.block)(u:Value):iR n rb w (w'.setCell a u) j:=Below.setCell h ha u
theorem iR.drew {w:an}(h:iR n rb w w' j):iR n rb w w'.drew j:=Below.drew h
theorem iR.grown {w:an}(h:iR n rb w w1 j)(hg:w1.grownBy w' row)(hn:n<=w.heap.size)(hr:∀k,row=some k->n<=k):iR n rb w w' j:=
 Below.grown h hg (aG hn h.size) hr
theorem iR.below {w:an}{m:Nat}(h:iR n rb w w1 j)(hb:Below m w1 w')(hnm:n<=m):iR n rb w w' j:=Below.trans h (hb.mono hnm)
theorem iR.step {w:an}{i:Nat}(h:iR n rb w w' i)(j:Nat):iR n rb w (w'.setCell (ai rb 1) (aa j)) j:=
 h.trans (Below.refl n (Cn w' rb j)) (ay _)
theorem Q3 (rb wb:Nat)(ws:List W)(i:Nat)(x:W)(R:Rd w rb wb ws i)(hx:ws[i]?=some x)(hs:0<x.1.size):
  Calls prog 337 #[ag rb] w λe w'=>e= .returned (.agg #[aa (dJ x.1),ae x.1,aa x.2])/\Rd w' rb wb ws (i+1)/\iR w.heap.size rb w w' (i+1):=by
 have hlt:=R.lt;have hfew:=R.few;have⟨Us,Ut⟩:=R.blocks;go_in
 go_wp2_with fail;refine(Mx _ rb wb ws i x (R.alloc _) hx).mono ?_;rintro e w1 ⟨rfl,Uq⟩;have hz:w.heap.size<w1.heap.size:=by have:=Uq.size;simp at this;omega
 have R1:=(R.alloc _).below Uq Ug Ug;have⟨p1,p2,p3,p4⟩:=gA (w:=w1) (b:=rb) Ue;have⟨s1,s2,s3,s4⟩:=gA (w:=w1) (b:=w.heap.size) hz;have⟨t1,t2⟩:=p7 Uq (b:=w.heap.size) Uf;have n1:=R1.next;have n2:=R1.free;have n3:¬rb=w.heap.size:=Ue;have n4:¬w.heap.size=rb:=Ue;go_wp2_with fail;have A1:iR w.heap.size rb w w1 i:=iR.of_below R.next ((Ud w _).trans (Uq.mono Uf));have A2:=(((((A1.alloc (ay _) (ak #[Value.int IntKind.i64 (dJ x.fst),Value.string x.fst,Value.int IntKind.i64 x.snd] 148)).step (i+1)).setCell (a:=(ai w.heap.size 0)) (ay _) (Value.int IntKind.i64 (dJ x.fst))).setCell (a:=(ai w.heap.size 1)) (ay _) (Value.string x.fst)).setCell (a:=(ai w.heap.size 2)) (ay _) (Value.int IntKind.i64 x.snd));refine dG (v:= .agg #[aa (dJ x.1),ae x.1,aa x.2]) ?_ rfl ⟨rfl,?_,A2⟩
 ·simp[results,results337,go_sem, *]
 ·exact A2.rd R Us Ut (R.ends i x hx hs)
theorem jo (a b c:Value)(w:an):(Instr.field 148 (.agg #[a,b,c]) 0).run prog w= .ok a w:=Uj
theorem jp (a b c:Value)(w:an):(Instr.field 148 (.agg #[a,b,c]) 1).run prog w= .ok b w:=Uj
theorem jq (a b c:Value)(w:an):(Instr.field 148 (.agg #[a,b,c]) 2).run prog w= .ok c w:=Uj
attribute [local go_sem] jo jp jq
def dL (e p:Int):Ending:= .panicked [{v:= .iface 142 (.agg #[aa e,aa p]),recovered:=false}]
theorem Tc (rb wb:Nat)(ws:List W)(i:Nat)(x:W)(R:Rd w rb wb ws i)(hx:ws[i]?=some x):
  Calls prog 336 #[ag rb] w λe w'=>e=dL 2 x.2/\aj w w':=by
 go_in
 go_wp2_with fail;refine(Mx _ rb wb ws i x R hx).mono ?_;rintro e w1 ⟨rfl,Uq⟩;go_wp2_with fail;refine(IH _ _ _).mono ?_;rintro e w2 ⟨rfl,rfl⟩;go_wp2;exact⟨rfl,rfl,Uq⟩
theorem My (rb wb:Nat)(ws:List W)(i:Nat)(x:W)(s:am)(R:Rd w rb wb ws i)(hx:ws[i]?=some x):
  Calls prog 175 #[ag rb,ae s] w λe w'=>e= .returned (.bool (x.1.toList==s.toList))/\aj w w':=by
 go_in
 go_wp2_with fail;refine(Mx _ rb wb ws i x R hx).mono ?_;rintro e w1 ⟨rfl,Uq⟩;go_wp2;go_ret;exact⟨rfl,Uq⟩
theorem rN (h:dJ s≠4):0<s.size:=by
 unfold dJ at h
 by_cases h0:s.size=0
 ·rw[dE h0]at h;exact absurd rfl h
 ·omega
theorem rO {l:List UInt8}(h:(s.toList==l)=true)(hl:0<l.length):0<s.size:=by
 have h1:s.toList=l:=by simpa using h
 have h2:s.toList.length=s.size:=by rw[ByteArray.toList_eq];rfl
 rw[h1]at h2;omega
theorem Ph (rb wb:Nat)(ws:List W)(i:Nat)(x:W)(s:am)(R:Rd w rb wb ws i)(hx:ws[i]?=some x)(hs:(x.1.toList==s.toList)=true)(hp:0<x.1.size):
  Calls prog 256 #[ag rb,ae s] w λe w'=>e= .returned (.tuple #[])/\Rd w' rb wb ws (i+1)/\iR w.heap.size rb w w' (i+1):=by
 go_in
 go_wp2_with fail;refine(My _ rb wb ws i x s R hx).mono ?_;rintro e w1 ⟨rfl,Uq⟩;have R1:=R.below Uq R.blocks.1 R.blocks.2;have A1:=iR.of_below R.next Uq;go_wp2_with fail;refine(Q3 _ rb wb ws i x R1 hx hp).mono ?_;rintro e w2 ⟨rfl,R2,A2⟩;go_wp2;go_end0;exact⟨rfl,R2,A1.trans A2 A1.size⟩
theorem Pi (rb wb:Nat)(ws:List W)(i:Nat)(x:W)(s:am)(R:Rd w rb wb ws i)(hx:ws[i]?=some x)(hs:(x.1.toList==s.toList)=false):
  Calls prog 256 #[ag rb,ae s] w λe w'=>e=dL 2 x.2/\iR w.heap.size rb w w' i:=by
 go_in
 go_wp2_with fail;refine(My _ rb wb ws i x s R hx).mono ?_;rintro e w1 ⟨rfl,Uq⟩;have R1:=R.below Uq R.blocks.1 R.blocks.2;have A1:=iR.of_below R.next Uq;go_wp2_with fail;refine(Tc _ rb wb ws i x R1 hx).mono ?_;rintro e w2 ⟨rfl,Ur⟩;unfold dL;go_wp2;exact⟨rfl,rfl,A1.below Ur Uq.size⟩
theorem Pj (rb wb:Nat)(ws:List W)(i:Nat)(x:W)(k:Int)(R:Rd w rb wb ws i)(hx:ws[i]?=some x)(hs:(dJ x.1 !=k)=false)(hp:0<x.1.size):
  Calls prog 257 #[ag rb,aa k] w λe w'=>e= .returned (.agg #[aa (dJ x.1),ae x.1,aa x.2])/\Rd w' rb wb ws (i+1)/\iR w.heap.size rb w w' (i+1):=by
 have B0:=(Uc w).alloc (ay _) (ak #[Value.int IntKind.i64 0,Value.string {data:= #[]},Value.int IntKind.i64 0] 148);go_in
 go_wp2_with fail;refine(Mx _ rb wb ws i x (R.alloc _) hx).mono ?_;rintro e w1 ⟨rfl,Uq⟩;have R1:=(R.alloc _).below Uq (R.alloc _).blocks.1 (R.alloc _).blocks.2;have A1:=iR.of_below R.next (B0.trans (Uq.mono Uf));have z1:w.heap.size<w1.heap.size:=by have:=Uq.size;simp at this;omega
 go_wp2_with fail;refine(Q3 _ rb wb ws i x R1 hx hp).mono ?_;rintro e w2 ⟨rfl,R2,A2⟩;have A3:=A1.trans A2 Ue;have n1:¬w.heap.size=rb:=by have:=R.blocks;omega
 have⟨t1,t2⟩:=p7 Uq (b:=w.heap.size) Uf;have u1:∀off,w2.cell? (ai w.heap.size off)=w1.cell? (ai w.heap.size off):=λoff=>A2.cell (a:=(ai w.heap.size off)) z1 n1
 have u2:∀off,w2.frozen? (ai w.heap.size off)=w1.frozen? (ai w.heap.size off):=λoff=>(Below.frozen A2 (p:=(ai w.heap.size off)) z1).trans (World.frozen?_setCell _ _ _ _)
 go_wp2;have A4:=((A3.setCell (a:=(ai w.heap.size 0)) (ay _) (Value.int IntKind.i64 (dJ x.fst))).setCell (a:=(ai w.heap.size 1)) (ay _) (Value.string x.fst)).setCell (a:=(ai w.heap.size 2)) (ay _) (Value.int IntKind.i64 x.snd);refine dG (v:= .agg #[aa (dJ x.1),ae x.1,aa x.2]) ?_ rfl ⟨rfl,?_,A4⟩
 ·simp[results,results257,go_sem, *]
 ·exact A4.rd R R.blocks.1 R.blocks.2 (R.ends i x hx hp)
theorem Pk (rb wb:Nat)(ws:List W)(i:Nat)(x:W)(k:Int)(R:Rd w rb wb ws i)(hx:ws[i]?=some x)(hs:(dJ x.1 !=k)=true):
  Calls prog 257 #[ag rb,aa k] w λe w'=>e=dL 2 x.2/\iR w.heap.size rb w w' i:=by
 have B0:=(Uc w).alloc (ay _) (ak #[Value.int IntKind.i64 0,Value.string {data:= #[]},Value.int IntKind.i64 0] 148);go_in
 go_wp2_with fail;refine(Mx _ rb wb ws i x (R.alloc _) hx).mono ?_;rintro e w1 ⟨rfl,Uq⟩;have R1:=(R.alloc _).below Uq (R.alloc _).blocks.1 (R.alloc _).blocks.2;have A1:=iR.of_below R.next (B0.trans (Uq.mono Uf));have z1:w.heap.size<w1.heap.size:=by have:=Uq.size;simp at this;omega
 go_wp2_with fail;refine(Tc _ rb wb ws i x R1 hx).mono ?_;rintro e w2 ⟨rfl,Ur⟩;unfold dL;go_wp2;exact⟨rfl,rfl,A1.below Ur Ue⟩
end
section
variable {α:Type} {k i:Nat} (ws:List W) {stop:Nat->Bool}
structure eF where
 form:Int
 key:Option W
 type:W
 name:W
 num:W
structure fo where
 oneof:Option W
 fields:List eF
structure dQ where
 enum:Bool
 name:W
 parts:List fo
 values:List (W×W)
abbrev nI (α:Type):=Except Nat (α×Nat)
def gu {α β:Type}(r:nI α)(f:α->Nat->nI β):nI β:=
 match r with
 | .error p=> .error p
 | .ok (a,j)=>f a j
def jV (ws:List W)(k:Int)(i:Nat):nI W:=
 match ws[i]? with
 |some x=>if dJ x.1==k then .ok (x,i+1)else .error x.2
 |none=> .error 0
def fV (ws:List W)(s:List UInt8)(i:Nat):nI Unit:=
 match ws[i]? with
 |some x=>if x.1.toList==s then .ok ((),i+1)else .error x.2
 |none=> .error 0
def oM (ws:List W)(i:Nat):nI W:=
 match ws[i]? with
 |some x=>if dJ x.1==3||dJ x.1==1 then .ok (x,i+1)else .error x.2
 |none=> .error 0
def j8 (ws:List W)(i:Nat):nI (W×W):=
 gu (jV ws 1 i) λn i=>gu (fV ws [61] i) λ_ i=>gu (jV ws 2 i) λm i=>gu (fV ws [59] i) λ_ i=> .ok ((n,m),i)
def fJ (ws:List W)(form:Int)(i:Nat):nI eF:=
 gu (oM ws i) λt i=>gu (j8 ws i) λnm i=> .ok (⟨form,none,t,nm.1,nm.2⟩,i)
def mO (ws:List W)(i:Nat):nI eF:=
 gu (fV ws [109,97,112] i) λ_ i=>gu (fV ws [60] i) λ_ i=>gu (oM ws i) λk i=>gu (fV ws [44] i) λ_ i=>
 gu (oM ws i) λt i=>gu (fV ws [62] i) λ_ i=>gu (j8 ws i) λnm i=> .ok (⟨4,some k,t,nm.1,nm.2⟩,i)
def gk {α:Type}(stop:Nat->Bool)(p:Nat->nI α):Nat->Nat->nI (List α)
 |0,i=> .ok ([],i)
 |n+1,i=>if stop i then .ok ([],i)else gu (p i) λa j=>gu (gk stop p n j) λl k=> .ok (a::l,k)
def mP {α:Type}(pre:List α)(r:nI (List α)):nI (List α):=gu r λl k=> .ok (pre++l,k)
def fR (ws:List W)(s:List UInt8)(i:Nat):Bool:=
 match ws[i]? with
 |some x=>x.1.toList==s
 |none=>true
def nJ (ws:List W)(i:Nat):Bool:=
 match ws[i]? with
 |some x=>dJ x.1==4
 |none=>true
def iC (ws:List W)(i:Nat):nI fo:=
 gu (fV ws [111,110,101,111,102] i) λ_ i=>gu (jV ws 1 i) λo i=>gu (fV ws [123] i) λ_ i=>gu (fJ ws 3 i) λf i=>
 gu (mP [f] (gk (fR ws [125]) (fJ ws 3) ws.length i)) λl i=>gu (fV ws [125] i) λ_ i=> .ok (⟨some o,l⟩,i)
def lE (r:nI eF):nI fo:=gu r λf i=> .ok (⟨none,[f]⟩,i)
def jN (ws:List W)(i:Nat):nI fo:=
 if fR ws [111,110,101,111,102] i then iC ws i
 else if fR ws [109,97,112] i then lE (mO ws i)
 else if fR ws [114,101,112,101,97,116,101,100] i then lE (fJ ws 2 (i+1))
 else if fR ws [111,112,116,105,111,110,97,108] i then lE (fJ ws 1 (i+1))
 else lE (fJ ws 0 i)
def gJ (ws:List W)(i:Nat):nI dQ:=
 gu (fV ws [109,101,115,115,97,103,101] i) λ_ i=>gu (jV ws 1 i) λn i=>gu (fV ws [123] i) λ_ i=>
 gu (gk (fR ws [125]) (jN ws) ws.length i) λl i=>gu (fV ws [125] i) λ_ i=> .ok (⟨false,n,l,[]⟩,i)
def ld (ws:List W)(i:Nat):nI dQ:=
 gu (fV ws [101,110,117,109] i) λ_ i=>gu (jV ws 1 i) λn i=>gu (fV ws [123] i) λ_ i=>
 gu (gk (fR ws [125]) (j8 ws) ws.length i) λl i=>gu (fV ws [125] i) λ_ i=> .ok (⟨true,n,[],l⟩,i)
def jr (ws:List W)(i:Nat):nI dQ:=if fR ws [101,110,117,109] i then ld ws i else gJ ws i
def pd (ws:List W):nI (List dQ):=gk (nJ ws) (jr ws) ws.length 0
def On {α:Type}(i:Nat)(r:nI α):Prop:=∀a j,r= .ok (a,j)->i<j
theorem dO {β:Type}{r:nI α}{f:α->Nat->nI β}{b:β}(h:gu r f= .ok (b,k)):∃a j,r= .ok (a,j)/\f a j= .ok (b,k):=by
 cases r with
 |error p=>simp[gu]at h
 |ok x=>exact⟨x.1,x.2,rfl,h⟩
theorem ik (k:Int)(i:Nat):∀a j,jV ws k i= .ok (a,j)->j=i+1/\ws[i]?=some a/\dJ a.1=k:=by
 intro a j h;unfold jV at h
 split at h
 ·split at h
  ·simp at h;obtain⟨rfl,rfl⟩:=h;refine⟨rfl,Uo,by simp_all⟩
  ·simp at h
 ·simp at h
theorem eX (s:List UInt8)(i:Nat):∀a j,fV ws s i= .ok (a,j)->j=i+1/\∃x,ws[i]?=some x/\x.1.toList=s:=by
 intro a j h;unfold fV at h
 split at h
 ·split at h
  ·simp at h;subst h;exact⟨rfl,_,Uo,by simp_all⟩
  ·simp at h
 ·simp at h
theorem lg (i:Nat):∀a j,oM ws i= .ok (a,j)->j=i+1/\ws[i]?=some a/\(dJ a.1=3\/dJ a.1=1):=by
 intro a j h;unfold oM at h
 split at h
 ·split at h
  ·simp at h;obtain⟨rfl,rfl⟩:=h;refine⟨rfl,Uo,by simp_all⟩
  ·simp at h
 ·simp at h
theorem vF (i:Nat):On i (j8 ws i):=by
 intro a j h;unfold j8 at h;have⟨_,i1,h1,h⟩:=dO h;have⟨_,i2,h2,h⟩:=dO h;have⟨_,i3,h3,h⟩:=dO h;have⟨_,i4,h4,h⟩:=dO h;have:=(ik _ _ _ _ _ h1).1;have:=(eX _ _ _ _ _ h2).1;have:=(ik _ _ _ _ _ h3).1;have:=(eX _ _ _ _ _ h4).1;simp at h;omega
theorem kH (form:Int)(i:Nat):On i (fJ ws form i):=by
 intro a j h;unfold fJ at h;have⟨_,i1,h1,h⟩:=dO h;have⟨_,i2,h2,h⟩:=dO h;have:=(lg _ _ _ _ h1).1;have:=vF _ _ _ _ h2;simp at h;omega
theorem MF (i:Nat):On i (mO ws i):=by
 intro a j h;unfold mO at h;have⟨_,i1,h1,h⟩:=dO h;have⟨_,i2,h2,h⟩:=dO h;have⟨_,i3,h3,h⟩:=dO h;have⟨_,i4,h4,h⟩:=dO h;have⟨_,i5,h5,h⟩:=dO h;have⟨_,i6,h6,h⟩:=dO h;have⟨_,i7,h7,h⟩:=dO h;have:=(eX _ _ _ _ _ h1).1;have:=(eX _ _ _ _ _ h2).1;have:=(lg _ _ _ _ h3).1;have:=(eX _ _ _ _ _ h4).1;have:=(lg _ _ _ _ h5).1;have:=(eX _ _ _ _ _ h6).1;have:=vF _ _ _ _ h7;simp at h;omega
theorem rP (stop:Nat->Bool)(p:Nat->nI α)(hp:∀i,On i (p i)):∀n i a j,gk stop p n i= .ok (a,j)->i<=j
 |0,i,a,j,h=>by simp[gk]at h;omega
 |n+1,i,a,j,h=>by
  unfold gk at h
  split at h
  ·simp at h;omega
  ·have⟨_,i1,h1,h⟩:=dO h;have⟨_,i2,h2,h⟩:=dO h;have:=hp _ _ _ h1;have:=rP stop p hp _ _ _ _ h2;simp at h;omega
theorem Hb (i:Nat):On i (iC ws i):=by
 intro a j h;unfold iC at h;have⟨_,i1,h1,h⟩:=dO h;have⟨_,i2,h2,h⟩:=dO h;have⟨_,i3,h3,h⟩:=dO h;have⟨_,i4,h4,h⟩:=dO h;have⟨_,i5,h5,h⟩:=dO h;have⟨_,i6,h6,h⟩:=dO h;have⟨_,i7,h7,h8⟩:=dO h5;have:=(eX _ _ _ _ _ h1).1;have:=(ik _ _ _ _ _ h2).1;have:=(eX _ _ _ _ _ h3).1;have:=kH _ _ _ _ _ h4;have:=rP _ _ (kH ws 3) _ _ _ _ h7;have:=(eX _ _ _ _ _ h6).1;simp at h h8;omega
theorem p8 {r:nI eF}(hr:On i r):On i (lE r):=by
 intro a j h;have⟨_,i1,h1,h⟩:=dO h;have:=hr _ _ h1;simp at h;omega
theorem On.mono {r:nI α}(h:On k r)(hik:i<=k):On i r:=λa j e=>Nat.lt_of_le_of_lt hik (h a j e)
theorem Cw (i:Nat):On i (jN ws i):=by
 unfold jN
 split
 ·exact Hb ws i
 ·split
  ·exact p8 (MF ws i)
  ·split
   ·exact p8 ((kH ws 2 (i+1)).mono Ue)
   ·split
    ·exact p8 ((kH ws 1 (i+1)).mono Ue)
    ·exact p8 (kH ws 0 i)
theorem oq {p:Nat->nI α}{n:Nat}(h:stop i=true):gk stop p n i= .ok ([],i):=by
 cases n with
 |zero=>rfl
 |succ n=>simp[gk,h]
theorem p9 {p:Nat->nI α}{n q:Nat}(h:stop i=false)(hn:0<n)(hp:p i= .error q):gk stop p n i= .error q:=by
 cases n with
 |zero=>omega
 |succ n=>simp[gk,h,hp,gu]
theorem rQ {p:Nat->nI α}{n j:Nat}{a:α}(pre:List α)(h:stop i=false)(hn:0<n)(hp:p i= .ok (a,j)):
  mP pre (gk stop p n i)=mP (pre++ [a]) (gk stop p (n-1) j):=by
 cases n with
 |zero=>omega
 |succ n=>
  simp only[gk,h,hp,gu,Nat.add_sub_cancel]
  cases gk stop p n j<;>simp[mP,gu]
end
section
attribute [local go_sem] jo jp jq
def qG {α:Type}(w:an)(rb wb:Nat)(ws:List W)(r:nI α)(ret:α->an->Ending->Prop)(e:Ending)(w':an):Prop:=
 match r with
 | .ok (a,j)=>ret a w' e/\Rd w' rb wb ws j/\iR w.heap.size rb w w' j
 | .error p=>e=dL 2 p/\∃j,iR w.heap.size rb w w' j
def Rd.word {w:an}{rb wb i:Nat}{ws:List W}(R:Rd w rb wb ws i):∃x,ws[i]?=some x:=⟨_,aK R.lt⟩
def QV (w:an)(rb wb:Nat)(ws:List W)(i:Nat)(k:Int)(R:Rd w rb wb ws i)(hk:k≠4):
  Ua 257 #[ag rb,aa k] w (qG w rb wb ws (jV ws k i) λx _ e=>e= .returned (.agg #[aa (dJ x.1),ae x.1,aa x.2])):=by
 have⟨x,hx⟩:=R.word;unfold jV;simp only[hx]
 by_cases h:dJ x.1=k
 ·rw[dE (by simpa using h)];exact(Pj w rb wb ws i x k R hx (by simp[h]) (rN (by rw[h];exact hk))).mono λe w' h=>h
 ·rw[dD (by simpa using h)];exact(Pk w rb wb ws i x k R hx (by simpa using h)).mono λe w' h=>⟨h.1,_,h.2⟩
def Ep (w:an)(rb wb:Nat)(ws:List W)(i:Nat)(s:am)(l:List UInt8)(R:Rd w rb wb ws i)(hs:s.toList=l)(hl:0<l.length):
  Ua 256 #[ag rb,ae s] w (qG w rb wb ws (fV ws l i) λ_ _ e=>e= .returned (.tuple #[])):=by
 have⟨x,hx⟩:=R.word;unfold fV;simp only[hx]
 by_cases h:(x.1.toList==l)=true
 ·rw[dE h];exact(Ph w rb wb ws i x s R hx (by rw[hs];exact h) (rO h hl)).mono λe w' h=>h
 ·rw[dD h];exact(Pi w rb wb ws i x s R hx (by rw[hs];simpa using h)).mono λe w' h=>⟨h.1,_,h.2⟩
def kT {n rb:Nat}{w w1:an}{j b:Nat}(h:iR n rb w w1 j)(hb:b<n)(hne:b≠rb):(∀off,w1.cell? (ai b off)=w.cell? (ai b off))/\(∀off,w1.frozen? (ai b off)=w.frozen? (ai b off)):=
 ⟨λoff=>h.cell (a:=(ai b off)) hb hne,λoff=>(Below.frozen h (p:=(ai b off)) hb).trans (World.frozen?_setCell _ _ _ _)⟩
def Sh (w:an)(rb wb:Nat)(ws:List W)(i:Nat)(R:Rd w rb wb ws i):
  Calls prog 401 #[ag rb] w (qG w rb wb ws (oM ws i) λx _ e=>e= .returned (.agg #[aa (dJ x.1),ae x.1,aa x.2])):=by
 have⟨x,hx⟩:=R.word;have HX:Hid (ws[i]?=some x):=hx;have B0:=(Uc w).alloc (ay _) (ak #[Value.int IntKind.i64 0,Value.string {data:= #[]},Value.int IntKind.i64 0] 148);have n1:¬w.heap.size=rb:=by have:=R.blocks;omega
 unfold oM;simp only[hx]
 cases h:(dJ x.1==3)
 ·have hk:jV ws 1 i=if dJ x.1==1 then .ok (x,i+1)else .error x.2:=by unfold jV;simp only[hx]
  have HK:=Hid.out (p:=(Bool.false||(dJ x.1==1))=(dJ x.1==1)) (by simp[Hid]);rw[HK];have Ur:Hid (jV ws 1 i=if dJ x.1==1 then .ok (x,i+1)else .error x.2):=hk;clear hx hk HK;go_in
  go_wp2_with fail;refine(Mx _ rb wb ws i x (R.alloc _) HX.out).mono ?_;rintro e w1 ⟨rfl,Uq⟩;have R1:=(R.alloc _).below Uq (R.alloc _).blocks.1 (R.alloc _).blocks.2;have A1:=iR.of_below R.next (B0.trans (Uq.mono Uf));have z1:w.heap.size<w1.heap.size:=by have:=Uq.size;simp at this;omega
  have⟨t1,t2⟩:=p7 Uq (b:=w.heap.size) Uf;go_wp2_with fail;refine(QV _ rb wb ws i 1 R1 Uh).mono ?_;rw[Ur.out]
  cases h1:(dJ x.1==1)
  ·rintro e w2 ⟨rfl,j,A2⟩;unfold dL;go_wp2;exact⟨rfl,rfl,j,A1.trans A2 Ue⟩
  ·rintro e w2 ⟨rfl,R2,A2⟩;have⟨u1,u2⟩:=kT A2 (b:=w.heap.size) z1 n1;have A3:=A1.trans A2 Ue;go_wp2;have A4:=((A3.setCell (a:=(ai w.heap.size 0)) (ay _) (Value.int IntKind.i64 (dJ x.fst))).setCell (a:=(ai w.heap.size 1)) (ay _) (Value.string x.fst)).setCell (a:=(ai w.heap.size 2)) (ay _) (Value.int IntKind.i64 x.snd);refine dG (v:= .agg #[aa (dJ x.1),ae x.1,aa x.2]) ?_ rfl ⟨rfl,?_,A4⟩
   ·simp[results,results401,go_sem, *]
   ·exact A4.rd R R.blocks.1 R.blocks.2 R2.lt
 ·have hp:0<x.1.size:=rN (by simp at h;omega);clear hx;go_in
  go_wp2_with fail;refine(Mx _ rb wb ws i x (R.alloc _) HX.out).mono ?_;rintro e w1 ⟨rfl,Uq⟩;have R1:=(R.alloc _).below Uq (R.alloc _).blocks.1 (R.alloc _).blocks.2;have A1:=iR.of_below R.next (B0.trans (Uq.mono Uf));have z1:w.heap.size<w1.heap.size:=by have:=Uq.size;simp at this;omega
  have⟨t1,t2⟩:=p7 Uq (b:=w.heap.size) Uf;go_wp2_with fail;refine(Q3 _ rb wb ws i x R1 HX.out hp).mono ?_;rintro e w2 ⟨rfl,R2,A2⟩;have⟨u1,u2⟩:=kT A2 (b:=w.heap.size) z1 n1;have A3:=A1.trans A2 Ue;go_wp2;have A4:=((A3.setCell (a:=(ai w.heap.size 0)) (ay _) (Value.int IntKind.i64 (dJ x.fst))).setCell (a:=(ai w.heap.size 1)) (ay _) (Value.string x.fst)).setCell (a:=(ai w.heap.size 2)) (ay _) (Value.int IntKind.i64 x.snd);refine dG (v:= .agg #[aa (dJ x.1),ae x.1,aa x.2]) ?_ rfl ⟨rfl,?_,A4⟩
  ·simp[results,results401,go_sem, *]
  ·exact A4.rd R R.blocks.1 R.blocks.2 R2.lt
def fO {α β:Type}{r:nI α}{f:α->Nat->nI β}{p:Nat}(h:r= .error p):gu r f= .error p:=by rw[h];rfl
def ei {α β:Type}{r:nI α}{f:α->Nat->nI β}{a:α}{j:Nat}(h:r= .ok (a,j)):gu r f=f a j:=by rw[h];rfl
def Si (w:an)(rb wb:Nat)(ws:List W)(i:Nat)(R:Rd w rb wb ws i):
  Calls prog 258 #[ag rb] w (qG w rb wb ws (j8 ws i) λx _ e=>e= .returned (.tuple #[.agg #[aa (dJ x.1.1),ae x.1.1,aa x.1.2],.agg #[aa (dJ x.2.1),ae x.2.1,aa x.2.2]])):=by
 have B0:=((Uc w).alloc (ay _) (ak #[Value.int IntKind.i64 0,Value.string {data:= #[]},Value.int IntKind.i64 0] 148)).alloc Uf (ak #[Value.int IntKind.i64 0,Value.string {data:= #[]},Value.int IntKind.i64 0] 148);have n1:¬w.heap.size=rb:=by have:=R.blocks;omega
 have n2:¬w.heap.size+1=rb:=by have:=R.blocks;omega
 have n3:¬rb=w.heap.size:=by have:=R.blocks;omega
 have n4:¬rb=w.heap.size+1:=by have:=R.blocks;omega
 have R0:=(R.alloc (ak #[Value.int IntKind.i64 0,Value.string {data:= #[]},Value.int IntKind.i64 0] 148)).alloc (ak #[Value.int IntKind.i64 0,Value.string {data:= #[]},Value.int IntKind.i64 0] 148);have A0:=iR.of_below R.next B0;generalize hr:j8 ws i=r;have HR:Hid (j8 ws i=r):=hr;go_in
 go_wp2_with fail;refine(QV _ rb wb ws i 1 R0 Uh).mono ?_
 cases h1:jV ws 1 i with
 |error p=>
  rintro e w1 ⟨rfl,j,A1⟩;obtain rfl:r= .error p:=by rw[<-HR.out,j8,fO h1]
  unfold dL;go_wp2;exact⟨rfl,rfl,j,A0.trans A1 Ug⟩
 |ok q=>
  obtain⟨x,i1⟩:=q;rintro e w1 ⟨rfl,R1,A1⟩;have z1:w.heap.size+1<w1.heap.size:=by have:=A1.size;simp at this;omega
  have⟨t1,t2⟩:=kT A1 (b:=w.heap.size) Ug n1;have⟨t3,t4⟩:=kT A1 (b:=w.heap.size+1) Uf n2;have A2:=((((A0.trans A1 Ug).setCell (a:=(ai w.heap.size 0)) (ay _) (Value.int IntKind.i64 (dJ x.fst))).setCell (a:=(ai w.heap.size 1)) (ay _) (Value.string x.fst)).setCell (a:=(ai w.heap.size 2)) (ay _) (Value.int IntKind.i64 x.snd));have R2:=A2.rd R R.blocks.1 R.blocks.2 R1.lt;go_wp2_with fail;refine(Ep _ rb wb ws i1 _ [61] R2 Ui Uh).mono ?_
  cases h2:fV ws [61] i1 with
  |error p=>
   rintro e w2 ⟨rfl,j,A3⟩;obtain rfl:r= .error p:=by rw[<-HR.out,j8,ei h1,fO h2]
   unfold dL;go_wp2;exact⟨rfl,rfl,j,A2.trans A3 Ug⟩
  |ok q=>
   obtain⟨_,i2⟩:=q;rintro e w2 ⟨rfl,R3,A3⟩;have z2:w.heap.size+1<w2.heap.size:=by have:=A3.size;simp at this;omega
   have⟨s1,s2⟩:=kT A3 (b:=w.heap.size) Ug n1;have⟨s3,s4⟩:=kT A3 (b:=w.heap.size+1) Ug n2;have A4:=A2.trans A3 Ug;have k0:w2.cell? (ai w.heap.size 0)=some (aa (dJ x.1)):=by simp[go_sem,s1,t1]
   have k1:w2.cell? (ai w.heap.size 1)=some (ae x.1):=by simp[go_sem,s1,t1]
   have k2:w2.cell? (ai w.heap.size 2)=some (aa x.2):=by simp[go_sem,s1,t1]
   have k3:∀off,w2.frozen? (ai w.heap.size off)=false:=by simp[go_sem,s2,t2]
   have k4:∀off,w2.frozen? (ai (w.heap.size+1) off)=false:=by simp[go_sem,s4,t4]
   have k5:w2.cell? (ai (w.heap.size+1) 0)=some (aa 0):=by simp[go_sem,s3,t3]
   have k6:w2.cell? (ai (w.heap.size+1) 1)=some (T9):=by simp[go_sem,s3,t3]
   have k7:w2.cell? (ai (w.heap.size+1) 2)=some (aa 0):=by simp[go_sem,s3,t3]
   go_wp2_with fail;refine(QV _ rb wb ws i2 2 R3 Uh).mono ?_
   cases h3:jV ws 2 i2 with
   |error p=>
    rintro e w3 ⟨rfl,j,A5⟩;obtain rfl:r= .error p:=by rw[<-HR.out,j8,ei h1,ei h2,fO h3]
    unfold dL;go_wp2;exact⟨rfl,rfl,j,A4.trans A5 Ue⟩
   |ok q=>
    obtain⟨y,i3⟩:=q;rintro e w3 ⟨rfl,R5,A5⟩;have z3:w.heap.size+1<w3.heap.size:=by have:=A5.size;omega
    have⟨v1,v2⟩:=kT A5 (b:=w.heap.size) Ue n1;have⟨v3,v4⟩:=kT A5 (b:=w.heap.size+1) Ue n2;have A6:=((((A4.trans A5 Ue).setCell (a:=(ai (w.heap.size+1) 0)) (bT _) (Value.int IntKind.i64 (dJ y.fst))).setCell (a:=(ai (w.heap.size+1) 1)) (bT _) (Value.string y.fst)).setCell (a:=(ai (w.heap.size+1) 2)) (bT _) (Value.int IntKind.i64 y.snd));have R6:=A6.rd R R.blocks.1 R.blocks.2 R5.lt;go_wp2_with fail;refine(Ep _ rb wb ws i3 _ [59] R6 Ui Uh).mono ?_
    cases h4:fV ws [59] i3 with
    |error p=>
     rintro e w4 ⟨rfl,j,A7⟩;obtain rfl:r= .error p:=by rw[<-HR.out,j8,ei h1,ei h2,ei h3,fO h4]
     unfold dL;go_wp2;exact⟨rfl,rfl,j,A6.trans A7 Ug⟩
    |ok q=>
     obtain⟨_,i4⟩:=q;rintro e w4 ⟨rfl,R7,A7⟩;have z4:w.heap.size+1<w4.heap.size:=by have:=A7.size;simp at this;omega
     have⟨x1,x2⟩:=kT A7 (b:=w.heap.size) Ug n1;have⟨x3,x4⟩:=kT A7 (b:=w.heap.size+1) Ug n2;have A8:=A6.trans A7 Ug;have m0:w4.cell? (ai w.heap.size 0)=some (aa (dJ x.1)):=by simp[go_sem,x1,v1,k0]
     have m1:w4.cell? (ai w.heap.size 1)=some (ae x.1):=by simp[go_sem,x1,v1,k1]
     have m2:w4.cell? (ai w.heap.size 2)=some (aa x.2):=by simp[go_sem,x1,v1,k2]
     have m3:∀off,w4.frozen? (ai w.heap.size off)=false:=by simp[go_sem,x2,v2,k3]
     have m4:∀off,w4.frozen? (ai (w.heap.size+1) off)=false:=by simp[go_sem,x4,v4,k4]
     have m5:w4.cell? (ai (w.heap.size+1) 0)=some (aa (dJ y.1)):=by simp[go_sem,x3,v3,k5]
     have m6:w4.cell? (ai (w.heap.size+1) 1)=some (ae y.1):=by simp[go_sem,x3,v3,k6]
     have m7:w4.cell? (ai (w.heap.size+1) 2)=some (aa y.2):=by simp[go_sem,x3,v3,k7]
     clear x1 x2 x3 x4 v1 v2 v3 v4 k0 k1 k2 k3 k4 k5 k6 k7;obtain rfl:r= .ok ((x,y),i4):=by rw[<-HR.out,j8,ei h1,ei h2,ei h3,ei h4]
     go_wp2;go_region
     have A9:=((((((A8.setCell (a:=(ai w.heap.size 0)) (ay _) (Value.int IntKind.i64 (dJ x.fst))).setCell (a:=(ai w.heap.size 1)) (ay _) (Value.string x.fst)).setCell (a:=(ai w.heap.size 2)) (ay _) (Value.int IntKind.i64 x.snd)).setCell (a:=(ai (w.heap.size+1) 0)) (bT _) (Value.int IntKind.i64 (dJ y.fst))).setCell (a:=(ai (w.heap.size+1) 1)) (bT _) (Value.string y.fst)).setCell (a:=(ai (w.heap.size+1) 2)) (bT _) (Value.int IntKind.i64 y.snd)).drew;go_wp2;refine dG (v:= .tuple #[.agg #[aa (dJ x.1),ae x.1,aa x.2],.agg #[aa (dJ y.1),ae y.1,aa y.2]]) ?_ rfl ⟨rfl,?_,A9⟩
     ·simp[results,results258,go_sem, *]
     ·exact A9.rd R R.blocks.1 R.blocks.2 R7.lt
end
def dM (w:an)(b:Nat)(cs:Array Value)(T:TypeId):Prop:=w.heap[b]?=some (.cells cs T (0,0))
def dI {a b c:an}(h:Below a.heap.size a b)(k:Below b.heap.size b c):Below a.heap.size a c:=
 h.trans ⟨k.os,k.tape,k.output,k.size,λi hi=>k.block i (aD hi h.size)⟩
def dM.new (w:an)(cs:Array Value)(T:TypeId):dM (w.alloc (.cells cs T)) w.heap.size cs T:=heap_alloc_new w _
def dM.lt {w:an}{b:Nat}{cs:Array Value}{T:TypeId}(h:dM w b cs T):b<w.heap.size:=by
 unfold dM at h
 by_cases hb:b<w.heap.size
 ·exact hb
 ·rw[cE Ue]at h;cases h
def dS (w:an)(cs:Array Value)(T:TypeId):aj w (w.alloc (Obj.cells cs T))/\dM (w.alloc (Obj.cells cs T)) w.heap.size cs T:=⟨(Below.refl _ _).alloc (ay _) _,dM.new w cs T⟩
def dM.alloc {w:an}{b:Nat}{cs:Array Value}{T:TypeId}(h:dM w b cs T)(o:Obj):dM (w.alloc o) b cs T:=(Below.heap_alloc w o b h.lt).trans h
def dM.below {w w1:an}{n b:Nat}{cs:Array Value}{T:TypeId}(h:dM w b cs T)(hb:Below n w w1)(hn:b<n):dM w1 b cs T:=(hb.block b hn).trans h
def dM.adv_ {w w1:an}{n rb j b:Nat}{cs:Array Value}{T:TypeId}(h:dM w b cs T)(ha:iR n rb w w1 j)(hn:b<n)(hne:b≠rb):dM w1 b cs T:=by
 unfold dM at*;rw[Below.block ha b hn,Go.Proofs.YtfebdimolnobaaaGreatDoor.Cn,dK,dD (λe=>hne e.symm)];exact h
def dM.set {w:an}{b:Nat}{cs:Array Value}{T:TypeId}(h:dM w b cs T)(off:Nat)(v:Value):dM (w.setCell (ai b off) v) b (cs.setIfInBounds off v) T:=by
 unfold dM at*;rw[dK,dE rfl,h];rfl
def dM.other {w:an}{b:Nat}{cs:Array Value}{T:TypeId}(h:dM w b cs T){c:Nat}(off:Nat)(v:Value)(hne:c≠b):dM (w.setCell (ai c off) v) b cs T:=by
 unfold dM at*;rw[dK,dD hne,h]
def dM.drew {w:an}{b:Nat}{cs:Array Value}{T:TypeId}(h:dM w b cs T):dM w.drew b cs T:=h
def dM.grown {w w1:an}{row:Option Nat}{b:Nat}{cs:Array Value}{T:TypeId}(h:dM w b cs T)(hg:w.grownBy w1 row)(hne:some b≠row):dM w1 b cs T:=(hg.block b h.lt hne).trans h
def dM.cell {w:an}{b:Nat}{cs:Array Value}{T:TypeId}(h:dM w b cs T)(off:Nat):w.cell? (ai b off)=cs[off]?:=by
 unfold dM at h;simp[World.cell?,h]
def dM.rules {w:an}{b:Nat}{cs:Array Value}{T:TypeId}(h:dM w b cs T):(∀off,w.cell? (ai b off)=cs[off]?)/\(∀off,w.frozen? (ai b off)=false):=by
 refine⟨h.cell,λoff=> ?_⟩;unfold dM at h;simp[World.frozen?,h]
def iR.sets {w w':an}{n rb j:Nat}(h:iR n rb w w' j){b:Nat}(hb:n<=b):∀(vs:aq) (o:Nat),iR n rb w (w'.setCells b o vs) j
 | [],o=>h
 |v::vs,o=>by
  have:=iR.sets (h.setCell (a:=(ai b o)) hb v) hb vs (o+1);simpa [World.setCells]using this
def dM.sets_other {w:an}{b:Nat}{cs:Array Value}{T:TypeId}(h:dM w b cs T){c:Nat}(hne:c≠b):∀(vs:aq) (o:Nat),dM (w.setCells c o vs) b cs T
 | [],o=>h
 |v::vs,o=>by
  have:=dM.sets_other (h.other o v hne) hne vs (o+1);simpa [World.setCells]using this
def dM.sets {w:an}{b:Nat}{T:TypeId}:∀(vs pre old post:aq),dM w b (pre++old++post).toArray T->vs.length=old.length->dM (w.setCells b pre.length vs) b (pre++vs++post).toArray T
 | [],pre,old,post,h,hl=>by
  have:old= []:=bC hl.symm;subst this;simpa [World.setCells]using h
 |v::vs,pre,[],post,h,hl=>by simp at hl
 |v::vs,pre,o::old,post,h,hl=>by
  have h1:=h.set pre.length v
  have e:((pre++o::old++post).toArray).setIfInBounds pre.length v=((pre++ [v])++old++post).toArray:=by
   simp[List.set_append_right]
  rw[e]at h1;have:=dM.sets vs (pre++ [v]) old post h1 (by simpa using hl);simpa [World.setCells]using this
def dM.sets_all {w:an}{b:Nat}{cs:Array Value}{T:TypeId}(h:dM w b cs T)(vs:aq)(hl:vs.length=cs.size):dM (w.setCells b 0 vs) b vs.toArray T:=by
 have:=dM.sets vs [] cs.toList [] (w:=w) (b:=b) (T:=T) (by simpa using h) (by simpa using hl);simpa using this
def ec {fn:Func}{p:Tmp}{ty:TypeId}{b:Nat}{cs:Array Value}{fs:Array Field}(h:fn.results= #[.cell p ty])(tmps:Array Value)(W:an)(hp:tmps.getD p undef=ag b)(K:dM W b cs ty)
  (hu:prog.underlying ty=some (.struct fs)) (hi:(prog.info? ty).map (·.size)=some cs.size):
  (results fn tmps).run prog W= .ok (.agg cs) W:=by
 have hl:=run_loadVar_row (P:=prog) W b ty ty cs (0,0) _ K hu rfl hi;have Uq:tmps[p]?.getD undef=ag b:=by simpa using hp
 simp only[results,h];simp[Uq,asAddr,hl]
section
attribute [local go_sem] jo jp jq
def MG:Option W->aq
 |some x=>wA x
 |none=> [aa 0,T9,aa 0]
def rL (f:eF):aq:=aa f.form::(MG f.key++wA f.type++wA f.name++wA f.num)
def RV (w:an)(rb wb:Nat)(ws:List W)(i:Nat)(form:Int)(R:Rd w rb wb ws i):
  Calls prog 341 #[ag rb,aa form] w (qG w rb wb ws (fJ ws form i) λf _ e=>e= .returned (.agg (rL f).toArray)):=by
 have⟨B0,K0⟩:=dS w #[aa 0,aa 0,T9,aa 0,aa 0,T9,aa 0,aa 0,T9,aa 0,aa 0,T9,aa 0] 211;have R0:=R.alloc (ak #[aa 0,aa 0,T9,aa 0,aa 0,T9,aa 0,aa 0,T9,aa 0,aa 0,T9,aa 0] 211);have n1:¬w.heap.size=rb:=by have:=R.blocks;omega
 have n3:¬rb=w.heap.size:=by have:=R.blocks;omega
 have A0:=iR.of_below R.next B0;generalize hr:fJ ws form i=r;have HR:Hid (fJ ws form i=r):=hr;clear hr;go_in
 go_wp2_with fail;refine(Sh _ rb wb ws i R0).mono ?_
 cases h1:oM ws i with
 |error p=>
  rintro e w1 ⟨rfl,j,A1⟩;obtain rfl:r= .error p:=by rw[<-HR.out,fJ,fO h1]
  unfold dL;go_wp2;exact⟨rfl,rfl,j,A0.trans A1 Uf⟩
 |ok q=>
  obtain⟨x,i1⟩:=q;rintro e w1 ⟨rfl,R1,A1⟩;have z1:w.heap.size<w1.heap.size:=by have:=A1.size;simp at this;omega
  have n5:¬w1.heap.size=rb:=by have:=R.blocks;omega
  have n6:¬rb=w1.heap.size:=Ue;have n7:¬w1.heap.size=w.heap.size:=Ue;have n8:¬w.heap.size=w1.heap.size:=Ue;have K1:=K0.adv_ A1 Uf n1;have A2:=A0.trans A1 Uf;clear A1 R0;go_wp2_with fail;refine(Si _ rb wb ws i1 (R1.alloc _)).mono ?_
  cases h2:j8 ws i1 with
  |error p=>
   rintro e w2 ⟨rfl,j,A3⟩;obtain rfl:r= .error p:=by rw[<-HR.out,fJ,ei h1,fO h2]
   unfold dL;go_wp2;exact⟨rfl,rfl,j,(A2.alloc (ay _) _).trans A3 Ug⟩
  |ok q=>
   obtain⟨y,i2⟩:=q;rintro e w2 ⟨rfl,R3,A3⟩;have z2:w1.heap.size<w2.heap.size:=by have:=A3.size;simp at this;omega
   have K2:=(K1.alloc _).adv_ A3 Ug n1;have J2:=(dM.new _ _ _).adv_ A3 Uf n5;have A4:=(A2.alloc (ay _) _).trans A3 Ug;have⟨k1,k2⟩:=K2.rules;have⟨j1,j2⟩:=J2.rules;obtain rfl:r= .ok (⟨form,none,x,y.1,y.2⟩,i2):=by rw[<-HR.out,fJ,ei h1,ei h2]
   clear R1 K1 A3 A2;go_wp2;have A5:=(A4.sets (b:=w1.heap.size) Ue (wA y.1++wA y.2) 7).sets (b:=w.heap.size) (ay _) (rL ⟨form,none,x,y.1,y.2⟩) 0;have K5:=(K2.sets_other (c:=w1.heap.size) n7 (wA y.1++wA y.2) 7).sets_all (rL ⟨form,none,x,y.1,y.2⟩) rfl;refine dG (ec results341 _ _ rfl K5 underlying211 Uj) rfl ⟨rfl,?_,A5⟩;exact A5.rd R R.blocks.1 R.blocks.2 R3.lt
def Tv (w:an)(rb wb:Nat)(ws:List W)(i:Nat)(R:Rd w rb wb ws i):
  Calls prog 340 #[ag rb] w (qG w rb wb ws (mO ws i) λf _ e=>e= .returned (.agg (rL f).toArray)):=by
 have A0:iR w.heap.size rb w ((w.alloc (ak #[aa 0,aa 0,T9,aa 0,aa 0,T9,aa 0,aa 0,T9,aa 0,aa 0,T9,aa 0] 211)).alloc (ak #[aa 4,aa 0,T9,aa 0,aa 0,T9,aa 0,aa 0,T9,aa 0,aa 0,T9,aa 0] 211)) i:=iR.of_below R.next ((Ud w _).alloc Uf _);have R0:=(R.alloc (ak #[aa 0,aa 0,T9,aa 0,aa 0,T9,aa 0,aa 0,T9,aa 0,aa 0,T9,aa 0] 211)).alloc (ak #[aa 4,aa 0,T9,aa 0,aa 0,T9,aa 0,aa 0,T9,aa 0,aa 0,T9,aa 0] 211);have K0:=(dM.new w #[aa 0,aa 0,T9,aa 0,aa 0,T9,aa 0,aa 0,T9,aa 0,aa 0,T9,aa 0] 211).alloc (ak #[aa 4,aa 0,T9,aa 0,aa 0,T9,aa 0,aa 0,T9,aa 0,aa 0,T9,aa 0] 211)
 have J0:dM ((w.alloc (ak #[aa 0,aa 0,T9,aa 0,aa 0,T9,aa 0,aa 0,T9,aa 0,aa 0,T9,aa 0] 211)).alloc (ak #[aa 4,aa 0,T9,aa 0,aa 0,T9,aa 0,aa 0,T9,aa 0,aa 0,T9,aa 0] 211)) (w.heap.size+1) #[aa 4,aa 0,T9,aa 0,aa 0,T9,aa 0,aa 0,T9,aa 0,aa 0,T9,aa 0] 211:=by
  have:=dM.new (w.alloc (ak #[aa 0,aa 0,T9,aa 0,aa 0,T9,aa 0,aa 0,T9,aa 0,aa 0,T9,aa 0] 211)) #[aa 4,aa 0,T9,aa 0,aa 0,T9,aa 0,aa 0,T9,aa 0,aa 0,T9,aa 0] 211;simpa using this
 have n1:¬w.heap.size=rb:=by have:=R.blocks;omega
 have n2:¬w.heap.size+1=rb:=by have:=R.blocks;omega
 have n3:¬rb=w.heap.size:=Ue;have n4:¬rb=w.heap.size+1:=Ue;have z0:w.heap.size+1<((w.alloc (ak #[aa 0,aa 0,T9,aa 0,aa 0,T9,aa 0,aa 0,T9,aa 0,aa 0,T9,aa 0] 211)).alloc (ak #[aa 4,aa 0,T9,aa 0,aa 0,T9,aa 0,aa 0,T9,aa 0,aa 0,T9,aa 0] 211)).heap.size:=Uf;generalize hr:mO ws i=r;have HR:Hid (mO ws i=r):=hr;clear hr;go_in
 have⟨k1,k2⟩:=K0.rules;have⟨j1,j2⟩:=J0.rules;go_wp2_with fail;clear k1 k2 j1 j2;refine(Ep _ rb wb ws i _ [109,97,112] R0 Ui Uh).mono ?_
 cases h1:fV ws [109,97,112] i with
 |error p=>
  rintro e w1 ⟨rfl,j,A⟩;obtain rfl:r= .error p:=by rw[<-HR.out,mO,fO h1]
  unfold dL;go_wp2;exact⟨rfl,rfl,j,A0.trans A Ue⟩
 |ok q=>
  obtain⟨_,i1⟩:=q;rintro e w1 ⟨rfl,R1,A⟩;have z1:w.heap.size+1<w1.heap.size:=aD z0 A.size;have K1:=K0.adv_ A Ue n1;have J1:=J0.adv_ A z0 n2;have A1:=A0.trans A Ue;clear A R0 K0 J0 A0 z0;have⟨k1,k2⟩:=K1.rules;have⟨j1,j2⟩:=J1.rules;go_wp2_with fail;clear k1 k2 j1 j2;refine(Ep _ rb wb ws i1 _ [60] R1 Ui Uh).mono ?_
  cases h2:fV ws [60] i1 with
  |error p=>
   rintro e w2 ⟨rfl,j,A⟩;obtain rfl:r= .error p:=by rw[<-HR.out,mO,ei h1,fO h2]
   unfold dL;go_wp2;exact⟨rfl,rfl,j,A1.trans A Ue⟩
  |ok q=>
   obtain⟨_,i2⟩:=q;rintro e w2 ⟨rfl,R2,A⟩;have z2:w.heap.size+1<w2.heap.size:=aD z1 A.size;have K2:=K1.adv_ A Ue n1;have J2:=J1.adv_ A z1 n2;have A2:=A1.trans A Ue;clear A R1 K1 J1 A1 z1;have⟨k1,k2⟩:=K2.rules;have⟨j1,j2⟩:=J2.rules;go_wp2_with fail;clear k1 k2 j1 j2;refine(Sh _ rb wb ws i2 R2).mono ?_
   cases h3:oM ws i2 with
   |error p=>
    rintro e w3 ⟨rfl,j,A⟩;obtain rfl:r= .error p:=by rw[<-HR.out,mO,ei h1,ei h2,fO h3]
    unfold dL;go_wp2;exact⟨rfl,rfl,j,A2.trans A Ue⟩
   |ok q=>
    obtain⟨k,i3⟩:=q;rintro e w3 ⟨rfl,R3,A⟩;have z3:w.heap.size+1<w3.heap.size:=aD z2 A.size;have K3:=K2.adv_ A Ue n1;have J3:=J2.adv_ A z2 n2;have A3:=A2.trans A Ue;clear A R2 K2 J2 A2 z2;have Uq:=A3.sets (b:=w.heap.size+1) Ue [aa (dJ k.1),ae k.1,aa k.2] 1;have Uu:=Uq.rd R R.blocks.1 R.blocks.2 R3.lt;have Uv:=K3.sets_other (c:=w.heap.size+1) Ue [aa (dJ k.1),ae k.1,aa k.2] 1;have Uw:dM (w3.setCells (w.heap.size+1) 1 [aa (dJ k.1),ae k.1,aa k.2]) (w.heap.size+1) #[aa 4,aa (dJ k.1),ae k.1,aa k.2,aa 0,T9,aa 0,aa 0,T9,aa 0,aa 0,T9,aa 0] 211:=dM.sets [aa (dJ k.1),ae k.1,aa k.2] [aa 4] [aa 0,T9,aa 0] [aa 0,T9,aa 0,aa 0,T9,aa 0,aa 0,T9,aa 0] J3 rfl;have Us:w.heap.size+1<(w3.setCells (w.heap.size+1) 1 [aa (dJ k.1),ae k.1,aa k.2]).heap.size:=by simpa [World.setCells,World.setCell]using z3
    have⟨k1,k2⟩:=K3.rules;have⟨j1,j2⟩:=J3.rules;clear A3 R3 K3 z3;go_wp2_with fail;clear k1 k2 j1 j2 J3;refine(Ep _ rb wb ws i3 _ [44] Uu Ui Uh).mono ?_
    cases h4:fV ws [44] i3 with
    |error p=>
     rintro e w4 ⟨rfl,j,A⟩;obtain rfl:r= .error p:=by rw[<-HR.out,mO,ei h1,ei h2,ei h3,fO h4]
     unfold dL;go_wp2;exact⟨rfl,rfl,j,Uq.trans A Ue⟩
    |ok q=>
     obtain⟨_,i4⟩:=q;rintro e w4 ⟨rfl,R4,A⟩;have z4:w.heap.size+1<w4.heap.size:=aD Us A.size;have K4:=Uv.adv_ A Ue n1;have J4:=Uw.adv_ A Us n2;have A4:=Uq.trans A Ue;clear A Uu Uv Uw Uq Us;have⟨k1,k2⟩:=K4.rules;have⟨j1,j2⟩:=J4.rules;go_wp2_with fail;clear k1 k2 j1 j2;refine(Sh _ rb wb ws i4 R4).mono ?_
     cases h5:oM ws i4 with
     |error p=>
      rintro e w5 ⟨rfl,j,A⟩;obtain rfl:r= .error p:=by rw[<-HR.out,mO,ei h1,ei h2,ei h3,ei h4,fO h5]
      unfold dL;go_wp2;exact⟨rfl,rfl,j,A4.trans A Ue⟩
     |ok q=>
      obtain⟨t,i5⟩:=q;rintro e w5 ⟨rfl,R5,A⟩;have z5:w.heap.size+1<w5.heap.size:=aD z4 A.size;have K5:=K4.adv_ A Ue n1;have J5:=J4.adv_ A z4 n2;have A5:=A4.trans A Ue;clear A R4 K4 J4 A4 z4;have Ur:=A5.sets (b:=w.heap.size+1) Ue [aa (dJ t.1),ae t.1,aa t.2] 4;have Ux:=Ur.rd R R.blocks.1 R.blocks.2 R5.lt;have Uy:=K5.sets_other (c:=w.heap.size+1) Ue [aa (dJ t.1),ae t.1,aa t.2] 4;have Uz:dM (w5.setCells (w.heap.size+1) 4 [aa (dJ t.1),ae t.1,aa t.2]) (w.heap.size+1) #[aa 4,aa (dJ k.1),ae k.1,aa k.2,aa (dJ t.1),ae t.1,aa t.2,aa 0,T9,aa 0,aa 0,T9,aa 0] 211:=dM.sets [aa (dJ t.1),ae t.1,aa t.2] [aa 4,aa (dJ k.1),ae k.1,aa k.2] [aa 0,T9,aa 0] [aa 0,T9,aa 0,aa 0,T9,aa 0] J5 rfl;have Ut:w.heap.size+1<(w5.setCells (w.heap.size+1) 4 [aa (dJ t.1),ae t.1,aa t.2]).heap.size:=by simpa [World.setCells,World.setCell]using z5
      have⟨k1,k2⟩:=K5.rules;have⟨j1,j2⟩:=J5.rules;clear A5 R5 K5 z5;go_wp2_with fail;clear k1 k2 j1 j2 J5;refine(Ep _ rb wb ws i5 _ [62] Ux Ui Uh).mono ?_
      cases h6:fV ws [62] i5 with
      |error p=>
       rintro e w6 ⟨rfl,j,A⟩;obtain rfl:r= .error p:=by rw[<-HR.out,mO,ei h1,ei h2,ei h3,ei h4,ei h5,fO h6]
       unfold dL;go_wp2;exact⟨rfl,rfl,j,Ur.trans A Ue⟩
      |ok q=>
       obtain⟨_,i6⟩:=q;rintro e w6 ⟨rfl,R6,A⟩;have z6:w.heap.size+1<w6.heap.size:=aD Ut A.size;have K6:=Uy.adv_ A Ue n1;have J6:=Uz.adv_ A Ut n2;have A6:=Ur.trans A Ue;clear A Ux Uy Uz Ur Ut;have⟨k1,k2⟩:=K6.rules;have⟨j1,j2⟩:=J6.rules;go_wp2_with fail;clear k1 k2 j1 j2;refine(Si _ rb wb ws i6 R6).mono ?_
       cases h7:j8 ws i6 with
       |error p=>
        rintro e w7 ⟨rfl,j,A⟩;obtain rfl:r= .error p:=by rw[<-HR.out,mO,ei h1,ei h2,ei h3,ei h4,ei h5,ei h6,fO h7]
        unfold dL;go_wp2;exact⟨rfl,rfl,j,A6.trans A Ue⟩
       |ok q=>
        obtain⟨y,i7⟩:=q;rintro e w7 ⟨rfl,R7,A⟩;have z7:w.heap.size+1<w7.heap.size:=aD z6 A.size;have K7:=K6.adv_ A Ue n1;have J7:=J6.adv_ A z6 n2;have A7:=A6.trans A Ue;clear A R6 K6 J6 A6 z6;have UA:=A7.sets (b:=w.heap.size+1) Ue [aa (dJ y.1.1),ae y.1.1,aa y.1.2,aa (dJ y.2.1),ae y.2.1,aa y.2.2] 7;have UB:=UA.rd R R.blocks.1 R.blocks.2 R7.lt;have UC:=K7.sets_other (c:=w.heap.size+1) Ue [aa (dJ y.1.1),ae y.1.1,aa y.1.2,aa (dJ y.2.1),ae y.2.1,aa y.2.2] 7;have J7s:dM (w7.setCells (w.heap.size+1) 7 [aa (dJ y.1.1),ae y.1.1,aa y.1.2,aa (dJ y.2.1),ae y.2.1,aa y.2.2]) (w.heap.size+1) #[aa 4,aa (dJ k.1),ae k.1,aa k.2,aa (dJ t.1),ae t.1,aa t.2,aa (dJ y.1.1),ae y.1.1,aa y.1.2,aa (dJ y.2.1),ae y.2.1,aa y.2.2] 211:=dM.sets [aa (dJ y.1.1),ae y.1.1,aa y.1.2,aa (dJ y.2.1),ae y.2.1,aa y.2.2] [aa 4,aa (dJ k.1),ae k.1,aa k.2,aa (dJ t.1),ae t.1,aa t.2] [aa 0,T9,aa 0,aa 0,T9,aa 0] [] J7 rfl;have z7s:w.heap.size+1<(w7.setCells (w.heap.size+1) 7 [aa (dJ y.1.1),ae y.1.1,aa y.1.2,aa (dJ y.2.1),ae y.2.1,aa y.2.2]).heap.size:=by simpa [World.setCells,World.setCell]using z7
        have⟨k1,k2⟩:=K7.rules;have⟨j1,j2⟩:=J7.rules;obtain rfl:r= .ok (⟨4,some k,t,y.1,y.2⟩,i7):=by rw[<-HR.out,mO,ei h1,ei h2,ei h3,ei h4,ei h5,ei h6,ei h7]
        go_wp2;have A9:=UA.sets (b:=w.heap.size) (ay _) (rL ⟨4,some k,t,y.1,y.2⟩) 0;have K9:=UC.sets_all (rL ⟨4,some k,t,y.1,y.2⟩) rfl;refine dG (ec results340 _ _ rfl K9 underlying211 Uj) rfl ⟨rfl,?_,A9⟩;exact A9.rd R R.blocks.1 R.blocks.2 UB.lt
end
section
variable {w:an} {i base k m j:Nat} {ws:List W} {T:TypeId} {v:Value} {xs:aq} {form:Int}
attribute [local go_sem] jo jp jq
theorem Sj (w:an)(v0 v1 v2 v3 v4 v5 v6 v7 v8 v9 v10 v11 v12:Value):
  Calls prog 339 #[.agg #[v0,v1,v2,v3,v4,v5,v6,v7,v8,v9,v10,v11,v12]] w λe w'=>∃fv,e= .returned (.agg #[aa 0,T9,aa 0,fv])/\w'.ownsRow w.heap.size 211 13 fv 1 [v0,v1,v2,v3,v4,v5,v6,v7,v8,v9,v10,v11,v12]/\aj w w':=by
 go_in
 go_wp2
 have K:dM (((w.alloc (ak #[v0,v1,v2,v3,v4,v5,v6,v7,v8,v9,v10,v11,v12] 211)).alloc (ak #[aa 0,T9,aa 0,Ub (w.heap.size+1+1) 1 1] 208)).alloc (ak #[v0,v1,v2,v3,v4,v5,v6,v7,v8,v9,v10,v11,v12] 211)) (w.heap.size+1) #[aa 0,T9,aa 0,Ub (w.heap.size+1+1) 1 1] 208:=by
  have:=(dM.new (w.alloc (ak #[v0,v1,v2,v3,v4,v5,v6,v7,v8,v9,v10,v11,v12] 211)) #[aa 0,T9,aa 0,Ub (w.heap.size+1+1) 1 1] 208).alloc (ak #[v0,v1,v2,v3,v4,v5,v6,v7,v8,v9,v10,v11,v12] 211);simpa using this
 refine dG (ec results339 _ _ rfl K underlying208 Uj) rfl ⟨_,rfl,⟨rfl,.inr ⟨w.heap.size+1+1,1,#[v0,v1,v2,v3,v4,v5,v6,v7,v8,v9,v10,v11,v12],rfl,Ue,?_,Ue,Ul,rfl,rfl⟩⟩,?_⟩
 ·have:=dM.new ((w.alloc (ak #[v0,v1,v2,v3,v4,v5,v6,v7,v8,v9,v10,v11,v12] 211)).alloc (ak #[aa 0,T9,aa 0,Ub (w.heap.size+1+1) 1 1] 208)) #[v0,v1,v2,v3,v4,v5,v6,v7,v8,v9,v10,v11,v12] 211;simpa [dM]using this
 ·exact(((Below.refl _ _).alloc (ay _) _).alloc Uf _).alloc Ug _
theorem Tw (w:an)(f:eF):
  Ua 339 #[.agg (rL f).toArray] w λe w'=>∃fv,e= .returned (.agg #[aa 0,T9,aa 0,fv])/\w'.ownsRow w.heap.size 211 13 fv 1 (rL f)/\aj w w':=by
 obtain⟨form,key,ty,nm,nu⟩:=f
 cases key<;>exact Sj w _ _ _ _ _ _ _ _ _ _ _ _ _
theorem Rd.drew {rb wb:Nat}(R:Rd w rb wb ws i):Rd w.drew rb wb ws i:=
 R.below (Uc w).drew R.blocks.1 R.blocks.2
def iS (rb:Nat)(w:an):Nat:=
 match w.cell? (ai rb 1)with
 |some v=>(intOf v).toNat
 |none=>0
theorem Rd.nextOf {rb wb:Nat}(R:Rd w rb wb ws i):Go.Proofs.YtfebdimolnobaaaGreatDoor.iS rb w=i:=by
 simp[Go.Proofs.YtfebdimolnobaaaGreatDoor.iS,R.next,intOf]
theorem eH {w1:an}(hb:aj w w1)(h:w.ownsRow base T k v m xs):w1.ownsRow base T k v m xs:=by
 refine⟨h.1,?_⟩
 rcases h.2 with h2|⟨g,cap,Uq,h2,h3,h4,h5⟩
 ·exact .inl h2
 ·exact .inr ⟨g,cap,Uq,h2,h3,(hb.block g (dM.lt h4)).trans h4,h5⟩
theorem js {w1:an}{n rb:Nat}(ha:iR n rb w w1 j)(hn:w.heap.size<=n)(hrb:rb<base)(h:w.ownsRow base T k v m xs):w1.ownsRow base T k v m xs:=by
 refine⟨h.1,?_⟩
 rcases h.2 with h2|⟨g,cap,Uq,h2,h3,h4,h5⟩
 ·exact .inl h2
 ·exact .inr ⟨g,cap,Uq,h2,h3,dM.adv_ h4 ha (aD (dM.lt h4) hn) Ue,h5⟩
theorem ot (h:w.ownsRow base T k v m xs):w.drew.ownsRow base T k v m xs:=h
theorem ou {lo:Nat}(h:w.ownsRow base T k v m xs)(hl:lo<=base):w.ownsRow lo T k v m xs:=by
 refine⟨h.1,?_⟩
 rcases h.2 with h2|⟨g,cap,Uq,h2,h3,h4,h5⟩
 ·exact .inl h2
 ·exact .inr ⟨g,cap,Uq,h2,aG hl h3,h4,h5⟩
theorem jC {lo:Nat}(h:w.ownsRow base T k v m xs){b:Nat}(hb:b<base)(hl:lo<=base)(vs:aq)(o:Nat):(w.setCells b o vs).ownsRow lo T k v m xs:=by
 refine⟨h.1,?_⟩
 rcases h.2 with h2|⟨g,cap,Uq,h2,h3,h4,h5⟩
 ·exact .inl h2
 ·exact .inr ⟨g,cap,Uq,h2,aG hl h3,dM.sets_other (b:=g) h4 Ue vs o,h5⟩
theorem dN (h:w.ownsRow base T k v m xs):∃a n c,v= .slice a n c:=by
 rcases h.2 with⟨h2,_⟩|⟨g,cap,Uq,h2,h3⟩
 ·exact⟨_,_,_,h2⟩
 ·exact⟨_,_,_,h2⟩
theorem MH (f:eF):(rL f).length=13:=by
 obtain⟨form,key,ty,nm,nu⟩:=f
 cases key<;>rfl
theorem Tryz.info211:(prog.info? 211).map (λi=>(i.zero,i.size,i.bytes))=some (some (.agg #[aa 0,aa 0,T9,aa 0,aa 0,T9,aa 0,aa 0,T9,aa 0,aa 0,T9,aa 0]),13,136):=Uj
theorem ri {f:eF}(h:fJ ws form i= .ok (f,j)):rL f= [aa form,aa 0,T9,aa 0,aa (dJ f.type.1),ae f.type.1,aa f.type.2,aa (dJ f.name.1),ae f.name.1,aa f.name.2,aa (dJ f.num.1),ae f.num.1,aa f.num.2]:=by
 unfold fJ at h;have⟨t,i1,h1,h⟩:=dO h;have⟨nm,i2,h2,h⟩:=dO h;simp at h;obtain⟨rfl,rfl⟩:=h;rfl
theorem MJ (w:an)(rb wb:Nat)(ws:List W)(i:Nat)(form:Int)(R:Rd w rb wb ws i):
  Ua 341 #[ag rb,aa form] w (qG w rb wb ws (fJ ws form i) λf _ e=>e= .returned (.agg #[aa form,aa 0,T9,aa 0,aa (dJ f.type.1),ae f.type.1,aa f.type.2,aa (dJ f.name.1),ae f.name.1,aa f.name.2,aa (dJ f.num.1),ae f.num.1,aa f.num.2])):=by
 refine(RV w rb wb ws i form R).mono λe w' h=> ?_
 cases hf:fJ ws form i with
 |error p=>rw[hf]at h;exact h
 |ok q=>
  obtain⟨f,j⟩:=q;rw[hf]at h;obtain⟨h1,h2⟩:=h;exact⟨by rw[h1,ri hf],h2⟩
end
section
variable {P:Program} {ops:Array Oper} {Q:Exit->Act->an->Prop} {md:Region.Mode} {S:an->Prop} (i:Nat) {oi:Oper} {fuel:Nat} {listed:Array Bool} {a:Act} {w:an}
attribute [local go_sem] jo jp jq
open Uq
theorem gL (v:Value)(hi:ops[i]?=some oi)
  (hc:(Region.noSelect ops&&(Region.free md ops listed i&&(Region.ready md ops listed).contains i))=true) (hQ:∀c a w,Q (.panic c) (a.put oi.dst v) w->Q (.panic c) a w) (hy:YieldsIf P ops S oi v a) (hS:S w)
  (h:wpAnyH P md ops Q S fuel (listed.setIfInBounds i true) (a.put oi.dst v) w):wpAnyH P md ops Q S (fuel+1) listed a w:=by
 rw[aJ,aJ]at hc;exact wpAnyH_take hi hc.1 hc.2.1 hc.2.2 hQ hy hS h
theorem T5 (v:Value)(hS:S w)(h:wpAnyH P md ops Q S fuel (listed.setIfInBounds i true) (a.put oi.dst v) w)(hi:ops[i]?=some oi:=by rfl)
  (hc:(Region.noSelect ops&&(Region.free md ops listed i&&(Region.ready md ops listed).contains i))=true:=by kernel_rfl) (hQ:∀c a w,Q (.panic c) (a.put oi.dst v) w->Q (.panic c) a w:=by exact λ_ _ _ h=>h) (hy:YieldsIf P ops S oi v a:=by exact .inl ⟨rfl,λw ⟨s0,s1,s2⟩=>Up⟩):wpAnyH P md ops Q S (fuel+1) listed a w:=gL i v hi hc hQ hy hS h
theorem T6 (v:Value)(hS:S w)(h:wpAnyH P md ops Q S fuel (listed.setIfInBounds i true) (a.put oi.dst v) w)(hi:ops[i]?=some oi:=by rfl)
  (hc:(Region.noSelect ops&&(Region.free md ops listed i&&(Region.ready md ops listed).contains i))=true:=by kernel_rfl) (hQ:∀c a w,Q (.panic c) (a.put oi.dst v) w->Q (.panic c) a w:=by exact λ_ _ _ h=>h) (hy:YieldsIf P ops S oi v a:=by exact .inl ⟨rfl,λw ⟨sc,s0,s1,s2⟩=>Up⟩):wpAnyH P md ops Q S (fuel+1) listed a w:=gL i v hi hc hQ hy hS h
theorem T7 (v:Value)(hS:S w)(h:wpAnyH P md ops Q S fuel (listed.setIfInBounds i true) (a.put oi.dst v) w)(hi:ops[i]?=some oi:=by rfl)
  (hc:(Region.noSelect ops&&(Region.free md ops listed i&&(Region.ready md ops listed).contains i))=true:=by kernel_rfl) (hQ:∀c a w,Q (.panic c) (a.put oi.dst v) w->Q (.panic c) a w:=by exact λ_ _ _ h=>h) (hy:YieldsIf P ops S oi v a:=by exact .inr ⟨rfl,rfl⟩):wpAnyH P md ops Q S (fuel+1) listed a w:=gL i v hi hc hQ hy hS h
theorem Tx (w:an)(rb wb:Nat)(ws:List W)(i:Nat)(R:Rd w rb wb ws i):
  Calls prog 338 #[ag rb] w (qG w rb wb ws (iC ws i) λp w' e=>∃fv,e= .returned (.agg ((MG p.oneof++ [fv]).toArray))/\w'.ownsRow w.heap.size 211 13 fv p.fields.length (p.fields.flatMap rL)):=by
 have⟨i0,UA,UB,UC,UD⟩:=info_parts Tryz.info211;have A0:iR w.heap.size rb w (w.alloc (ak #[aa 0,T9,aa 0,ah] 208)) i:=iR.of_below R.next (Ud w _);have R0:=R.alloc (ak #[aa 0,T9,aa 0,ah] 208);have K0:=dM.new w #[aa 0,T9,aa 0,ah] 208;have n1:¬w.heap.size=rb:=by have:=R.blocks;omega
 have n3:¬rb=w.heap.size:=Ue;have z0:w.heap.size<(w.alloc (ak #[aa 0,T9,aa 0,ah] 208)).heap.size:=Uf;generalize hr:iC ws i=r;have HR:Hid (iC ws i=r):=hr;clear hr;go_in
 go_wp2_with fail;refine(Ep _ rb wb ws i _ [111,110,101,111,102] R0 Ui Uh).mono ?_
 cases h1:fV ws [111,110,101,111,102] i with
 |error p=>
  rintro e w1 ⟨rfl,j,A⟩;obtain rfl:r= .error p:=by rw[<-HR.out,iC,fO h1]
  unfold dL;go_wp2;exact⟨rfl,rfl,j,A0.trans A Ue⟩
 |ok q=>
  obtain⟨_,i1⟩:=q;rintro e w1 ⟨rfl,R1,A⟩;have z1:w.heap.size<w1.heap.size:=aD z0 A.size;have K1:=K0.adv_ A z0 n1;have A1:=A0.trans A Ue;clear A R0 K0 A0 z0;go_wp2_with fail;refine(QV _ rb wb ws i1 1 R1 Uh).mono ?_
  cases h2:jV ws 1 i1 with
  |error p=>
   rintro e w2 ⟨rfl,j,A⟩;obtain rfl:r= .error p:=by rw[<-HR.out,iC,ei h1,fO h2]
   unfold dL;go_wp2;exact⟨rfl,rfl,j,A1.trans A Ue⟩
  |ok q=>
   obtain⟨x,i2⟩:=q;rintro e w2 ⟨rfl,R2,A⟩;have z2:w.heap.size<w2.heap.size:=aD z1 A.size;have K2:=(K1.adv_ A z1 n1).alloc (ak #[aa (dJ x.1),ae x.1,aa x.2,ah] 208);have J2:=dM.new w2 #[aa (dJ x.1),ae x.1,aa x.2,ah] 208;have A2:=(A1.trans A Ue).alloc (ay _) (ak #[aa (dJ x.1),ae x.1,aa x.2,ah] 208);have R3:=R2.alloc (ak #[aa (dJ x.1),ae x.1,aa x.2,ah] 208);have z3:w2.heap.size<(w2.alloc (ak #[aa (dJ x.1),ae x.1,aa x.2,ah] 208)).heap.size:=Uf;have n5:¬w2.heap.size=rb:=by have:=R.blocks;omega
   have n6:¬w2.heap.size=w.heap.size:=Ue;clear A R1 K1 A1 z1;go_wp2_with fail;refine(Ep _ rb wb ws i2 _ [123] R3 Ui Uh).mono ?_
   cases h3:fV ws [123] i2 with
   |error p=>
    rintro e w3 ⟨rfl,j,A⟩;obtain rfl:r= .error p:=by rw[<-HR.out,iC,ei h1,ei h2,fO h3]
    unfold dL;go_wp2;exact⟨rfl,rfl,j,A2.trans A Ue⟩
   |ok q=>
    obtain⟨_,i3⟩:=q;rintro e w3 ⟨rfl,R4,A⟩;have z4:w2.heap.size<w3.heap.size:=aD z3 A.size;have K4:=K2.adv_ A Ue n1;have J4:=J2.adv_ A z3 n5;have A4:=A2.trans A Ue;clear A R2 R3 K2 J2 A2 z3;go_wp2_with fail;have j3:=J4.cell 3
    cases h4:fJ ws 3 i3 with
    |error p=>
     obtain rfl:r= .error p:=by rw[<-HR.out,iC,ei h1,ei h2,ei h3,fO h4]
     refine wp_region_held_drew (S:=λw'=>w'.cell? (ai w2.heap.size 3)=some (ah)) Uj (by simpa using j3) (λhHeld=> ?_);refine gL 0 (.pointer (some (ai w2.heap.size 3))) rfl Uj (λ_ _ _ h=>h) (Or.inl ⟨Uk,λw Ut=>by dsimp only at Ut;go_simp⟩) hHeld ?_;refine gL 1 (ah) rfl Uj (λ_ _ _ h=>h) (Or.inl ⟨Uk,λw Ut=>by dsimp only at Ut;go_simp⟩) hHeld ?_;refine gL 2 (ag rb) rfl Uj (λ_ _ _ h=>h) (Or.inl ⟨Uk,λw Ut=>by dsimp only at Ut;go_simp⟩) hHeld ?_;simp only[Act.put,T8];refine wpAnyH_ready (rs:= [3]) Uj Uf (AllReadyH.cons rfl (λK hK=> ?_) AllReadyH.nil);clear hK;go_simp;refine(MJ _ rb wb ws i3 3 R4.drew).mono ?_;rw[h4];rintro e w4 ⟨rfl,j,A⟩;exact⟨rfl,rfl,j,A4.drew.trans A Ug⟩
    |ok q=>
     obtain⟨f,i4⟩:=q;have HF:Hid (rL f=_):=ri h4;obtain⟨M,HM⟩:∃M,Hid (mP [f] (gk (fR ws [125]) (fJ ws 3) ws.length i4)=M):=⟨_,rfl⟩
     have Uy:Hid ((gu M λl i=>gu (fV ws [125] i) λ_ i=> .ok (⟨some x,l⟩,i))=r):=by
      have:=HR.out;rw[iC,ei h1,ei h2,ei h3,ei h4,HM.out]at this;exact this
     clear HR h1 h2 h3;go_cut []from 11 to 17 (λwr=>∃(n k:Nat) (fs:List eF) (fv:Value),fs.length<=k/\ws.length-k<=n/\Hid (mP fs (gk (fR ws [125]) (fJ ws 3) n k)=M)/\Rd wr rb wb ws k/\iR w.heap.size rb w wr k/\dM wr w.heap.size #[aa 0,T9,aa 0,ah] 208/\dM wr w2.heap.size #[aa (dJ x.1),ae x.1,aa x.2,fv] 208/\wr.ownsRow (w2.heap.size+1) 211 13 fv fs.length (fs.flatMap rL)/\w2.heap.size<wr.heap.size)
     case first=>
      have J:=J4;have RR:=R4;have HO:Hid (some w2.heap.size≠(Value.slice none 0 0).ownBlock):=by simp[Hid,Value.ownBlock]
      go_region_law (first|(refine step_append_lies _ Uk _ _ _ Uk (w2.heap.size+1) 211 i0 _ 13 136 underlying206 UA UB UC UD rfl Ue (ah) 0 [] Uk (bm _ _ _ _) (ai w4.heap.size 0) 1 1 [_,_,_,_,_,_,_,_,_,_,_,_,_] Uk Uk (br (t:=211) (fr:=(0,0)) (heap_alloc_new w4 _)) Um Ue Ul Ue (by have:=A.size;simp at this⊢;omega) (w4.heap.size+1) Uf ?_;intro gg cap w5 Uu Uq UI UJ;have⟨x1,x2⟩:=(((J.drew.adv_ A Ug n5).alloc _).grown Uq HO.out).rules)|(go_simp;go_at_call 341;refine(MJ _ rb wb ws i3 3 RR.drew).mono ?_;rw[h4];rintro e w4 ⟨rfl,R5,A⟩;have⟨y1,y2⟩:=(J.drew.adv_ A Ug n5).rules;have⟨y3,y4,y5,y6⟩:=gA (w:=w4) (b:=w2.heap.size) (by have:=A.size;simp at this;omega)))
      all_goals
       go_wp2;go_meet
       case rel=>
        go_light;have UE:w3.heap.size<=w4.heap.size:=by have:=A.size;simpa using this
        have A6:=((((A4.drew.trans A Ug).alloc (ay _) _).grown Uq (ay _) (λk hk=>by simp[Value.ownBlock]at hk))).setCell (a:=(ai w2.heap.size 3)) Ug (Ub gg (0+1) cap);have hlt2:i3<i4:=kH _ _ _ _ _ h4;refine⟨ws.length,i4,[f],Ub gg (0+1) cap,Ug,Ue,HM,A6.rd R R.blocks.1 R.blocks.2 R5.lt,A6,?_,?_,?_,?_⟩
        ·exact(((K4.drew.adv_ A Ug n1).alloc _).grown Uq (by simp[Value.ownBlock])).other 3 _ n6
        ·exact(((J4.drew.adv_ A Ug n5).alloc _).grown Uq (by simp[Value.ownBlock])).set 3 _
        ·have:=ownsRow_setCell_below Uu (a:=(ai w2.heap.size 3)) Uf (Ub gg (0+1) cap);simpa [HF.out]using this
        ·have:=Uq.size;simp[World.setCell]at this⊢;omega
     case rest=>
      clear J4 R4 K4 A4 z4 j3 h4 HF HM;go_wp2;go_loopw [20] (λ_ wr=>∃(n k:Nat) (fs:List eF) (fv:Value),fs.length<=k/\ws.length-k<=n/\Hid (mP fs (gk (fR ws [125]) (fJ ws 3) n k)=M)/\Rd wr rb wb ws k/\iR w.heap.size rb w wr k/\dM wr w.heap.size #[aa 0,T9,aa 0,ah] 208/\dM wr w2.heap.size #[aa (dJ x.1),ae x.1,aa x.2,fv] 208/\wr.ownsRow (w2.heap.size+1) 211 13 fv fs.length (fs.flatMap rL)/\w2.heap.size<wr.heap.size) (λ_ wr=>ws.length-iS rb wr)
      case atStart=>exact hcut
      case round=>
       clear hcut;obtain⟨n,k,fs,fv,hfl,hn,HP,RR,AA,KK,J,Uv,hz⟩:=hrel;have hk:=RR.lt;have hfew:=RR.few;have Uz:=RR.nextOf;have HN:Hid (iS rb wr=k):=Uz;clear Uz;have⟨y,hy⟩:=RR.word
       cases hs:(y.1.toList== [125])
       ·have Ux:fR ws [125] k=false:=by unfold fR;simp only[hy,hs]
        have HY:Hid (ws[k]?=some y):=hy;clear hy;go_wp2_with fail;refine(My _ rb wb ws k y _ RR HY.out).mono ?_;rintro e w3 ⟨rfl,Us⟩;rw[show(ByteArray.mk #[125]).toList= [125]from by decide+kernel];have R3:=RR.below Us RR.blocks.1 RR.blocks.2;have A3:=AA.below Us AA.size;have K3:=KK.below Us KK.lt;have J3:=J.below Us J.lt;have Ur:w3.ownsRow (w2.heap.size+1) 211 13 fv fs.length (fs.flatMap rL):=eH Us Uv;have UF:w2.heap.size<w3.heap.size:=aD hz Us.size
        have HO:Hid (some w2.heap.size≠fv.ownBlock):=by
         intro e;have:=(Ur.lt _ e.symm).1;omega
        clear RR AA KK J Uv hz Us;go_wp2_with fail;have j3:=J3.cell 3
        cases h4:fJ ws 3 k with
        |error p=>
         obtain rfl:r= .error p:=by
          rw[<-Uy.out,<-HP.out,p9 Ux Ue h4];rfl
         refine wp_region_held_drew (S:=λw'=>w'.cell? (ai w2.heap.size 3)=some fv) Uj (by simpa using j3) (λhHeld=> ?_);refine gL 0 (.pointer (some (ai w2.heap.size 3))) rfl Uj (λ_ _ _ h=>h) (Or.inl ⟨Uk,λw Ut=>by dsimp only at Ut;go_simp⟩) hHeld ?_;refine gL 1 fv rfl Uj (λ_ _ _ h=>h) (Or.inl ⟨Uk,λw Ut=>by dsimp only at Ut;go_simp⟩) hHeld ?_;refine gL 2 (ag rb) rfl Uj (λ_ _ _ h=>h) (Or.inl ⟨Uk,λw Ut=>by dsimp only at Ut;go_simp⟩) hHeld ?_;simp only[Act.put,T8];refine wpAnyH_ready (rs:= [3]) Uj Uf (AllReadyH.cons rfl (λK hK=> ?_) AllReadyH.nil);clear hK;go_simp;refine(MJ _ rb wb ws k 3 R3.drew).mono ?_;rw[h4];rintro e w4 ⟨rfl,j,A⟩;exact⟨rfl,rfl,j,A3.drew.trans A (by have:=A3.size;simp;omega)⟩
        |ok q=>
         obtain⟨f,k1⟩:=q;have HF:Hid (rL f=_):=ri h4;have hk1:k<k1:=kH _ _ _ _ _ h4
         have UG:Hid (mP (fs++ [f]) (gk (fR ws [125]) (fJ ws 3) (n-1) k1)=M):=by
          rw[<-HP.out,rQ fs Ux Ue h4];exact rfl
         have J:=J3;have RR:=R3;go_region_law (first|(refine step_append_lies _ Uk _ _ _ Uk (w2.heap.size+1) 211 i0 _ 13 136 underlying206 UA UB UC UD rfl Ue fv fs.length (fs.flatMap rL) Uk ((js A (ay _) (by have:=R.blocks;omega) (ot Ur)).alloc _) (ai w4.heap.size 0) 1 1 [_,_,_,_,_,_,_,_,_,_,_,_,_] Uk Uk (br (t:=211) (fr:=(0,0)) (heap_alloc_new w4 _)) Um Ue Ul Ue (by have:=A.size;simp at this⊢;omega) (w4.heap.size+1) Uf ?_;intro gg cap w5 Uu Uq UI UJ;have⟨x1,x2⟩:=(((J.drew.adv_ A Ug n5).alloc _).grown Uq HO.out).rules)|(go_simp;go_at_call 341;refine(MJ _ rb wb ws k 3 RR.drew).mono ?_;rw[h4];rintro e w4 ⟨rfl,R5,A⟩;have⟨y1,y2⟩:=(J.drew.adv_ A Ug n5).rules;have⟨y3,y4,y5,y6⟩:=gA (w:=w4) (b:=w2.heap.size) (by have:=A.size;simp at this;omega)))
         all_goals
          go_wp2;go_roundw
          case rel=>
           go_light;have UE:w3.heap.size<=w4.heap.size:=by have:=A.size;simpa using this
           have UH:=Uq.size;have A6:=((((A3.drew.trans A (by have:=A3.size;simp;omega)).alloc (ay _) _).grown Uq (ay _) (λj hj=>by have:=(Ur.lt j hj).1;omega))).setCell (a:=(ai w2.heap.size 3)) Ug (Ub gg (fs.length+1) cap);refine⟨n-1,k1,fs++ [f],Ub gg (fs.length+1) cap,Ug,Ue,UG,A6.rd R R.blocks.1 R.blocks.2 R5.lt,A6,?_,?_,?_,?_⟩
           ·exact(((K3.drew.adv_ A Ug n1).alloc _).grown Uq (λe=>by have:=(Ur.lt _ e.symm).1;omega)).other 3 _ n6
           ·exact(((J3.drew.adv_ A Ug n5).alloc _).grown Uq HO.out).set 3 _
           ·have:=ownsRow_setCell_below Uu (a:=(ai w2.heap.size 3)) Uf (Ub gg (fs.length+1) cap);simpa [HF.out]using this
           ·simp[World.setCell]at UH⊢;omega
          case measure=>
           go_light;have A6:=((((A3.drew.trans A (by have:=A3.size;simp;omega)).alloc (ay _) _).grown Uq (ay _) (λj hj=>by have:=(Ur.lt j hj).1;omega))).setCell (a:=(ai w2.heap.size 3)) Ug (Ub gg (fs.length+1) cap);have R6:=A6.rd R R.blocks.1 R.blocks.2 R5.lt;have h6:=R6.lt;rw[R6.nextOf,HN.out];omega
       ·have Ux:fR ws [125] k=true:=by unfold fR;simp only[hy,hs]
        have h5:fV ws [125] k= .ok ((),k+1):=by unfold fV;simp only[hy,hs];rfl
        have HY:Hid (ws[k]?=some y):=hy;clear hy
        obtain rfl:r= .ok (⟨some x,fs⟩,k+1):=by
         rw[<-Uy.out,<-HP.out,oq Ux];simp only[mP,gu,h5,bN]
        go_wp2_with fail;refine(My _ rb wb ws k y _ RR HY.out).mono ?_;rintro e w3 ⟨rfl,Us⟩;rw[show(ByteArray.mk #[125]).toList= [125]from by decide+kernel];have R3:=RR.below Us RR.blocks.1 RR.blocks.2;have A3:=AA.below Us AA.size;have K3:=KK.below Us KK.lt;have J3:=J.below Us J.lt;have Ur:w3.ownsRow (w2.heap.size+1) 211 13 fv fs.length (fs.flatMap rL):=eH Us Uv;have UF:w2.heap.size<w3.heap.size:=aD hz Us.size;clear RR AA KK J Uv hz Us;go_wp2_with fail;refine(Ep _ rb wb ws k _ [125] R3 Ui Uh).mono ?_;rw[h5];rintro e w4 ⟨rfl,R4,A⟩;have K4:=K3.adv_ A Ue n1;have J4:=J3.adv_ A Ue n5;have A4:=A3.trans A A3.size;have Uw:w4.ownsRow (w2.heap.size+1) 211 13 fv fs.length (fs.flatMap rL):=js A (ay _) (by have:=R.blocks;omega) Ur;obtain⟨fa,fn,fc,rfl⟩:=dN Uw;have⟨k1,k2⟩:=K4.rules;have⟨j1,j2⟩:=J4.rules;go_wp2;have A9:=A4.sets (b:=w.heap.size) (ay _) [aa (dJ x.1),ae x.1,aa x.2,.slice fa fn fc] 0;have K9:=K4.sets_all [aa (dJ x.1),ae x.1,aa x.2,.slice fa fn fc] rfl;refine dG (ec results338 _ _ rfl K9 underlying208 Uj) rfl ⟨⟨_,rfl,?_⟩,?_,A9⟩
        ·exact jC (lo:=w.heap.size) Uw (b:=w.heap.size) (Nat.lt_succ_of_lt z2) (Nat.le_succ_of_le (ck z2)) [aa (dJ x.1),ae x.1,aa x.2,.slice fa fn fc] 0
        ·exact A9.rd R R.blocks.1 R.blocks.2 R4.lt
end
section
attribute [local go_sem] jo jp jq
def lW:Option W->Int
 |some x=>dJ x.1
 |none=>0
def jg:Option W->am
 |some x=>x.1
 |none=>⟨#[]⟩
def mW:Option W->Nat
 |some x=>x.2
 |none=>0
abbrev FC (f:eF):Array Value:= #[aa f.form,aa (lW f.key),ae (jg f.key),aa (mW f.key),aa (dJ f.type.1),ae f.type.1,aa f.type.2,aa (dJ f.name.1),ae f.name.1,aa f.name.2,aa (dJ f.num.1),ae f.num.1,aa f.num.2]
abbrev FO (f:eF):Obj:=Obj.cells (FC f) 211
def ML (o:Option W):MG o= [aa (lW o),ae (jg o),aa (mW o)]:=by cases o<;>rfl
def FF (w:an)(p:fo)(w':an)(e:Ending):Prop:=
 ∃fa fn fc,e= .returned (.agg #[aa (lW p.oneof),ae (jg p.oneof),aa (mW p.oneof),.slice fa fn fc])/\w'.ownsRow w.heap.size 211 13 (.slice fa fn fc) p.fields.length (p.fields.flatMap rL)
def Sk (w:an)(rb wb:Nat)(ws:List W)(i:Nat)(R:Rd w rb wb ws i):
  Ua 338 #[ag rb] w (qG w rb wb ws (iC ws i) (FF w)):=by
 refine(Tx w rb wb ws i R).mono λe w' h=> ?_
 cases hf:iC ws i with
 |error p=>rw[hf]at h;exact h
 |ok q=>
  obtain⟨p,j⟩:=q;rw[hf]at h;obtain⟨⟨fv,h1,h3⟩,h2⟩:=h;obtain⟨fa,fn,fc,rfl⟩:=dN h3;exact⟨⟨fa,fn,fc,by rw[h1,ML];rfl,h3⟩,h2⟩
def wD {ws:List W}{i:Nat}{x:W}(s:List UInt8)(h:ws[i]?=some x):fR ws s i=(x.1.toList==s):=by unfold fR;simp only[h]
abbrev PZ:Array Value:= #[aa 0,T9,aa 0,ah]
def Td (w:an)(rb wb:Nat)(ws:List W)(i:Nat)(R:Rd w rb wb ws i):
  Calls prog 259 #[ag rb] w (qG w rb wb ws (jN ws i) (FF w)):=by
 have⟨x,hx⟩:=R.word;have HX:Hid (ws[i]?=some x):=hx;have A0:iR w.heap.size rb w (w.alloc (Obj.cells PZ 208)) i:=iR.of_below R.next (Ud w _);have R0:=R.alloc (Obj.cells PZ 208);have K0:=dM.new w PZ 208;have n1:¬w.heap.size=rb:=by have:=R.blocks;omega
 have n3:¬rb=w.heap.size:=Ue;have z0:w.heap.size<(w.alloc (Obj.cells PZ 208)).heap.size:=Uf;obtain⟨r,HR⟩:∃r,Hid (jN ws i=r):=⟨_,rfl⟩;rw[HR.out];have hp:jN ws i=r:=HR.out;unfold jN at hp;simp only[wD _ hx]at hp;have HP:Hid _:=hp;have hz:∀s:List UInt8,(x.1.toList==s)=true->0<s.length->0<x.1.size:=λs h hl=>rO h hl
 have HZ:Hid _:=hz;clear hx hp hz;go_in
 go_wp2_with fail;refine(Mx _ rb wb ws i x R0 HX.out).mono ?_;rintro e w1 ⟨rfl,Ut⟩;have R1:=R0.below Ut R0.blocks.1 R0.blocks.2;have A1:=A0.below Ut (ck z0);have K1:=K0.below Ut z0;have z1:w.heap.size<w1.heap.size:=aD z0 Ut.size;clear R0 A0 K0 z0 Ut
 cases t0:(x.1.toList== [111,110,101,111,102])with
 |true=>
  have HO:Hid (iC ws i=r):=by have:=HP.out;rw[t0]at this;exact this
  go_wp2_with fail;refine(Sk _ rb wb ws i R1).mono ?_
  cases h1:iC ws i with
  |error p=>
   rintro e w2 ⟨rfl,j,A⟩;obtain rfl:r= .error p:=HO.out.symm.trans h1;unfold dL;go_wp2;exact⟨rfl,rfl,j,A1.trans A Ue⟩
  |ok q=>
   obtain⟨p,i1⟩:=q;rintro e w2 ⟨⟨fa,fn,fc,rfl,Uq⟩,R2,A⟩;obtain rfl:r= .ok (p,i1):=HO.out.symm.trans h1;have K9:=K1.adv_ A z1 n1;have A9:=A1.trans A Ue;have⟨k1,k2⟩:=K9.rules;go_wp2;have Ur:=A9.sets (b:=w.heap.size) (ay _) [aa (lW p.oneof),ae (jg p.oneof),aa (mW p.oneof),.slice fa fn fc] 0;have Uu:=K9.sets_all [aa (lW p.oneof),ae (jg p.oneof),aa (mW p.oneof),.slice fa fn fc] rfl;refine dG (ec results259 _ _ rfl Uu underlying208 Uj) rfl ⟨⟨fa,fn,fc,rfl,?_⟩,?_,Ur⟩
   ·exact jC (lo:=w.heap.size) Uq (b:=w.heap.size) z1 (ck z1) [aa (lW p.oneof),ae (jg p.oneof),aa (mW p.oneof),.slice fa fn fc] 0
   ·exact Ur.rd R R.blocks.1 R.blocks.2 R2.lt
 |false=>
  rw[t0]at HP
  have hc:(x.1.toList== [109,97,112])=true\/((x.1.toList== [109,97,112])=false/\(x.1.toList== [114,101,112,101,97,116,101,100])=true)\/((x.1.toList== [109,97,112])=false/\(x.1.toList== [114,101,112,101,97,116,101,100])=false/\(x.1.toList== [111,112,116,105,111,110,97,108])=true)\/((x.1.toList== [109,97,112])=false/\(x.1.toList== [114,101,112,101,97,116,101,100])=false/\(x.1.toList== [111,112,116,105,111,110,97,108])=false):=by
   generalize(x.1.toList== [109,97,112])=a;generalize(x.1.toList== [114,101,112,101,97,116,101,100])=b;generalize(x.1.toList== [111,112,116,105,111,110,97,108])=c
   revert a b c;decide
  rcases hc with t1|⟨t1,t2⟩|⟨t1,t2,t3⟩|⟨t1,t2,t3⟩
  have HA:Hid (lE (mO ws i)=r):=by have:=HP.out;rw[t1]at this;exact this
  have H:=Tv _ rb wb ws i R1;generalize mO ws i=X at*;go_wp2_with fail;refine H.mono ?_;rotate_left;have HA:Hid (lE (fJ ws 2 (i+1))=r):=by have:=HP.out;rw[t1,t2]at this;exact this
  go_wp2_with fail;refine(Q3 _ rb wb ws i x R1 HX.out (HZ.out _ t2 Uh)).mono ?_;rintro e w2 ⟨rfl,R2,A⟩;replace K1:=K1.adv_ A z1 n1;replace A1:=A1.trans A Ue;replace z1:w.heap.size<w2.heap.size:=aD z1 A.size;clear A R1;have H:=RV _ rb wb ws (i+1) 2 R2;generalize fJ ws 2 (i+1)=X at*;go_wp2_with fail;refine H.mono ?_;rotate_left;have HA:Hid (lE (fJ ws 1 (i+1))=r):=by have:=HP.out;rw[t1,t2,t3]at this;exact this
  go_wp2_with fail;refine(Q3 _ rb wb ws i x R1 HX.out (HZ.out _ t3 Uh)).mono ?_;rintro e w2 ⟨rfl,R2,A⟩;replace K1:=K1.adv_ A z1 n1;replace A1:=A1.trans A Ue;replace z1:w.heap.size<w2.heap.size:=aD z1 A.size;clear A R1;have H:=RV _ rb wb ws (i+1) 1 R2;generalize fJ ws 1 (i+1)=X at*;go_wp2_with fail;refine H.mono ?_;rotate_left;have HA:Hid (lE (fJ ws 0 i)=r):=by have:=HP.out;rw[t1,t2,t3]at this;exact this
  have H:=RV _ rb wb ws i 0 R1;generalize fJ ws 0 i=X at*;go_wp2_with fail;refine H.mono ?_
  all_goals
   clear H
   rcases X with p|⟨f,i1⟩
   ·rintro e w3 ⟨rfl,j,A⟩;obtain rfl:r= .error p:=HA.out.symm;unfold dL;go_wp2;exact⟨rfl,rfl,j,A1.trans A Ue⟩
   ·rintro e w3 ⟨rfl,R3,A⟩;obtain rfl:r= .ok (⟨none,[f]⟩,i1):=HA.out.symm;have K3:=K1.adv_ A z1 n1;have A3:=A1.trans A Ue;have z3:w.heap.size<w3.heap.size:=aD z1 A.size;clear A;go_wp2_with fail;refine(Tw _ f).mono ?_;rintro e w4 ⟨fv,rfl,Uq,Uv⟩;obtain⟨fa,fn,fc,rfl⟩:=dN Uq;have Us:w4.ownsRow w3.heap.size 211 13 (.slice fa fn fc) [f].length ([f].flatMap rL):=by simpa using Uq
    have K9:=K3.below Uv z3;have A9:=A3.below Uv (ck z3);have⟨k1,k2⟩:=K9.rules;go_wp2;have Ur:=A9.sets (b:=w.heap.size) (ay _) [aa 0,T9,aa 0,.slice fa fn fc] 0;have Uu:=K9.sets_all [aa 0,T9,aa 0,.slice fa fn fc] rfl;refine dG (ec results259 _ _ rfl Uu underlying208 Uj) rfl ⟨⟨fa,fn,fc,rfl,?_⟩,?_,Ur⟩
    ·exact jC (lo:=w.heap.size) Us (b:=w.heap.size) z3 (ck z3) [aa 0,T9,aa 0,.slice fa fn fc] 0
    ·exact Ur.rd R R.blocks.1 R.blocks.2 R3.lt
end
end Go.Proofs.YtfebdimolnobaaaGreatDoor
