import Derived.Test.YtfebdimolnobaaaGreatDoorProg
import Derived.Below
import Derived.Deep.AppendLies
import Derived.OwnWalk
import Derived.WalkKit
import Derived.WalkSpells
import Derived.WalkLawsBesides
import Derived.Maps.AppendAt
set_option maxRecDepth 100000
set_option maxHeartbeats 8000000
set_option linter.all false
namespace Go.Proofs.YtfebdimolnobaaaGreatDoor
open Go.RowKit
section
set_option linter.defProp false
abbrev aa (n:Int):Value:=.int .i64 n
abbrev ae (s:ByteArray):Value:=.string s
abbrev ai (b o:Nat):Addr:=⟨b,o,none⟩
abbrev ag (b:Nat):Value:=.pointer (some ⟨b,0,none⟩)
abbrev ah:Value:=.slice none 0 0
abbrev aj (w w':World):Prop:=Below w.heap.size w w'
abbrev ak (c:Array Value) (t:TypeId):Obj:=.cells c t
abbrev am:=ByteArray
abbrev an:=World
abbrev ap:=Nat → Prop
abbrev aq:=List Value
abbrev ar:=List ByteArray
abbrev au:=List Nat
abbrev aw:=Option Addr
def ax:=@List.setIfInBounds_toArray
def ay:=@Nat.le_refl
def aA:=@List.set_cons_zero
def aB:=@List.set_cons_succ
def aC:=@Nat.lt_of_lt_of_le
def aD:=@List.getElem_cons_zero
def aE:=@List.getElem_toArray
def aF:=@List.getElem_cons_succ
def aG:=@Nat.le_trans
def aH:=@List.length_append
def aI:=@List.mem_of_getElem?
def aJ:=@List.getElem?_eq_getElem
def aK:=@Bool.false_eq_true
def aL:=@List.mem_cons
def aM:=@Nat.zero_le
def aN:=@World.block_lt_of_cell?
def aO:=@List.getElem?_map
def aP:=@List.nil_append
def aQ:=@List.getElem?_eq_none
def aR:=@ByteArray.size_extract
def aS:=@List.contains_cons
def aT:=@Bool.and_eq_true
def aU:=@List.drop_eq_getElem_cons
def aV:=@List.length_map
def aW:=@List.append_assoc
def aX:=@World.ownsRow_nil
def aY:=@List.take_length
def aZ:=@World.cell?_of_block
def ba:=@List.mem_append
def be:=@List.length_take
def bf:=@Int.eq_ofNat_of_zero_le
def bg:=@List.mem_cons_self
def bi:=@Array.getElem?_toList
def bj:=@List.cons_append
def bl:=@World.news_of_block
def bm:=@List.flatMap_cons
def bn:=@List.length_cons
def bo:=@Array.getElem?_eq_getElem
def br:=@List.map_cons
def bt:=@List.eq_nil_of_length_eq_zero
def bu:=@List.take_add_one
def bw:=@Nat.le_of_lt
def bz:=@List.map_map
def bB:=@List.pairwise_cons
def bC:=@List.pairwise_iff_getElem
def bE:=@Nat.le_succ
def bF:=@List.mem_cons_of_mem
def bG:=@List.not_mem_nil
def bH:=@List.map_append
def bI:=@List.length_filter_le
def bJ:=@List.pairwise_map
def bK:=@List.getD_eq_getElem?_getD
def bM:=@List.filter_cons
def bN:=@Bool.eq_false_iff
def bO:=@List.getElem?_take_of_lt
def bS:=@List.take_append_drop
def bT:=@List.append_nil
def bU:=@List.mem_singleton
def bV:=@World.size_alloc
def bW:=@List.pairwise_append
def bX:=@Array.getElem?_eq_none
def bY:=@List.take_of_length_le
def bZ:=@List.flatMap_append
def b8:=@Bool.eq_iff_iff
def b9:=@List.drop_length
def ca:=@World.size_setCell
def cg:=@Bool.and_false
def ch:=@List.getElem?_cons_succ
def ci:=@List.getElem?_cons_zero
def cj:=@Bool.or_true
def ck:=@List.getElem?_append_right
def cl:=@Bool.false_and
def cm:=@Bool.not_false
def cn:=@List.getElem?_append_left
def co:=@World.cell?_alloc_lt
def cp:=@Bool.true_or
def cq:=@List.drop_eq_nil_iff
def cr:=@Bool.not_true
def cu:=@Bool.true_and
def cw:=@List.filter_append
def cy:=@List.length_nil
def cz:=@Bool.false_or
def cA:=@List.any_eq_false
def cB:=@Option.mem_toList
def cC:=@Array.length_toList
def cD:=@Bool.and_true
def cE:=@Bool.or_false
def cF:=@ByteArray.ext
def cG:=@ByteArray.data_extract
def cH:=@Int.le_refl
def cI:=@List.getElem?_of_mem
def cJ:=@Nat.pow_le_pow_right
def cK:=@Nat.shiftLeft_eq
def cL:=@Int.natCast_succ
def cM:=@Array.replicate_succ
def cN:=@Array.replicate_zero
def cO:=@List.filter_sublist
def cS:=@List.append_toArray
def cT:=@List.map_nil
def cU:=@Array.extract_size
def cV:=@List.getElem?_set
def cW:=@List.size_toArray
def cX:=@List.push_toArray
theorem NZ:(∀{α:Type} (l:List α) (i:Nat) (a:α),l.toArray.setIfInBounds i a=(l.set i a).toArray)∧(∀{α:Type} (x a:α) (l:List α),(x::l).set 0 a=a::l)∧(∀{α:Type} (x a:α) (l:List α) (i:Nat),(x::l).set (i+1) a=x::l.set i a)∧(∀{α:Type} (l:List α) (i:Nat) (h:i<l.toArray.size),l.toArray[i]=l[i]'(by simpa using h))∧(∀{α:Type} (x:α) (l:List α) (h:0<(x::l).length),(x::l)[0]=x)∧∀{α:Type} (x:α) (l:List α) (i:Nat) (h:i+1<(x::l).length),(x::l)[i+1]=l[i]'(by simpa using h):=⟨by simp,by simp,by simp,by simp,by simp,by simp⟩
end
theorem rh (fn:Fn)(first cap:Array Value)(w:an):(Instr.makeFunc fn first cap).run Tryz.prog w= .ok (.func fn first cap) w:=rfl
theorem gl {α:Type}{l:List α}{i:Nat}{x:α}(h:l[i]?=some x):i<l.length:=(List.getElem?_eq_some_iff.1 h).1
theorem gx {α:Type}{l:List α}{i:Nat}(h:i<l.length):∃x,l[i]?=some x:=⟨_,aJ h⟩
def sH (c:Int):Bool:=(decide (97<=c)&&decide (c<=122))||(decide (65<=c)&&decide (c<=90))||c==95
def jZ (c:Int):Bool:=decide (48<=c)&&decide (c<=57)
def Ar (c:Int):Bool:=c==32||c==10
theorem gw {a b:Bool}(h:a=true<->b=true):Ending.returned (.bool a)= .returned (.bool b):=by
 rw[b8.2 h]
theorem Ec (c:Int)(w:an):
  Calls Tryz.prog 171 #[.int .u8 c] w fun e w'=>e= .returned (.bool (sH c))/\w'=w:=by
 go_enter Tryz.func171,Tryz.ntmps171
 go_wp2
 all_goals
  go_ret;exact⟨gw (by simp[sH];try omega),rfl⟩
theorem As (c:Int)(w:an):
  Calls Tryz.prog 172 #[.int .u8 c] w fun e w'=>e= .returned (.bool (jZ c))/\w'=w:=by
 go_enter Tryz.func172,Tryz.ntmps172
 go_wp2
 all_goals
  go_ret;exact⟨gw (by simp[jZ];try omega),rfl⟩
theorem Ni (c:Int)(w:an):
  Calls Tryz.prog 115 #[.int .u8 c] w fun e w'=>e= .returned (.bool (Ar c))/\w'=w:=by
 go_enter Tryz.func115,Tryz.ntmps115
 go_wp2
 all_goals
  go_ret;exact⟨gw (by simp[Ar];try omega),rfl⟩
def G4:List (List UInt8):= [[109,101,115,115,97,103,101],[101,110,117,109],[114,101,112,101,97,116,101,100],[111,112,116,105,111,110,97,108],[111,110,101,111,102],[109,97,112]]
def kW:List (List UInt8):= [[105,110,116,51,50],[105,110,116,54,52],[117,105,110,116,51,50],[117,105,110,116,54,52],[115,105,110,116,51,50],[115,105,110,116,54,52],[98,111,111,108],[102,105,120,101,100,51,50],[102,105,120,101,100,54,52],[115,102,105,120,101,100,51,50],[115,102,105,120,101,100,54,52],[102,108,111,97,116],[100,111,117,98,108,101],[115,116,114,105,110,103],[98,121,116,101,115]]
def ow (l:List UInt8):Bool:=G4.contains l
def g9 (l:List UInt8):Bool:=kW.contains l
theorem Mr (s:am)(w:an):
  Calls Tryz.prog 173 #[ae s] w fun e w'=>e= .returned (.bool (ow s.toList))/\w'=w:=by
 cases h0:(s.toList== [109,101,115,115,97,103,101])
 rotate_left
 ·go_enter Tryz.func173,Tryz.ntmps173
  go_wp2;go_ret;exact⟨gw (by simp only[ow,G4,aS,h0];simp),rfl⟩
 cases h1:(s.toList== [101,110,117,109])
 rotate_left
 ·go_enter Tryz.func173,Tryz.ntmps173
  go_wp2;go_ret;exact⟨gw (by simp only[ow,G4,aS,h0,h1];simp),rfl⟩
 cases h2:(s.toList== [114,101,112,101,97,116,101,100])
 rotate_left
 ·go_enter Tryz.func173,Tryz.ntmps173
  go_wp2;go_ret;exact⟨gw (by simp only[ow,G4,aS,h0,h1,h2];simp),rfl⟩
 cases h3:(s.toList== [111,112,116,105,111,110,97,108])
 rotate_left
 ·go_enter Tryz.func173,Tryz.ntmps173
  go_wp2;go_ret;exact⟨gw (by simp only[ow,G4,aS,h0,h1,h2,h3];simp),rfl⟩
 cases h4:(s.toList== [111,110,101,111,102])
 rotate_left
 ·go_enter Tryz.func173,Tryz.ntmps173
  go_wp2;go_ret;exact⟨gw (by simp only[ow,G4,aS,h0,h1,h2,h3,h4];simp),rfl⟩
 cases h5:(s.toList== [109,97,112])
 rotate_left
 ·go_enter Tryz.func173,Tryz.ntmps173
  go_wp2;go_ret;exact⟨gw (by simp only[ow,G4,aS,h0,h1,h2,h3,h4,h5];simp),rfl⟩
 ·go_enter Tryz.func173,Tryz.ntmps173
  go_wp2;go_ret;exact⟨gw (by simp only[ow,G4,aS,h0,h1,h2,h3,h4,h5];simp),rfl⟩
theorem Nj (s:am)(w:an):
  Calls Tryz.prog 174 #[ae s] w fun e w'=>e= .returned (.bool (g9 s.toList))/\w'=w:=by
 cases h0:(s.toList== [105,110,116,51,50])
 rotate_left
 ·go_enter Tryz.func174,Tryz.ntmps174
  go_wp2;go_ret;exact⟨gw (by simp only[g9,kW,aS,h0];simp),rfl⟩
 cases h1:(s.toList== [105,110,116,54,52])
 rotate_left
 ·go_enter Tryz.func174,Tryz.ntmps174
  go_wp2;go_ret;exact⟨gw (by simp only[g9,kW,aS,h0,h1];simp),rfl⟩
 cases h2:(s.toList== [117,105,110,116,51,50])
 rotate_left
 ·go_enter Tryz.func174,Tryz.ntmps174
  go_wp2;go_ret;exact⟨gw (by simp only[g9,kW,aS,h0,h1,h2];simp),rfl⟩
 cases h3:(s.toList== [117,105,110,116,54,52])
 rotate_left
 ·go_enter Tryz.func174,Tryz.ntmps174
  go_wp2;go_ret;exact⟨gw (by simp only[g9,kW,aS,h0,h1,h2,h3];simp),rfl⟩
 cases h4:(s.toList== [115,105,110,116,51,50])
 rotate_left
 ·go_enter Tryz.func174,Tryz.ntmps174
  go_wp2;go_ret;exact⟨gw (by simp only[g9,kW,aS,h0,h1,h2,h3,h4];simp),rfl⟩
 cases h5:(s.toList== [115,105,110,116,54,52])
 rotate_left
 ·go_enter Tryz.func174,Tryz.ntmps174
  go_wp2;go_ret;exact⟨gw (by simp only[g9,kW,aS,h0,h1,h2,h3,h4,h5];simp),rfl⟩
 cases h6:(s.toList== [98,111,111,108])
 rotate_left
 ·go_enter Tryz.func174,Tryz.ntmps174
  go_wp2;go_ret;exact⟨gw (by simp only[g9,kW,aS,h0,h1,h2,h3,h4,h5,h6];simp),rfl⟩
 cases h7:(s.toList== [102,105,120,101,100,51,50])
 rotate_left
 ·go_enter Tryz.func174,Tryz.ntmps174
  go_wp2;go_ret;exact⟨gw (by simp only[g9,kW,aS,h0,h1,h2,h3,h4,h5,h6,h7];simp),rfl⟩
 cases h8:(s.toList== [102,105,120,101,100,54,52])
 rotate_left
 ·go_enter Tryz.func174,Tryz.ntmps174
  go_wp2;go_ret;exact⟨gw (by simp only[g9,kW,aS,h0,h1,h2,h3,h4,h5,h6,h7,h8];simp),rfl⟩
 cases h9:(s.toList== [115,102,105,120,101,100,51,50])
 rotate_left
 ·go_enter Tryz.func174,Tryz.ntmps174
  go_wp2;go_ret;exact⟨gw (by simp only[g9,kW,aS,h0,h1,h2,h3,h4,h5,h6,h7,h8,h9];simp),rfl⟩
 cases h10:(s.toList== [115,102,105,120,101,100,54,52])
 rotate_left
 ·go_enter Tryz.func174,Tryz.ntmps174
  go_wp2;go_ret;exact⟨gw (by simp only[g9,kW,aS,h0,h1,h2,h3,h4,h5,h6,h7,h8,h9,h10];simp),rfl⟩
 cases h11:(s.toList== [102,108,111,97,116])
 rotate_left
 ·go_enter Tryz.func174,Tryz.ntmps174
  go_wp2;go_ret;exact⟨gw (by simp only[g9,kW,aS,h0,h1,h2,h3,h4,h5,h6,h7,h8,h9,h10,h11];simp),rfl⟩
 cases h12:(s.toList== [100,111,117,98,108,101])
 rotate_left
 ·go_enter Tryz.func174,Tryz.ntmps174
  go_wp2;go_ret;exact⟨gw (by simp only[g9,kW,aS,h0,h1,h2,h3,h4,h5,h6,h7,h8,h9,h10,h11,h12];simp),rfl⟩
 cases h13:(s.toList== [115,116,114,105,110,103])
 rotate_left
 ·go_enter Tryz.func174,Tryz.ntmps174
  go_wp2;go_ret;exact⟨gw (by simp only[g9,kW,aS,h0,h1,h2,h3,h4,h5,h6,h7,h8,h9,h10,h11,h12,h13];simp),rfl⟩
 cases h14:(s.toList== [98,121,116,101,115])
 rotate_left
 ·go_enter Tryz.func174,Tryz.ntmps174
  go_wp2;go_ret;exact⟨gw (by simp only[g9,kW,aS,h0,h1,h2,h3,h4,h5,h6,h7,h8,h9,h10,h11,h12,h13,h14];simp),rfl⟩
 ·go_enter Tryz.func174,Tryz.ntmps174
  go_wp2;go_ret;exact⟨gw (by simp only[g9,kW,aS,h0,h1,h2,h3,h4,h5,h6,h7,h8,h9,h10,h11,h12,h13,h14];simp),rfl⟩
def eB (t:am)(k:Nat):Int:=if h:k<t.size then(t[k].toNat:Int)else 0
theorem gY {t:am}{k:Nat}(h:k<t.size):(t[k].toNat:Int)=eB t k:=by unfold eB;rw[dif_pos h]
def gR (p:Int->Bool)(t:am):Nat->Nat->Nat
 |0,k=>k
 |n+1,k=>if decide (k<t.size)&&p (eB t k)then gR p t n (k+1)else k
theorem se {p:Int->Bool}{t:am}{n k:Nat}(hn:t.size-k<=n)(hk:k<t.size)(hp:p (eB t k)=true):
  ∃m,t.size-(k+1)<=m/\gR p t n k=gR p t m (k+1):=by
 cases n with
 |zero=>omega
 |succ m=>exact⟨m,by omega,by simp[gR,hk,hp]⟩
theorem iM {p:Int->Bool}{t:am}{n k:Nat}(h:¬k<t.size\/p (eB t k)=false):gR p t n k=k:=by
 cases n with
 |zero=>rfl
 |succ m=>rcases h with h|h<;>simp[gR,h]
theorem wE (p:Int->Bool)(t:am):∀n k,k<=t.size->k<=gR p t n k/\gR p t n k<=t.size
 |0,k,h=>⟨ay _,h⟩
 |n+1,k,h=>by
  unfold gR
  by_cases hc:(decide (k<t.size)&&p (eB t k))=true
  ·rw[if_pos hc];have h1:k<t.size:=by simp at hc;exact hc.1
   have:=wE p t n (k+1) h1;omega
  ·rw[if_neg hc];omega
def wF (c:Int):Bool:=sH c||jZ c
def fT (t:am)(a:Nat):Nat:=
 if sH (eB t a)then gR wF t t.size (a+1)else if jZ (eB t a)&&eB t a !=48 then gR jZ t t.size (a+1)else a+1
theorem nS (t:am)(a:Nat)(h:a<t.size):a+1<=fT t a/\fT t a<=t.size:=by
 unfold fT
 split
 ·exact wE _ _ _ _ h
 ·split
  ·exact wE _ _ _ _ h
  ·omega
abbrev W:=am×Nat
def jf (t:am):Nat->Nat->List W
 |0,_=> []
 |n+1,a=>if a<t.size then if Ar (eB t a)then jf t n (a+1)else(t.extract a (fT t a),a)::jf t n (fT t a)else []
def wG (t:am):List W:=jf t t.size 0
def fj (t:am):List W:=wG t++ [(⟨#[]⟩,t.size)]
theorem yn {t:am}{n a:Nat}(h:¬a<t.size):jf t n a= []:=by
 cases n with
 |zero=>rfl
 |succ n=>simp[jf,h]
theorem sI {t:am}{n a:Nat}(hn:t.size-a<=n)(h:a<t.size)(hg:Ar (eB t a)=true):
  ∃m,t.size-(a+1)<=m/\jf t n a=jf t m (a+1):=by
 cases n with
 |zero=>omega
 |succ m=>exact⟨m,by omega,by simp[jf,h,hg]⟩
theorem vg {t:am}{n a:Nat}(hn:t.size-a<=n)(h:a<t.size)(hg:Ar (eB t a)=false):
  ∃m,t.size-(fT t a)<=m/\jf t n a=(t.extract a (fT t a),a)::jf t m (fT t a):=by
 cases n with
 |zero=>omega
 |succ m=>
  have:=nS t a h;exact⟨m,by omega,by simp[jf,h,hg]⟩
theorem mN (t:am):∀n a,∀x∈jf t n a,a<=x.2/\x.2<t.size/\0<x.1.size/\x.1.size<=t.size
 |0,a,x,h=>by simp[jf]at h
 |n+1,a,x,h=>by
  unfold jf at h
  by_cases ha:a<t.size
  ·rw[if_pos ha]at h
   by_cases hg:Ar (eB t a)=true
   ·rw[if_pos hg]at h;have:=mN t n (a+1) x h;omega
   ·rw[if_neg hg]at h;have he:=nS t a ha
    rcases aL.1 h with rfl|h
    ·refine⟨ay _,ha,?_,?_⟩<;>simp[aR]<;>omega
    ·have:=mN t n (fT t a) x h;omega
  ·rw[if_neg ha]at h;simp at h
theorem mO (t:am):∀n a,(jf t n a).length<=t.size-a
 |0,a=>by simp[jf]
 |n+1,a=>by
  unfold jf
  by_cases ha:a<t.size
  ·rw[if_pos ha];have he:=nS t a ha
   by_cases hg:Ar (eB t a)=true
   ·rw[if_pos hg];have:=mO t n (a+1);omega
   ·rw[if_neg hg];have:=mO t n (fT t a);simp only[bn];omega
  ·rw[if_neg ha];simp
theorem qt {k:IntKind}{a b:Int}(h:a=b):Ending.returned (.int k a)= .returned (.int k b):=by rw[h]
theorem NE (t:am)(a:Nat)(w:an)(h:a<t.size)(ht:t.size<=2000):
  Calls Tryz.prog 116 #[ae t,aa a] w fun e w'=>e= .returned (aa (fT t a))/\w'=w:=by
 have hb:=gY h
 cases h1:sH (eB t a)
 ·cases h2:jZ (eB t a)
  ·have HE:Hid (fT t a=a+1):=by unfold fT;simp[h1,h2,Hid]
   go_enter Tryz.func116,Tryz.ntmps116
   go_wp2_with (first|(go_at_call 171;refine(Ec _ _).mono ?_;rintro e w' ⟨rfl,rfl⟩)|(go_at_call 172;refine(As _ _).mono ?_;rintro e w' ⟨rfl,rfl⟩))
   go_ret;exact⟨qt (by rw[HE.out];simp),rfl⟩
  ·cases h3:(eB t a !=48)
   ·have HE:Hid (fT t a=a+1):=by unfold fT;simp only[h1,h2,h3,Hid];simp
    go_enter Tryz.func116,Tryz.ntmps116
    go_wp2_with (first|(go_at_call 171;refine(Ec _ _).mono ?_;rintro e w' ⟨rfl,rfl⟩)|(go_at_call 172;refine(As _ _).mono ?_;rintro e w' ⟨rfl,rfl⟩))
    go_ret;exact⟨qt (by rw[HE.out];simp),rfl⟩
   ·have HE:Hid (fT t a=gR jZ t t.size (a+1)):=by unfold fT;simp only[h1,h2,h3,Hid];simp
    go_enter Tryz.func116,Tryz.ntmps116
    go_wp2_with (first|(go_at_call 171;refine(Ec _ _).mono ?_;rintro e w' ⟨rfl,rfl⟩)|(go_at_call 172;refine(As _ _).mono ?_;rintro e w' ⟨rfl,rfl⟩))
    go_loop [6] (fun i=>∃n k:Nat,k<=t.size/\t.size-k<=n/\Hid (gR jZ t n k=gR jZ t t.size (a+1))/\i=aa k) (fun i=>t.size-(intOf i).toNat)
    case atStart=>exact⟨t.size,a+1,by omega,by omega,rfl,by simp⟩
    case round=>
     obtain⟨n,k,hk,hn,HS,rfl⟩:=hrel
     by_cases hlt:k<t.size
     ·have N2:=gY hlt
      cases h4:jZ (eB t k)
      ·have HF:Hid (k=gR jZ t t.size (a+1)):=by rw[<-HS.out,iM (.inr h4)];exact rfl
       go_wp2_with (first|(go_at_call 172;refine(As _ _).mono ?_;rintro e w' ⟨rfl,rfl⟩))
       go_ret;exact⟨qt (by rw[HE.out,<-HF.out]),rfl⟩
      ·obtain⟨m,hm,hs⟩:=se hn hlt h4;have HF:Hid (gR jZ t m (k+1)=gR jZ t t.size (a+1)):=hs.symm.trans HS.out;clear hs;go_wp2_with (first|(go_at_call 172;refine(As _ _).mono ?_;rintro e w' ⟨rfl,rfl⟩))
       go_round
       case rel=>exact⟨m,k+1,by omega,hm,HF,by go_num⟩
       case measure=>simp[intOf];omega
     ·have HF:Hid (k=gR jZ t t.size (a+1)):=by rw[<-HS.out,iM (.inl hlt)];exact rfl
      go_wp2_with (first|(go_at_call 172;refine(As _ _).mono ?_;rintro e w' ⟨rfl,rfl⟩))
      go_ret;exact⟨qt (by rw[HE.out,<-HF.out]),rfl⟩
 ·have HE:Hid (fT t a=gR wF t t.size (a+1)):=by unfold fT;simp only[h1,Hid];simp
  go_enter Tryz.func116,Tryz.ntmps116
  go_wp2_with (first|(go_at_call 171;refine(Ec _ _).mono ?_;rintro e w' ⟨rfl,rfl⟩)|(go_at_call 172;refine(As _ _).mono ?_;rintro e w' ⟨rfl,rfl⟩))
  go_loop [6] (fun i=>∃n k:Nat,k<=t.size/\t.size-k<=n/\Hid (gR wF t n k=gR wF t t.size (a+1))/\i=aa k) (fun i=>t.size-(intOf i).toNat)
  case atStart=>exact⟨t.size,a+1,by omega,by omega,rfl,by simp⟩
  case round=>
   obtain⟨n,k,hk,hn,HS,rfl⟩:=hrel
   by_cases hlt:k<t.size
   ·have N2:=gY hlt
    cases h4:wF (eB t k)
    ·have HF:Hid (k=gR wF t t.size (a+1)):=by rw[<-HS.out,iM (.inr h4)];exact rfl
     have h5:sH (eB t k)=false/\jZ (eB t k)=false:=by simpa [wF]using h4
     obtain⟨h5,h6⟩:=h5;clear h4;go_wp2_with (first|(go_at_call 171;refine(Ec _ _).mono ?_;rintro e w' ⟨rfl,rfl⟩)|(go_at_call 172;refine(As _ _).mono ?_;rintro e w' ⟨rfl,rfl⟩))
     go_ret;exact⟨qt (by rw[HE.out,<-HF.out]),rfl⟩
    ·obtain⟨m,hm,hs⟩:=se hn hlt h4;have HF:Hid (gR wF t m (k+1)=gR wF t t.size (a+1)):=hs.symm.trans HS.out;clear hs
     cases h5:sH (eB t k)
     ·have h6:jZ (eB t k)=true:=by simpa [wF,h5]using h4
      clear h4;go_wp2_with (first|(go_at_call 171;refine(Ec _ _).mono ?_;rintro e w' ⟨rfl,rfl⟩)|(go_at_call 172;refine(As _ _).mono ?_;rintro e w' ⟨rfl,rfl⟩))
      go_round
      case rel=>exact⟨m,k+1,by omega,hm,HF,by go_num⟩
      case measure=>simp[intOf];omega
     ·clear h4;go_wp2_with (first|(go_at_call 171;refine(Ec _ _).mono ?_;rintro e w' ⟨rfl,rfl⟩)|(go_at_call 172;refine(As _ _).mono ?_;rintro e w' ⟨rfl,rfl⟩))
      go_round
      case rel=>exact⟨m,k+1,by omega,hm,HF,by go_num⟩
      case measure=>simp[intOf];omega
   ·have HF:Hid (k=gR wF t t.size (a+1)):=by rw[<-HS.out,iM (.inl hlt)];exact rfl
    go_wp2_with (first|(go_at_call 172;refine(As _ _).mono ?_;rintro e w' ⟨rfl,rfl⟩))
    go_ret;exact⟨qt (by rw[HE.out,<-HF.out]),rfl⟩
def gZ (s:am):Int:=
 if jZ (eB s 0)then 2 else if !sH (eB s 0)||ow s.toList then 0 else if g9 s.toList then 3 else 1
def cZ (s:am):Int:=if s.size=0 then 4 else gZ s
theorem NF (s:am)(w:an)(h:0<s.size):
  Calls Tryz.prog 117 #[ae s] w fun e w'=>e= .returned (aa (gZ s))/\w'=w:=by
 have hb:=gY h
 cases h1:jZ (eB s 0)
 ·cases h2:sH (eB s 0)
  ·have HE:Hid (gZ s=0):=by unfold gZ;simp[h1,h2,Hid]
   go_enter Tryz.func117,Tryz.ntmps117
   go_wp2_with (first|(go_at_call 171;refine(Ec _ _).mono ?_;rintro e w' ⟨rfl,rfl⟩)|(go_at_call 172;refine(As _ _).mono ?_;rintro e w' ⟨rfl,rfl⟩))
   go_ret;exact⟨qt (by rw[HE.out]),rfl⟩
  ·cases h3:ow s.toList
   ·cases h4:g9 s.toList
    ·have HE:Hid (gZ s=1):=by unfold gZ;simp[h1,h2,h3,h4,Hid]
     go_enter Tryz.func117,Tryz.ntmps117
     go_wp2_with (first|(go_at_call 171;refine(Ec _ _).mono ?_;rintro e w' ⟨rfl,rfl⟩)|(go_at_call 172;refine(As _ _).mono ?_;rintro e w' ⟨rfl,rfl⟩)|(go_at_call 173;refine(Mr _ _).mono ?_;rintro e w' ⟨rfl,rfl⟩)|(go_at_call 174;refine(Nj _ _).mono ?_;rintro e w' ⟨rfl,rfl⟩))
     go_ret;exact⟨qt (by rw[HE.out]),rfl⟩
    ·have HE:Hid (gZ s=3):=by unfold gZ;simp[h1,h2,h3,h4,Hid]
     go_enter Tryz.func117,Tryz.ntmps117
     go_wp2_with (first|(go_at_call 171;refine(Ec _ _).mono ?_;rintro e w' ⟨rfl,rfl⟩)|(go_at_call 172;refine(As _ _).mono ?_;rintro e w' ⟨rfl,rfl⟩)|(go_at_call 173;refine(Mr _ _).mono ?_;rintro e w' ⟨rfl,rfl⟩)|(go_at_call 174;refine(Nj _ _).mono ?_;rintro e w' ⟨rfl,rfl⟩))
     go_ret;exact⟨qt (by rw[HE.out]),rfl⟩
   ·have HE:Hid (gZ s=0):=by unfold gZ;simp[h1,h2,h3,Hid]
    go_enter Tryz.func117,Tryz.ntmps117
    go_wp2_with (first|(go_at_call 171;refine(Ec _ _).mono ?_;rintro e w' ⟨rfl,rfl⟩)|(go_at_call 172;refine(As _ _).mono ?_;rintro e w' ⟨rfl,rfl⟩)|(go_at_call 173;refine(Mr _ _).mono ?_;rintro e w' ⟨rfl,rfl⟩))
    go_ret;exact⟨qt (by rw[HE.out]),rfl⟩
 ·have HE:Hid (gZ s=2):=by unfold gZ;simp[h1,Hid]
  go_enter Tryz.func117,Tryz.ntmps117
  go_wp2_with (first|(go_at_call 171;refine(Ec _ _).mono ?_;rintro e w' ⟨rfl,rfl⟩)|(go_at_call 172;refine(As _ _).mono ?_;rintro e w' ⟨rfl,rfl⟩))
  go_ret;exact⟨qt (by rw[HE.out]),rfl⟩
theorem wH {k:IntKind}{a b:Int}(h:a=b):Value.int k a= .int k b:=by rw[h]
def sJ (x:W):aq:= [aa (cZ x.1),ae x.1,aa x.2]
theorem mP (w:an)(a b c:Value)(t:TypeId):∀j u,[a,b,c][j]?=some u->(w.alloc (.cells #[a,b,c] t)).cell? (((ai w.heap.size 0):Addr).add j)=some u:=by
 intro j u hj
 match j,hj with
 |0,hj=>simp at hj;subst hj;simp[Addr.add]
 |1,hj=>simp at hj;subst hj;simp[Addr.add]
 |2,hj=>simp at hj;subst hj;simp[Addr.add]
 |j+3,hj=>simp at hj
theorem Tryz.info148:(Tryz.prog.info? 148).map (fun i=>(i.zero,i.size,i.bytes))=some (some (.agg #[aa 0,ae ⟨#[]⟩,aa 0]),3,32):=by kernel_rfl
theorem NG (t:am)(w:an)(ht:t.size<=2000):
  Calls Tryz.prog 69 #[ae t] w fun e w'=>∃v,e= .returned v/\w'.ownsRow w.heap.size 148 3 v (fj t).length ((fj t).flatMap sJ)/\aj w w':=by
 obtain⟨i0,hi,Oh,Oi,Oj⟩:=info_parts Tryz.info148;go_enter Tryz.func69,Tryz.ntmps69
 go_wp2;go_loopw [3,4] (fun v a wr=>∃(n k:Nat) (pre:List W),k<=t.size/\t.size-k<=n/\pre.length<=k/\Hid (pre++jf t n k=wG t)/\a=aa k/\wr.ownsRow w.heap.size 148 3 v pre.length (pre.flatMap sJ)/\aj w wr) (fun _ i _=>t.size-(intOf i).toNat)
 case atStart=>exact⟨t.size,0,[],by omega,by omega,by simp,rfl,rfl,aX _ _ _ _,Below.refl _ _⟩
 case round=>
  obtain⟨n,k,pre,hk,hn,hpl,HL,rfl,N2,N8⟩:=hrel
  by_cases Oa:k<t.size
  ·have hbk:=gY Oa
   cases hg:Ar (eB t k)
   ·have he:=nS t k Oa;have Ok:0<(t.extract k (fT t k)).size:=by rw[aR];omega
    obtain⟨m,hm,Ob⟩:=vg hn Oa hg
    have HF:Hid ((pre++ [(t.extract k (fT t k),k)])++jf t m (fT t k)=wG t):=by
     have:=HL.out;rw[Ob]at this;simpa [Hid]using this
    have HK:Hid (cZ (t.extract k (fT t k))=gZ (t.extract k (fT t k))):=by
     unfold cZ;rw[if_neg (by omega)];exact rfl
    clear Ob;go_wp2_with (first|(go_at_call 115;refine(Ni _ _).mono ?_;rintro e w' ⟨rfl,rfl⟩)|(go_at_call 116;refine(NE _ _ _ Oa ht).mono ?_;rintro e w' ⟨rfl,rfl⟩)|(go_at_call 117;refine(NF _ _ Ok).mono ?_;rintro e w' ⟨rfl,rfl⟩)|(at_builtin;refine wpList_append_own_at _ rfl _ _ 155 rfl w.heap.size 148 i0 _ 3 32 Tryz.underlying155 hi Oh Oi Oj rfl (by decide) u3 _ _ rfl (N2.alloc _) _ 1 1 [_,_,_] rfl rfl (mP _ _ _ _ _) ?h1 ?Oc ?Od ?Oe ?_;rotate_right;intro v' w1 N3 N7 Of Og))
    case h1=>intro u hu;simp at hu;rcases hu with rfl|rfl|rfl<;>rfl
    case Oc=>unfold maxLen;omega
    case Od=>omega
    case Oe=>have:=N8.size;simp;omega
    refine⟨⟨m,fT t k,pre++ [(t.extract k (fT t k),k)],he.2,hm,by simp;omega,HF,wH (by omega),?_,?_⟩,by simp[intOf];omega⟩
    ·simpa [sJ,HK.out]using N3
    ·exact(N8.alloc N8.size _).grown N7 (by have:=N8.size;simp;omega) (fun j hj=>(N2.lt j hj).1)
   ·obtain⟨m,hm,Ob⟩:=sI hn Oa hg
    have HF:Hid (pre++jf t m (k+1)=wG t):=by
     have:=HL.out;rw[Ob]at this;simpa [Hid]using this
    clear Ob;go_wp2_with (first|(go_at_call 115;refine(Ni _ _).mono ?_;rintro e w' ⟨rfl,rfl⟩))
    go_roundw
    case rel=>exact⟨m,k+1,pre,by omega,hm,by omega,HF,by go_num,N2,N8⟩
    case measure=>simp[intOf];omega
  ·have HF:Hid (pre=wG t):=by
    have:=HL.out;rw[yn Oa]at this;simpa [Hid]using this
   go_wp2_with (first|(at_builtin;refine wpList_append_own_at _ rfl _ _ 155 rfl w.heap.size 148 i0 _ 3 32 Tryz.underlying155 hi Oh Oi Oj rfl (by decide) u3 _ _ rfl (N2.alloc _) _ 1 1 [_,_,_] rfl rfl (mP _ _ _ _ _) ?h1 ?Oc ?Od ?Oe ?_;rotate_right;intro v' w1 N3 N7 Of Og))
   case h1=>intro u hu;simp at hu;rcases hu with rfl|rfl|rfl<;>rfl
   case Oc=>unfold maxLen;omega
   case Od=>omega
   case Oe=>have:=N8.size;simp;omega
   go_ret;refine⟨v',rfl,?_,?_⟩
   ·have:=HF.out;subst this;have hk:cZ ⟨#[]⟩=4:=rfl;simpa [fj,sJ,hk]using N3
   ·exact(N8.alloc N8.size _).grown N7 (by have:=N8.size;simp;omega) (fun j hj=>(N2.lt j hj).1)
structure Rd (w:an)(rb wb:Nat)(ws:List W)(i:Nat):Prop where
 lt:i<ws.length
 few:ws.length<=2001
 ne:rb≠wb
 row:∃cap,w.cell? (ai rb 0)=some (.slice (some (ai wb 0)) ws.length cap)
 next:w.cell? (ai rb 1)=some (aa i)
 free:w.frozen? (ai rb 1)=false
 words:∀(k:Nat) (x:W),ws[k]?=some x->w.cell? (ai wb (k*3))=some (aa (cZ x.1))/\w.cell? (ai wb (k*3+1))=some (ae x.1)/\w.cell? (ai wb (k*3+2))=some (aa x.2)
 ends:∀(k:Nat) (x:W),ws[k]?=some x->0<x.1.size->k+1<ws.length
 small:∀(k:Nat) (x:W),ws[k]?=some x->x.1.size<=2000/\x.2<=2000
theorem Ed (e p:Int)(w:an):
  Calls Tryz.prog 68 #[aa e,aa p] w fun e' w'=>e'= .panicked [{v:= .iface 142 (.agg #[aa e,aa p]),recovered:=false}]/\w'=w:=by
 go_enter Tryz.func68,Tryz.ntmps68
 go_wp2;exact⟨rfl,rfl,rfl⟩
theorem BJ (w:an)(rb wb:Nat)(ws:List W)(i:Nat)(x:W)(R:Rd w rb wb ws i)(hx:ws[i]?=some x):
  Calls Tryz.prog 118 #[ag rb] w fun e w'=>e= .returned (.agg #[aa (cZ x.1),ae x.1,aa x.2])/\aj w w':=by
 obtain⟨cap,N2⟩:=R.row;have N3:=R.next;have hlt:=R.lt;have hfew:=R.few;obtain⟨q0,q1,q2⟩:=R.words i x hx;clear R hx;have a0:=fun o=>(co w o _ (aN _ _ N2)).trans N2
 have a1:=fun o=>(co w o _ (aN _ _ N3)).trans N3
 have b0:=fun o=>(co w o _ (aN _ _ q0)).trans q0
 have b1:=fun o=>(co w o _ (aN _ _ q1)).trans q1
 have b2:=fun o=>(co w o _ (aN _ _ q2)).trans q2
 go_enter Tryz.func118,Tryz.ntmps118
 go_wp2;go_region
 go_wp2;exact bodyPost_ret (v:= .agg #[aa (cZ x.1),ae x.1,aa x.2]) (by simp[results,Tryz.results118,go_sem]) rfl ⟨rfl,((Below.refl _ _).alloc (ay _) _).drew⟩
def yh (w:an)(rb j:Nat):an:=w.setCell (ai rb 1) (aa j)
def gm (n rb:Nat)(w w':an)(j:Nat):Prop:=Below n (yh w rb j) w'
theorem sK (w:an)(rb j:Nat):(yh w rb j).heap.size=w.heap.size:=by simp[yh,World.setCell]
def kh (off:Nat)(v:Value):Obj->Obj
 | .cells c e f=> .cells (c.setIfInBounds off v) e f
 |o=>o
theorem dd (w:an)(b off:Nat)(v:Value)(k:Nat):(w.setCell (ai b off) v).heap[k]?=if b=k then(w.heap[k]?).map (kh off v)else w.heap[k]?:=by
 simp only[World.setCell,Array.getElem?_modify]
 split
 ·cases w.heap[k]? with
  |none=>rfl
  |some o=>cases o<;>rfl
 ·rfl
theorem wI (off:Nat)(u v:Value)(o:Obj):kh off v (kh off u o)=kh off v o:=by
 cases o<;>simp[kh]
theorem yo {w:an}{b off:Nat}{v:Value}(h:w.cell? (ai b off)=some v):(w.heap[b]?).map (kh off v)=w.heap[b]?:=by
 unfold World.cell? at h
 cases ho:w.heap[b]? with
 |none=>rfl
 |some o=>
  simp only[ho]at h
  cases o with
  |cells c e f=>
   simp at h;simp only[Option.map_some,kh]
   congr 2;apply Array.ext
   ·simp
   ·intro i h1 h2;rw[Array.getElem_setIfInBounds]
    split
    ·subst_vars
     rw[bo h2]at h;exact(Option.some.inj h).symm
    ·rfl
  |_=>rfl
theorem gm.of_below {w w':an}{n rb j:Nat}(h:w.cell? (ai rb 1)=some (aa j))(hb:Below n w w'):gm n rb w w' j:=by
 refine⟨hb.os,hb.tape,hb.output,by rw[sK];exact hb.size,fun k hk=> ?_⟩;rw[hb.block k hk,yh,dd]
 split
 ·subst_vars;exact(yo h).symm
 ·rfl
theorem gm.trans {w w1 w2:an}{n m rb i j:Nat}(h:gm n rb w w1 i)(k:gm m rb w1 w2 j)(hnm:n<=m):gm n rb w w2 j:=by
 refine⟨k.os.trans h.os,k.tape.trans h.tape,k.output.trans h.output,?_,fun b hb=> ?_⟩
 ·have h1:=h.size;have h2:=k.size;rw[sK]at*;omega
 ·rw[k.block b (by omega),yh,dd,h.block b hb,yh,yh,dd,dd]
  split
  ·simp only[Option.map_map];congr 1;funext o;exact wI _ _ _ _
  ·rfl
theorem gm.size {w w':an}{n rb j:Nat}(h:gm n rb w w' j):w.heap.size<=w'.heap.size:=by have:=Below.size h;rwa [sK]at this
theorem gm.cell {w w':an}{n rb j:Nat}(h:gm n rb w w' j){a:Addr}(ha:a.block<n)(hne:a.block≠rb):w'.cell? a=w.cell? a:=by
 refine aZ ((Below.block h a.block ha).trans ?_);rw[yh,dd,if_neg (fun e=>hne e.symm)]
theorem gm.rd {w w':an}{n rb wb i j:Nat}{ws:List W}(R:Rd w rb wb ws i)(h:gm n rb w w' j)(hr:rb<n)(hw:wb<n)(hj:j<ws.length):Rd w' rb wb ws j:=by
 obtain⟨cap,N2⟩:=R.row;have N7:∀off,w'.cell? (ai wb off)=w.cell? (ai wb off):=fun off=>h.cell (a:=(ai wb off)) hw (fun e=>R.ne e.symm)
 refine⟨hj,R.few,R.ne,⟨cap,?_⟩,?_,?_,fun k x hx=> ?_,R.ends,R.small⟩
 ·rw[Below.cell h (p:=(ai rb 0)) hr,yh,World.cell?_setCell_other _ _ _ _ (by simp)];exact N2
 ·rw[Below.cell h (p:=(ai rb 1)) hr,yh];exact World.cell?_setCell_same _ _ _ R.next
 ·rw[Below.frozen h (p:=(ai rb 1)) hr,yh,World.frozen?_setCell];exact R.free
 ·rw[N7,N7,N7];exact R.words k x hx
theorem Rd.blocks {w:an}{rb wb i:Nat}{ws:List W}(R:Rd w rb wb ws i):rb<w.heap.size/\wb<w.heap.size:=by
 refine⟨aN _ _ R.next,?_⟩;obtain⟨x,hx⟩:∃x,ws[i]?=some x:=⟨_,aJ R.lt⟩;exact aN _ _ (R.words i x hx).1
end Go.Proofs.YtfebdimolnobaaaGreatDoor
