import Derived.Test.YtfebdimolnobaaaGreatDoorProg
import Derived.Below
import Derived.Deep.AppendLies
import Derived.OwnWalk
import Derived.Deep.DrawnRows
import Derived.WalkKit
import Derived.WalkSpells
import Derived.WalkLawsBesides
import Derived.Maps.AppendAt
set_option maxRecDepth 100000
set_option maxHeartbeats 8000000
set_option linter.all false
namespace Go.Proofs.YtfebdimolnobaaaGreatDoor
open Go.RowKit Go.Proofs.Tryz
section
set_option linter.defProp false
section
abbrev aa (n:Int):Value:=.int .i64 n
abbrev ag (s:ByteArray):Value:=.string s
abbrev aj (b o:Nat):Addr:=⟨b,o,none⟩
abbrev ah (b:Nat):Value:=.pointer (some ⟨b,0,none⟩)
abbrev ai:Value:=.slice none 0 0
abbrev ak (w w':World):Prop:=Below w.heap.size w w'
abbrev am (c:Array Value) (t:TypeId):Obj:=.cells c t
abbrev an:=ByteArray → Option Nat
abbrev ap:=List UInt8
abbrev aq:=Array Value
abbrev ar:=List Int
abbrev au:=ByteArray
abbrev aw:=World
abbrev ax:=Nat → Prop
abbrev ay:=List Value
abbrev aA:=List ByteArray
abbrev aB:=List Nat
abbrev aC:=Option Addr
abbrev _root_.Go.World.Vn(w:World)(c:Array Value)(t:TypeId):World:=w.alloc (.cells c t)
def aD:=@List.setIfInBounds_toArray
def aE:=@Nat.le_refl
def aF:=@List.set_cons_zero
def aG:=@List.set_cons_succ
def aH:=@List.getElem_cons_zero
def aI:=@Nat.lt_of_lt_of_le
def aJ:=@List.getElem_toArray
def aK:=@List.getElem_cons_succ
def aL:=@List.mem_of_getElem?
def aM:=@Nat.le_trans
def aN:=@List.length_append
def aO:=@List.getElem?_eq_getElem
def aP:=@Nat.zero_le
def aQ:=@Bool.and_eq_true
def aS:=@List.mem_map
def aR:=@List.mem_cons
def aT:=@List.getElem?_map
def aU:=@Bool.false_eq_true
def aV:=@World.block_lt_of_cell?
def aW:=@List.mem_append
def aX:=@List.nil_append
def aY:=@List.mem_cons_of_mem
def aZ:=@List.mem_cons_self
def ba:=@List.mem_singleton
def be:=@List.drop_eq_getElem_cons
def bf:=@ByteArray.size_extract
def bg:=@List.getElem?_eq_none
def bi:=@Option.map_eq_some_iff
def bj:=@List.append_assoc
def bm:=@List.contains_cons
def bn:=@List.getElem?_eq_some_iff
def bo:=@List.cons_append
def br:=@World.ownsRow_nil
def bt:=@List.flatMap_cons
def bu:=@List.pairwise_cons
def bw:=@List.length_cons
def bz:=@World.news_of_block
def bA:=@List.mem_filter
def bB:=@List.take_length
def bC:=@List.map_cons
def bE:=@World.cell?_of_block
def bF:=@List.eq_nil_of_length_eq_zero
def bG:=@Int.eq_ofNat_of_zero_le
def bH:=@Nat.le_succ
def bI:=@List.map_append
def bJ:=@ByteArray.size_append
def bK:=@Array.getElem?_eq_some_iff
def bM:=@List.map_map
def bN:=@List.length_take
def bO:=@List.length_map
def bS:=@Array.getElem?_toList
def bT:=@List.take_add_one
def bU:=@Array.getElem?_eq_getElem
def bV:=@List.append_nil
def bW:=@List.not_mem_nil
def bX:=@List.mem_iff_getElem?
def bY:=@List.take_append_drop
def bZ:=@List.length_filter_le
def ca:=@List.all_eq_true
def cg:=@List.pairwise_iff_getElem
def ch:=@List.take_of_length_le
def ci:=@World.size_alloc
def cj:=@List.getElem?_append_right
def ck:=@List.sum_cons
def cl:=@List.pairwise_append
def cm:=@List.filter_cons
def cn:=@Bool.eq_false_iff
def co:=@Option.isSome_iff_exists
def cp:=@List.getElem?_cons_succ
def cq:=@List.getElem?_cons_zero
def cr:=@List.getD_eq_getElem?_getD
def cu:=@List.drop_of_length_le
def cw:=@List.pairwise_map
def cy:=@List.getElem?_append_left
def cA:=@Nat.le_of_lt
def cC:=@List.getElem?_take_of_lt
def cD:=@List.drop_length
def cE:=@World.size_setCell
def cF:=@List.map_nil
def cG:=@List.getElem?_toArray
def cH:=@Bool.eq_iff_iff
def cI:=@World.cell?_alloc_lt
def cJ:=@List.mem_of_mem_drop
def cK:=@List.sum_append
def cL:=@Array.getElem?_eq_none
def cM:=@ByteArray.data_extract
def cN:=@List.filter_append
def cO:=@Bool.or_eq_true
def cS:=@ByteArray.ext
def cT:=@Bool.not_eq_true'
def cU:=@List.drop_eq_nil_iff
def cV:=@Bool.false_and
def cW:=@Bool.and_false
def cX:=@Array.toList_inj
def cY:=@Prod.ext
def cZ:=@List.take_succ_cons
def da:=@List.flatMap_append
def dd:=@List.filter_eq_self
def de:=@Bool.or_false
def df:=@Bool.true_and
def dg:=@Nat.add_assoc
def dh:=@List.length_nil
def dj:=@Int.le_refl
def dl:=@Nat.shiftLeft_add_eq_or_of_lt
def dm:=@List.take_append_of_le_length
def dq:=@Option.mem_toList
def dt:=@Bool.true_or
def du:=@List.getElem?_of_mem
def dv:=@Bool.or_eq_false_iff
def dw:=@Nat.pow_le_pow_right
def dx:=@Nat.shiftLeft_eq
def dy:=@Array.replicate_succ
def dz:=@Array.replicate_zero
def dA:=@Bool.false_or
def dB:=@Bool.and_true
def dC:=@Bool.not_true
def dD:=@Int.tmod_eq_emod_of_nonneg
def dE:=@List.filter_sublist
def dF:=@List.append_toArray
def dG:=@Int.natCast_add
def dH:=@Bool.or_true
def dI:=@Array.extract_size
def dJ:=@List.getElem?_drop
def dK:=@Bool.not_false
def dL:=@List.any_eq_false
def dM:=@List.nodup_append
def dN:=@List.getElem?_set
def dO:=@List.size_toArray
def dP:=@List.push_toArray
def dQ:=@if_neg
def dR:=@if_pos
def dS:=@decide_eq_true_eq
def dU:=@bodyPost_ret
def dV:=@congrArg
abbrev Vp:Value:=.string ⟨#[]⟩
abbrev Vq:=Calls Tryz.prog
abbrev Vr(g n c:Nat):Value:=.slice (some ⟨g,0,none⟩) n c
theorem Vs(w:World):Below w.heap.size w w:=Below.refl _ w
theorem Vt(w:World)(o:Obj):Below w.heap.size w (w.alloc o):=(Below.refl _ w).alloc (Nat.le_refl _) o
def _root_.Go.Calls.V:=@Go.Calls.mono
def _root_.Go.RowKit.Below.V:=@Go.RowKit.Below.mono
def _root_.Go.RowKit.Below.J:=@Go.RowKit.Below.trans
def _root_.Go.RowKit.Below.l:=@Go.RowKit.Below.heap_alloc
def _root_.Go.RowKit.Hid.o:=@Go.RowKit.Hid.out
def _root_.Eq.J:=@Eq.trans
def _root_.Iff.J:=@Iff.trans
def _root_.Eq.sy:=@Eq.symm
def _root_.Ne.sy:=@Ne.symm
def _root_.Iff.sy:=@Iff.symm
theorem Vu{A:Sort _}(a:A):∃R,a=R:=⟨_,rfl⟩
theorem Vv{P:Prop}(h:P:=by omega):P:=h
theorem Vw{P:Prop}(h:P:=by simp):P:=h
theorem Vx{P:Prop}(h:P:=by simp;omega):P:=h
theorem Vy{P:Prop}(h:P:=by decide):P:=h
theorem Vz{P:Prop}(h:P:=by decide+kernel):P:=h
theorem VA{P:Prop}(h:P:=by kernel_rfl):P:=h
theorem VB{P:Prop}(h:P:=by rfl):P:=h
theorem VC{P:Prop}(h:P:=by unfold maxLen;omega):P:=h
theorem VD{P:Prop}(h:P:=by simp[Value.oneCell']):P:=h
theorem VE{P:Prop}(h:P:=by first|omega|(simp<;>omega)):P:=h
theorem VF{P:Prop}(h:P:=by assumption):P:=h
theorem VG{P:Prop}(h:P:=by go_simp):P:=h
theorem Vo:(∀{α:Type} (l:List α) (i:Nat) (a:α),l.toArray.setIfInBounds i a=(l.set i a).toArray)∧(∀{α:Type} (x a:α) (l:List α),(x::l).set 0 a=a::l)∧(∀{α:Type} (x a:α) (l:List α) (i:Nat),(x::l).set (i+1) a=x::l.set i a)∧(∀{α:Type} (l:List α) (i:Nat) (h:i<l.toArray.size),l.toArray[i]=l[i]'(by simpa using h))∧(∀{α:Type} (x:α) (l:List α) (h:0<(x::l).length),(x::l)[0]=x)∧∀{α:Type} (x:α) (l:List α) (i:Nat) (h:i+1<(x::l).length),(x::l)[i+1]=l[i]'(by simpa using h):=⟨by simp,by simp,by simp,by simp,by simp,by simp⟩
namespace VH
attribute [scoped go_sem↓] Go.wp_at_zero Go.wp_at_succ
end VH
end
end
def wA (fn:Fn)(first cap:aq)(w:aw):(Instr.makeFunc fn first cap).run prog w= .ok (.func fn first cap) w:=rfl
def gl {α:Type}{l:List α}{i:Nat}{x:α}(h:l[i]?=some x):i<l.length:=(bn.1 h).1
def gx {α:Type}{l:List α}{i:Nat}(h:i<l.length):∃x,l[i]?=some x:=⟨_,aO h⟩
def vS (c:Int):Bool:=(decide (97<=c)&&decide (c<=122))||(decide (65<=c)&&decide (c<=90))||c==95
def mA (c:Int):Bool:=decide (48<=c)&&decide (c<=57)
def Do (c:Int):Bool:=c==32||c==10
def jb {a b:Bool}(h:a=true<->b=true):Ending.returned (.bool a)= .returned (.bool b):=by
 rw[cH.2 h]
def JP (c:Int)(w:aw):
  Calls prog 171 #[.int .u8 c] w λe w'=>e= .returned (.bool (vS c))/\w'=w:=by
 go_in
 go_wp2
 all_goals
  go_ret;exact⟨jb (by simp[vS];try omega),rfl⟩
def Ff (c:Int)(w:aw):
  Calls prog 172 #[.int .u8 c] w λe w'=>e= .returned (.bool (mA c))/\w'=w:=by
 go_in
 go_wp2
 all_goals
  go_ret;exact⟨jb (by simp[mA];try omega),rfl⟩
def Us (c:Int)(w:aw):
  Calls prog 115 #[.int .u8 c] w λe w'=>e= .returned (.bool (Do c))/\w'=w:=by
 go_in
 go_wp2
 all_goals
  go_ret;exact⟨jb (by simp[Do];try omega),rfl⟩
def NZ:List (ap):= [[109,101,115,115,97,103,101],[101,110,117,109],[114,101,112,101,97,116,101,100],[111,112,116,105,111,110,97,108],[111,110,101,111,102],[109,97,112]]
def m9:List (ap):= [[105,110,116,51,50],[105,110,116,54,52],[117,105,110,116,51,50],[117,105,110,116,54,52],[115,105,110,116,51,50],[115,105,110,116,54,52],[98,111,111,108],[102,105,120,101,100,51,50],[102,105,120,101,100,54,52],[115,102,105,120,101,100,51,50],[115,102,105,120,101,100,54,52],[102,108,111,97,116],[100,111,117,98,108,101],[115,116,114,105,110,103],[98,121,116,101,115]]
def pZ (l:ap):Bool:=NZ.contains l
def jK (l:ap):Bool:=m9.contains l
def TH (s:au)(w:aw):
  Calls prog 173 #[ag s] w λe w'=>e= .returned (.bool (pZ s.toList))/\w'=w:=by
 cases h0:(s.toList== [109,101,115,115,97,103,101]);rotate_left
 .go_in
  go_wp2;go_ret;exact⟨jb (by simp only[pZ,NZ,bm,h0];simp),rfl⟩
 cases h1:(s.toList== [101,110,117,109]);rotate_left
 .go_in
  go_wp2;go_ret;exact⟨jb (by simp only[pZ,NZ,bm,h0,h1];simp),rfl⟩
 cases h2:(s.toList== [114,101,112,101,97,116,101,100]);rotate_left
 .go_in
  go_wp2;go_ret;exact⟨jb (by simp only[pZ,NZ,bm,h0,h1,h2];simp),rfl⟩
 cases h3:(s.toList== [111,112,116,105,111,110,97,108]);rotate_left
 .go_in
  go_wp2;go_ret;exact⟨jb (by simp only[pZ,NZ,bm,h0,h1,h2,h3];simp),rfl⟩
 cases h4:(s.toList== [111,110,101,111,102]);rotate_left
 .go_in
  go_wp2;go_ret;exact⟨jb (by simp only[pZ,NZ,bm,h0,h1,h2,h3,h4];simp),rfl⟩
 cases h5:(s.toList== [109,97,112]);rotate_left
 .go_in
  go_wp2;go_ret;exact⟨jb (by simp only[pZ,NZ,bm,h0,h1,h2,h3,h4,h5];simp),rfl⟩
 .go_in
  go_wp2;go_ret;exact⟨jb (by simp only[pZ,NZ,bm,h0,h1,h2,h3,h4,h5];simp),rfl⟩
def Ut (s:au)(w:aw):
  Calls prog 174 #[ag s] w λe w'=>e= .returned (.bool (jK s.toList))/\w'=w:=by
 cases h0:(s.toList== [105,110,116,51,50]);rotate_left
 .go_in
  go_wp2;go_ret;exact⟨jb (by simp only[jK,m9,bm,h0];simp),rfl⟩
 cases h1:(s.toList== [105,110,116,54,52]);rotate_left
 .go_in
  go_wp2;go_ret;exact⟨jb (by simp only[jK,m9,bm,h0,h1];simp),rfl⟩
 cases h2:(s.toList== [117,105,110,116,51,50]);rotate_left
 .go_in
  go_wp2;go_ret;exact⟨jb (by simp only[jK,m9,bm,h0,h1,h2];simp),rfl⟩
 cases h3:(s.toList== [117,105,110,116,54,52]);rotate_left
 .go_in
  go_wp2;go_ret;exact⟨jb (by simp only[jK,m9,bm,h0,h1,h2,h3];simp),rfl⟩
 cases h4:(s.toList== [115,105,110,116,51,50]);rotate_left
 .go_in
  go_wp2;go_ret;exact⟨jb (by simp only[jK,m9,bm,h0,h1,h2,h3,h4];simp),rfl⟩
 cases h5:(s.toList== [115,105,110,116,54,52]);rotate_left
 .go_in
  go_wp2;go_ret;exact⟨jb (by simp only[jK,m9,bm,h0,h1,h2,h3,h4,h5];simp),rfl⟩
 cases h6:(s.toList== [98,111,111,108]);rotate_left
 .go_in
  go_wp2;go_ret;exact⟨jb (by simp only[jK,m9,bm,h0,h1,h2,h3,h4,h5,h6];simp),rfl⟩
 cases h7:(s.toList== [102,105,120,101,100,51,50]);rotate_left
 .go_in
  go_wp2;go_ret;exact⟨jb (by simp only[jK,m9,bm,h0,h1,h2,h3,h4,h5,h6,h7];simp),rfl⟩
 cases h8:(s.toList== [102,105,120,101,100,54,52]);rotate_left
 .go_in
  go_wp2;go_ret;exact⟨jb (by simp only[jK,m9,bm,h0,h1,h2,h3,h4,h5,h6,h7,h8];simp),rfl⟩
 cases h9:(s.toList== [115,102,105,120,101,100,51,50]);rotate_left
 .go_in
  go_wp2;go_ret;exact⟨jb (by simp only[jK,m9,bm,h0,h1,h2,h3,h4,h5,h6,h7,h8,h9];simp),rfl⟩
 cases h10:(s.toList== [115,102,105,120,101,100,54,52]);rotate_left
 .go_in
  go_wp2;go_ret;exact⟨jb (by simp only[jK,m9,bm,h0,h1,h2,h3,h4,h5,h6,h7,h8,h9,h10];simp),rfl⟩
 cases h11:(s.toList== [102,108,111,97,116]);rotate_left
 .go_in
  go_wp2;go_ret;exact⟨jb (by simp only[jK,m9,bm,h0,h1,h2,h3,h4,h5,h6,h7,h8,h9,h10,h11];simp),rfl⟩
 cases h12:(s.toList== [100,111,117,98,108,101]);rotate_left
 .go_in
  go_wp2;go_ret;exact⟨jb (by simp only[jK,m9,bm,h0,h1,h2,h3,h4,h5,h6,h7,h8,h9,h10,h11,h12];simp),rfl⟩
 cases h13:(s.toList== [115,116,114,105,110,103]);rotate_left
 .go_in
  go_wp2;go_ret;exact⟨jb (by simp only[jK,m9,bm,h0,h1,h2,h3,h4,h5,h6,h7,h8,h9,h10,h11,h12,h13];simp),rfl⟩
 cases h14:(s.toList== [98,121,116,101,115]);rotate_left
 .go_in
  go_wp2;go_ret;exact⟨jb (by simp only[jK,m9,bm,h0,h1,h2,h3,h4,h5,h6,h7,h8,h9,h10,h11,h12,h13,h14];simp),rfl⟩
 .go_in
  go_wp2;go_ret;exact⟨jb (by simp only[jK,m9,bm,h0,h1,h2,h3,h4,h5,h6,h7,h8,h9,h10,h11,h12,h13,h14];simp),rfl⟩
section
variable {t:au} {k n:Nat} {p:Int->Bool}
def gh (t:au)(k:Nat):Int:=if h:k<t.size then(t[k].toNat:Int)else 0
theorem jL (h:k<t.size):(t[k].toNat:Int)=gh t k:=by unfold gh;rw[dif_pos h]
def jc (p:Int->Bool)(t:au):Nat->Nat->Nat
 |0,k=>k
 |n+1,k=>if decide (k<t.size)&&p (gh t k)then jc p t n (k+1)else k
theorem wC (c:t.size-k<=n)(a:k<t.size)(b:p (gh t k)=true):
  ∃m,t.size-(k+1)<=m/\jc p t n k=jc p t m (k+1):=by
 cases n with
 |zero=>omega
 |succ m=>exact⟨m,Vv,by simp[jc,a,b]⟩
theorem ka (h:¬k<t.size\/p (gh t k)=false):jc p t n k=k:=by
 cases n with
 |zero=>rfl
 |succ m=>rcases h with h|h<;>simp[jc,h]
theorem Bq (p:Int->Bool)(t:au):∀n k,k<=t.size->k<=jc p t n k/\jc p t n k<=t.size
 |0,k,h=>⟨aE _,h⟩
 |n+1,k,h=>by
  unfold jc;by_cases hc:(decide (k<t.size)&&p (gh t k))=true
  .rw[dR hc];have a:k<t.size:=by simp at hc;exact hc.1
   have:=Bq p t n (k+1) a;omega
  .rw[dQ hc];omega
def xr (c:Int):Bool:=vS c||mA c
def ir (t:au)(a:Nat):Nat:=
 if vS (gh t a)then jc xr t t.size (a+1)else if mA (gh t a)&&gh t a !=48 then jc mA t t.size (a+1)else a+1
theorem pj (t:au)(a:Nat)(h:a<t.size):a+1<=ir t a/\ir t a<=t.size:=by
 unfold ir;split;.exact Bq _ _ _ _ h
 .split;.exact Bq _ _ _ _ h
  .omega
abbrev W:=au×Nat
def ld (t:au):Nat->Nat->List W
 |0,_=> []
 |n+1,a=>if a<t.size then if Do (gh t a)then ld t n (a+1)else(t.extract a (ir t a),a)::ld t n (ir t a)else []
def Ah (t:au):List W:=ld t t.size 0
def fQ (t:au):List W:=Ah t++ [(⟨#[]⟩,t.size)]
theorem xt {a:Nat}(h:¬a<t.size):ld t n a= []:=by
 cases n with
 |zero=>rfl
 |succ n=>simp[ld,h]
theorem xu {a:Nat}(c:t.size-a<=n)(h:a<t.size)(b:Do (gh t a)=true):
  ∃m,t.size-(a+1)<=m/\ld t n a=ld t m (a+1):=by
 cases n with
 |zero=>omega
 |succ m=>exact⟨m,Vv,by simp[ld,h,b]⟩
theorem Ai {a:Nat}(c:t.size-a<=n)(h:a<t.size)(b:Do (gh t a)=false):
  ∃m,t.size-(ir t a)<=m/\ld t n a=(t.extract a (ir t a),a)::ld t m (ir t a):=by
 cases n with
 |zero=>omega
 |succ m=>
  have:=pj t a h;exact⟨m,Vv,by simp[ld,h,b]⟩
theorem p6 (t:au):∀n a,∀x∈ld t n a,a<=x.2/\x.2<t.size/\0<x.1.size/\x.1.size<=t.size
 |0,a,x,h=>by simp[ld]at h
 |n+1,a,x,h=>by
  unfold ld at h;by_cases ha:a<t.size
  .rw[dR ha]at h;by_cases hg:Do (gh t a)=true;.rw[dR hg]at h;have:=p6 t n (a+1) x h;omega
   .rw[dQ hg]at h;have b:=pj t a ha;rcases aR.1 h with rfl|h;.refine⟨aE _,ha,?_,?_⟩<;>simp[bf]<;>omega
    .have:=p6 t n (ir t a) x h;omega
  .rw[dQ ha]at h;simp at h
theorem p7 (t:au):∀n a,(ld t n a).length<=t.size-a
 |0,a=>by simp[ld]
 |n+1,a=>by
  unfold ld;by_cases ha:a<t.size
  .rw[dR ha];have b:=pj t a ha;by_cases hg:Do (gh t a)=true;.rw[dR hg];have:=p7 t n (a+1);omega
   .rw[dQ hg];have:=p7 t n (ir t a);simp only[bw];omega
  .rw[dQ ha];simp
end
def um {k:IntKind}{a b:Int}(h:a=b):Ending.returned (.int k a)= .returned (.int k b):=by rw[h]
def UI (t:au)(a:Nat)(w:aw)(h:a<t.size)(s:t.size<=2000):
  Calls prog 116 #[ag t,aa a] w λe w'=>e= .returned (aa (ir t a))/\w'=w:=by
 have r:=jL h;cases h1:vS (gh t a)
 .cases h2:mA (gh t a)
  .have c:Hid (ir t a=a+1):=by unfold ir;simp[h1,h2,Hid]
   go_in
   go_wp2_with (first|(go_at_call 171;refine(JP _ _).V ?_;rintro e w' ⟨rfl,rfl⟩)|(go_at_call 172;refine(Ff _ _).V ?_;rintro e w' ⟨rfl,rfl⟩))
   go_ret;exact⟨um (by rw[c.o];simp),rfl⟩
  .cases h3:(gh t a !=48)
   .have c:Hid (ir t a=a+1):=by unfold ir;simp only[h1,h2,h3,Hid];simp
    go_in
    go_wp2_with (first|(go_at_call 171;refine(JP _ _).V ?_;rintro e w' ⟨rfl,rfl⟩)|(go_at_call 172;refine(Ff _ _).V ?_;rintro e w' ⟨rfl,rfl⟩))
    go_ret;exact⟨um (by rw[c.o];simp),rfl⟩
   .have c:Hid (ir t a=jc mA t t.size (a+1)):=by unfold ir;simp only[h1,h2,h3,Hid];simp
    go_in
    go_wp2_with (first|(go_at_call 171;refine(JP _ _).V ?_;rintro e w' ⟨rfl,rfl⟩)|(go_at_call 172;refine(Ff _ _).V ?_;rintro e w' ⟨rfl,rfl⟩))
    go_loop [6] (λi=>∃n k:Nat,k<=t.size/\t.size-k<=n/\Hid (jc mA t n k=jc mA t t.size (a+1))/\i=aa k) (λi=>t.size-(intOf i).toNat)
    case atStart=>exact⟨t.size,a+1,Vv,Vv,rfl,Vw⟩
    case round=>
     obtain⟨n,k,q,l,d,rfl⟩:=hrel;by_cases hlt:k<t.size
     .have o:=jL hlt;cases h4:mA (gh t k)
      .have b:Hid (k=jc mA t t.size (a+1)):=by rw[<-d.o,ka (.inr h4)];exact rfl
       go_wp2_with (first|(go_at_call 172;refine(Ff _ _).V ?_;rintro e w' ⟨rfl,rfl⟩))
       go_ret;exact⟨um (by rw[c.o,<-b.o]),rfl⟩
      .have⟨m,j,f⟩:=wC l hlt h4;have b:Hid (jc mA t m (k+1)=jc mA t t.size (a+1)):=f.sy.J d.o;clear f;go_wp2_with (first|(go_at_call 172;refine(Ff _ _).V ?_;rintro e w' ⟨rfl,rfl⟩))
       go_round
       case rel=>exact⟨m,k+1,Vv,j,b,by go_num⟩
       case measure=>simp[intOf];omega
     .have b:Hid (k=jc mA t t.size (a+1)):=by rw[<-d.o,ka (.inl hlt)];exact rfl
      go_wp2_with (first|(go_at_call 172;refine(Ff _ _).V ?_;rintro e w' ⟨rfl,rfl⟩))
      go_ret;exact⟨um (by rw[c.o,<-b.o]),rfl⟩
 .have c:Hid (ir t a=jc xr t t.size (a+1)):=by unfold ir;simp only[h1,Hid];simp
  go_in
  go_wp2_with (first|(go_at_call 171;refine(JP _ _).V ?_;rintro e w' ⟨rfl,rfl⟩)|(go_at_call 172;refine(Ff _ _).V ?_;rintro e w' ⟨rfl,rfl⟩))
  go_loop [6] (λi=>∃n k:Nat,k<=t.size/\t.size-k<=n/\Hid (jc xr t n k=jc xr t t.size (a+1))/\i=aa k) (λi=>t.size-(intOf i).toNat)
  case atStart=>exact⟨t.size,a+1,Vv,Vv,rfl,Vw⟩
  case round=>
   obtain⟨n,k,q,l,d,rfl⟩:=hrel;by_cases hlt:k<t.size
   .have o:=jL hlt;cases h4:xr (gh t k)
    .have b:Hid (k=jc xr t t.size (a+1)):=by rw[<-d.o,ka (.inr h4)];exact rfl
     have g:vS (gh t k)=false/\mA (gh t k)=false:=by simpa [xr]using h4
     obtain⟨g,p⟩:=g;clear h4;go_wp2_with (first|(go_at_call 171;refine(JP _ _).V ?_;rintro e w' ⟨rfl,rfl⟩)|(go_at_call 172;refine(Ff _ _).V ?_;rintro e w' ⟨rfl,rfl⟩))
     go_ret;exact⟨um (by rw[c.o,<-b.o]),rfl⟩
    .have⟨m,j,f⟩:=wC l hlt h4;have b:Hid (jc xr t m (k+1)=jc xr t t.size (a+1)):=f.sy.J d.o;clear f;cases g:vS (gh t k)
     .have p:mA (gh t k)=true:=by simpa [xr,g]using h4
      clear h4;go_wp2_with (first|(go_at_call 171;refine(JP _ _).V ?_;rintro e w' ⟨rfl,rfl⟩)|(go_at_call 172;refine(Ff _ _).V ?_;rintro e w' ⟨rfl,rfl⟩))
      go_round
      case rel=>exact⟨m,k+1,Vv,j,b,by go_num⟩
      case measure=>simp[intOf];omega
     .clear h4;go_wp2_with (first|(go_at_call 171;refine(JP _ _).V ?_;rintro e w' ⟨rfl,rfl⟩)|(go_at_call 172;refine(Ff _ _).V ?_;rintro e w' ⟨rfl,rfl⟩))
      go_round
      case rel=>exact⟨m,k+1,Vv,j,b,by go_num⟩
      case measure=>simp[intOf];omega
   .have b:Hid (k=jc xr t t.size (a+1)):=by rw[<-d.o,ka (.inl hlt)];exact rfl
    go_wp2_with (first|(go_at_call 172;refine(Ff _ _).V ?_;rintro e w' ⟨rfl,rfl⟩))
    go_ret;exact⟨um (by rw[c.o,<-b.o]),rfl⟩
def js (s:au):Int:=
 if mA (gh s 0)then 2 else if !vS (gh s 0)||pZ s.toList then 0 else if jK s.toList then 3 else 1
def dX (s:au):Int:=if s.size=0 then 4 else js s
def UJ (s:au)(w:aw)(h:0<s.size):
  Calls prog 117 #[ag s] w λe w'=>e= .returned (aa (js s))/\w'=w:=by
 have b:=jL h;cases h1:mA (gh s 0)
 .cases h2:vS (gh s 0)
  .have a:Hid (js s=0):=by unfold js;simp[h1,h2,Hid]
   go_in
   go_wp2_with (first|(go_at_call 171;refine(JP _ _).V ?_;rintro e w' ⟨rfl,rfl⟩)|(go_at_call 172;refine(Ff _ _).V ?_;rintro e w' ⟨rfl,rfl⟩))
   go_ret;exact⟨um (by rw[a.o]),rfl⟩
  .cases h3:pZ s.toList
   .cases h4:jK s.toList
    .have a:Hid (js s=1):=by unfold js;simp[h1,h2,h3,h4,Hid]
     go_in
     go_wp2_with (first|(go_at_call 171;refine(JP _ _).V ?_;rintro e w' ⟨rfl,rfl⟩)|(go_at_call 172;refine(Ff _ _).V ?_;rintro e w' ⟨rfl,rfl⟩)|(go_at_call 173;refine(TH _ _).V ?_;rintro e w' ⟨rfl,rfl⟩)|(go_at_call 174;refine(Ut _ _).V ?_;rintro e w' ⟨rfl,rfl⟩))
     go_ret;exact⟨um (by rw[a.o]),rfl⟩
    .have a:Hid (js s=3):=by unfold js;simp[h1,h2,h3,h4,Hid]
     go_in
     go_wp2_with (first|(go_at_call 171;refine(JP _ _).V ?_;rintro e w' ⟨rfl,rfl⟩)|(go_at_call 172;refine(Ff _ _).V ?_;rintro e w' ⟨rfl,rfl⟩)|(go_at_call 173;refine(TH _ _).V ?_;rintro e w' ⟨rfl,rfl⟩)|(go_at_call 174;refine(Ut _ _).V ?_;rintro e w' ⟨rfl,rfl⟩))
     go_ret;exact⟨um (by rw[a.o]),rfl⟩
   .have a:Hid (js s=0):=by unfold js;simp[h1,h2,h3,Hid]
    go_in
    go_wp2_with (first|(go_at_call 171;refine(JP _ _).V ?_;rintro e w' ⟨rfl,rfl⟩)|(go_at_call 172;refine(Ff _ _).V ?_;rintro e w' ⟨rfl,rfl⟩)|(go_at_call 173;refine(TH _ _).V ?_;rintro e w' ⟨rfl,rfl⟩))
    go_ret;exact⟨um (by rw[a.o]),rfl⟩
 .have a:Hid (js s=2):=by unfold js;simp[h1,Hid]
  go_in
  go_wp2_with (first|(go_at_call 171;refine(JP _ _).V ?_;rintro e w' ⟨rfl,rfl⟩)|(go_at_call 172;refine(Ff _ _).V ?_;rintro e w' ⟨rfl,rfl⟩))
  go_ret;exact⟨um (by rw[a.o]),rfl⟩
def Br {k:IntKind}{a b:Int}(h:a=b):Value.int k a= .int k b:=by rw[h]
def xw (x:W):ay:= [aa (dX x.1),ag x.1,aa x.2]
def p8 (w:aw)(a b c:Value)(t:TypeId):∀j u,[a,b,c][j]?=some u->(w.alloc (.cells #[a,b,c] t)).cell? (((aj w.heap.size 0):Addr).add j)=some u:=by
 intro j u d
 match j,d with
 |0,d=>simp at d;subst d;simp[Addr.add]
 |1,d=>simp at d;subst d;simp[Addr.add]
 |2,d=>simp at d;subst d;simp[Addr.add]
 |j+3,d=>simp at d
def Tryz.info148:(prog.info? 148).map (λi=>(i.zero,i.size,i.bytes))=some (some (.agg #[aa 0,Vp,aa 0]),3,32):=VA
def UK (t:au)(w:aw)(K:t.size<=2000):
  Calls prog 69 #[ag t] w λe w'=>∃v,e= .returned v/\w'.ownsRow w.heap.size 148 3 v (fQ t).length ((fQ t).flatMap xw)/\ak w w':=by
 have⟨C,z,s,x,y⟩:=info_parts Tryz.info148;go_in
 go_wp2;go_loopw [3,4] (λv a wr=>∃(n k:Nat) (pre:List W),k<=t.size/\t.size-k<=n/\pre.length<=k/\Hid (pre++ld t n k=Ah t)/\a=aa k/\wr.ownsRow w.heap.size 148 3 v pre.length (pre.flatMap xw)/\ak w wr) (λ_ i _=>t.size-(intOf i).toNat)
 case atStart=>exact⟨t.size,0,[],Vv,Vv,Vw,rfl,rfl,br _ _ _ _,Below.refl _ _⟩
 case round=>
  obtain⟨n,k,pre,A,B,J,l,rfl,f,b⟩:=hrel;by_cases c:k<t.size
  .have H:=jL c;cases hg:Do (gh t k)
   .have I:=pj t k c;have G:0<(t.extract k (ir t k)).size:=by rw[bf];omega
    have⟨m,r,g⟩:=Ai B c hg;have d:Hid ((pre++ [(t.extract k (ir t k),k)])++ld t m (ir t k)=Ah t):=(by have:=l.o;rw[g]at this;simpa [Hid]using this);have D:Hid (dX (t.extract k (ir t k))=js (t.extract k (ir t k))):=(by unfold dX;rw[dQ Vv];exact rfl);clear g;go_wp2_with (first|(go_at_call 115;refine(Us _ _).V ?_;rintro e w' ⟨rfl,rfl⟩)|(go_at_call 116;refine(UI _ _ _ c K).V ?_;rintro e w' ⟨rfl,rfl⟩)|(go_at_call 117;refine(UJ _ _ G).V ?_;rintro e w' ⟨rfl,rfl⟩)|(at_builtin;refine wpList_append_own_at _ rfl _ _ 155 rfl w.heap.size 148 C _ 3 32 underlying155 z s x y rfl Vy u3 _ _ rfl (f.alloc _) _ 1 1 [_,_,_] rfl rfl (p8 _ _ _ _ _) ?h1 ?VO ?VP ?VQ ?_;rotate_right;intro v' w1 o p E F))
    case h1=>intro u h;simp at h;rcases h with rfl|rfl|rfl<;>rfl
    case VO=>unfold maxLen;omega
    case VP=>omega
    case VQ=>have:=b.size;simp;omega
    refine⟨⟨m,ir t k,pre++ [(t.extract k (ir t k),k)],I.2,r,Vx,d,Br Vv,?_,?_⟩,by simp[intOf];omega⟩;.simpa [xw,D.o]using o
    .exact(b.alloc b.size _).grown p (by have:=b.size;simp;omega) (λj q=>(f.lt j q).1)
   .have⟨m,r,g⟩:=xu B c hg;have d:Hid (pre++ld t m (k+1)=Ah t):=(by have:=l.o;rw[g]at this;simpa [Hid]using this);clear g;go_wp2_with (first|(go_at_call 115;refine(Us _ _).V ?_;rintro e w' ⟨rfl,rfl⟩))
    go_roundw
    case rel=>exact⟨m,k+1,pre,Vv,r,Vv,d,by go_num,f,b⟩
    case measure=>simp[intOf];omega
  .have d:Hid (pre=Ah t):=(by have:=l.o;rw[xt c]at this;simpa [Hid]using this);go_wp2_with (first|(at_builtin;refine wpList_append_own_at _ rfl _ _ 155 rfl w.heap.size 148 C _ 3 32 underlying155 z s x y rfl Vy u3 _ _ rfl (f.alloc _) _ 1 1 [_,_,_] rfl rfl (p8 _ _ _ _ _) ?h1 ?VO ?VP ?VQ ?_;rotate_right;intro v' w1 o p E F))
   case h1=>intro u h;simp at h;rcases h with rfl|rfl|rfl<;>rfl
   case VO=>unfold maxLen;omega
   case VP=>omega
   case VQ=>have:=b.size;simp;omega
   go_ret;refine⟨v',rfl,?_,?_⟩;.have:=d.o;subst this;have A:dX ⟨#[]⟩=4:=rfl;simpa [fQ,xw,A]using o
   .exact(b.alloc b.size _).grown p (by have:=b.size;simp;omega) (λj q=>(f.lt j q).1)
section
variable {w w':aw} {n rb j:Nat} {ws:List W}
structure Rd (w:aw)(rb wb:Nat)(ws:List W)(i:Nat):Prop where
 lt:i<ws.length
 few:ws.length<=2001
 ne:rb≠wb
 row:∃cap,w.cell? (aj rb 0)=some (Vr wb ws.length cap)
 next:w.cell? (aj rb 1)=some (aa i)
 free:w.frozen? (aj rb 1)=false
 words:∀(k:Nat) (x:W),ws[k]?=some x->w.cell? (aj wb (k*3))=some (aa (dX x.1))/\w.cell? (aj wb (k*3+1))=some (ag x.1)/\w.cell? (aj wb (k*3+2))=some (aa x.2)
 ends:∀(k:Nat) (x:W),ws[k]?=some x->0<x.1.size->k+1<ws.length
 small:∀(k:Nat) (x:W),ws[k]?=some x->x.1.size<=2000/\x.2<=2000
theorem JQ (e p:Int)(w:aw):
  Calls prog 68 #[aa e,aa p] w λe' w'=>e'= .panicked [{v:= .iface 142 (.agg #[aa e,aa p]),recovered:=false}]/\w'=w:=by
 go_in
 go_wp2;exact⟨rfl,rfl,rfl⟩
theorem NO (w:aw)(rb wb:Nat)(ws:List W)(i:Nat)(x:W)(R:Rd w rb wb ws i)(d:ws[i]?=some x):
  Calls prog 118 #[ah rb] w λe w'=>e= .returned (.agg #[aa (dX x.1),ag x.1,aa x.2])/\ak w w':=by
 have⟨j,a⟩:=R.row;have b:=R.next;have k:=R.lt;have c:=R.few;have⟨f,g,h⟩:=R.words i x d;clear R d;have l:=λo=>(cI w o _ (aV _ _ a)).J a
 have m:=λo=>(cI w o _ (aV _ _ b)).J b
 have n:=λo=>(cI w o _ (aV _ _ f)).J f
 have p:=λo=>(cI w o _ (aV _ _ g)).J g
 have q:=λo=>(cI w o _ (aV _ _ h)).J h
 go_in
 go_wp2;go_region
 go_wp2;exact dU (v:= .agg #[aa (dX x.1),ag x.1,aa x.2]) (by simp[results,results118,go_sem]) rfl ⟨rfl,((Below.refl _ _).alloc (aE _) _).drew⟩
def Dh (w:aw)(rb j:Nat):aw:=w.setCell (aj rb 1) (aa j)
def jD (n rb:Nat)(w w':aw)(j:Nat):Prop:=Below n (Dh w rb j) w'
theorem xy (w:aw)(rb j:Nat):(Dh w rb j).heap.size=w.heap.size:=by simp[Dh,World.setCell]
def ng (off:Nat)(v:Value):Obj->Obj
 | .cells c e f=> .cells (c.setIfInBounds off v) e f
 |o=>o
theorem dY (w:aw)(b off:Nat)(v:Value)(k:Nat):(w.setCell (aj b off) v).heap[k]?=if b=k then(w.heap[k]?).map (ng off v)else w.heap[k]?:=by
 simp only[World.setCell,Array.getElem?_modify];split
 .cases w.heap[k]? with
  |none=>rfl
  |some o=>cases o<;>rfl
 .rfl
theorem Bt (off:Nat)(u v:Value)(o:Obj):ng off v (ng off u o)=ng off v o:=by
 cases o<;>simp[ng]
theorem Dp {b off:Nat}{v:Value}(h:w.cell? (aj b off)=some v):(w.heap[b]?).map (ng off v)=w.heap[b]?:=by
 unfold World.cell? at h
 cases ho:w.heap[b]? with
 |none=>rfl
 |some o=>
  simp only[ho]at h
  cases o with
  |cells c e f=>
   simp at h;simp only[Option.map_some,ng];congr 2;apply Array.ext;.simp
   .intro i d a;rw[Array.getElem_setIfInBounds];split;.subst_vars;rw[bU a]at h;exact(Option.some.inj h).sy
    .rfl
  |_=>rfl
theorem jD.oB (h:w.cell? (aj rb 1)=some (aa j))(a:Below n w w'):jD n rb w w' j:=by
 refine⟨a.os,a.tape,a.output,by rw[xy];exact a.size,λk b=> ?_⟩;rw[a.block k b,Dh,dY];split;.subst_vars;exact(Dp h).sy
 .rfl
theorem jD.J {w1 w2:aw}{m i:Nat}(h:jD n rb w w1 i)(k:jD m rb w1 w2 j)(c:n<=m):jD n rb w w2 j:=by
 refine⟨k.os.J h.os,k.tape.J h.tape,k.output.J h.output,?_,λb a=> ?_⟩;.have d:=h.size;have e:=k.size;rw[xy]at*;omega
 .rw[k.block b Vv,Dh,dY,h.block b a,Dh,Dh,dY,dY];split;.simp only[Option.map_map];congr 1;funext o;exact Bt _ _ _ _
  .rfl
theorem jD.size (h:jD n rb w w' j):w.heap.size<=w'.heap.size:=by have:=Below.size h;rwa [xy]at this
theorem jD.cell (h:jD n rb w w' j){a:Addr}(c:a.block<n)(b:a.block≠rb):w'.cell? a=w.cell? a:=by
 refine bE ((Below.block h a.block c).J ?_);rw[Dh,dY,dQ (λe=>b e.sy)]
theorem jD.rd {wb i:Nat}(R:Rd w rb wb ws i)(h:jD n rb w w' j)(f:rb<n)(q:wb<n)(m:j<ws.length):Rd w' rb wb ws j:=by
 have⟨d,g⟩:=R.row;have c:∀b,w'.cell? (aj wb b)=w.cell? (aj wb b):=λb=>h.cell (a:=(aj wb b)) q (λe=>R.ne e.sy)
 refine⟨m,R.few,R.ne,⟨d,?_⟩,?_,?_,λk x l=> ?_,R.ends,R.small⟩;.rw[Below.cell h (p:=(aj rb 0)) f,Dh,World.cell?_setCell_other _ _ _ _ Vw];exact g
 .rw[Below.cell h (p:=(aj rb 1)) f,Dh];exact World.cell?_setCell_same _ _ _ R.next
 .rw[Below.frozen h (p:=(aj rb 1)) f,Dh,World.frozen?_setCell];exact R.free
 .rw[c,c,c];exact R.words k x l
theorem Rd.blocks {wb i:Nat}(R:Rd w rb wb ws i):rb<w.heap.size/\wb<w.heap.size:=by
 refine⟨aV _ _ R.next,?_⟩;obtain⟨x,a⟩:∃x,ws[i]?=some x:=⟨_,aO R.lt⟩;exact aV _ _ (R.words i x a).1
end
section
variable (w:aw) {b n rb j:Nat} {w1 w':aw} {ws:List W} {row:Option Nat} {s:au}
theorem gW {w:aw}(h:b<w.heap.size):(∀o off,(w.alloc o).cell? (aj b off)=w.cell? (aj b off))/\(∀o off,(w.alloc o).frozen? (aj b off)=w.frozen? (aj b off))/\¬b=w.heap.size/\¬w.heap.size=b:=
 ⟨λo off=>cI w o (aj b off) h,λo off=>World.frozen?_of_block (Below.l w o b h),Vv,Vv⟩
theorem qO {w:aw}(a:Below n w w1)(h:b<n):(∀off,w1.cell? (aj b off)=w.cell? (aj b off))/\(∀off,w1.frozen? (aj b off)=w.frozen? (aj b off)):=
 ⟨λoff=>a.cell (p:=(aj b off)) h,λoff=>a.frozen (p:=(aj b off)) h⟩
theorem Rd.G {w:aw}{wb i:Nat}(R:Rd w rb wb ws i)(h:Below n w w')(a:rb<n)(b:wb<n):Rd w' rb wb ws i:=
 (jD.oB R.next h).rd R a b R.lt
theorem Rd.alloc {w:aw}{wb i:Nat}(R:Rd w rb wb ws i)(o:Obj):Rd (w.alloc o) rb wb ws i:=
 R.G ((Vs w).alloc (aE _) o) R.blocks.1 R.blocks.2
theorem jD.alloc {w:aw}(h:jD n rb w w' j)(a:n<=w.heap.size)(o:Obj):jD n rb w (w'.alloc o) j:=
 Below.alloc h (aM a h.size) o
theorem jD.setCell {w:aw}(h:jD n rb w w' j){a:Addr}(b:n<=a.block)(u:Value):jD n rb w (w'.setCell a u) j:=Below.setCell h b u
theorem jD.drew {w:aw}(h:jD n rb w w' j):jD n rb w w'.drew j:=Below.drew h
theorem jD.grown {w:aw}(h:jD n rb w w1 j)(a:w1.grownBy w' row)(b:n<=w.heap.size)(c:∀k,row=some k->n<=k):jD n rb w w' j:=
 Below.grown h a (aM b h.size) c
theorem jD.G {w:aw}{m:Nat}(h:jD n rb w w1 j)(b:Below m w1 w')(a:n<=m):jD n rb w w' j:=Below.J h (b.V a)
theorem jD.step {w:aw}{i:Nat}(h:jD n rb w w' i)(j:Nat):jD n rb w (w'.setCell (aj rb 1) (aa j)) j:=
 h.J (Below.refl n (Dh w' rb j)) (aE _)
theorem Sx (rb wb:Nat)(ws:List W)(i:Nat)(x:W)(R:Rd w rb wb ws i)(h:ws[i]?=some x)(n:0<x.1.size):
  Calls prog 337 #[ah rb] w λe w'=>e= .returned (.agg #[aa (dX x.1),ag x.1,aa x.2])/\Rd w' rb wb ws (i+1)/\jD w.heap.size rb w w' (i+1):=by
 have m:=R.lt;have g:=R.few;have⟨k,l⟩:=R.blocks;go_in
 go_wp2_with fail;refine(NO _ rb wb ws i x (R.alloc _) h).V ?_;rintro e w1 ⟨rfl,c⟩;have o:w.heap.size<w1.heap.size:=by have:=c.size;simp at this;omega
 have f:=(R.alloc _).G c Vx Vx;have⟨t,u,y,z⟩:=gW (w:=w1) (b:=rb) Vv;have⟨s1,s2,A,B⟩:=gW (w:=w1) (b:=w.heap.size) o;have⟨C,D⟩:=qO c (b:=w.heap.size) Vw;have p:=f.next;have q:=f.free;have r:¬rb=w.heap.size:=Vv;have s:¬w.heap.size=rb:=Vv;go_wp2_with fail;have j:jD w.heap.size rb w w1 i:=jD.oB R.next ((Vt w _).J (c.V Vw));have d:=(((((j.alloc (aE _) (am #[Value.int IntKind.i64 (dX x.fst),Value.string x.fst,Value.int IntKind.i64 x.snd] 148)).step (i+1)).setCell (a:=(aj w.heap.size 0)) (aE _) (Value.int IntKind.i64 (dX x.fst))).setCell (a:=(aj w.heap.size 1)) (aE _) (Value.string x.fst)).setCell (a:=(aj w.heap.size 2)) (aE _) (Value.int IntKind.i64 x.snd));refine dU (v:= .agg #[aa (dX x.1),ag x.1,aa x.2]) ?_ rfl ⟨rfl,?_,d⟩;.simp[results,results337,go_sem, *]
 .exact d.rd R k l (R.ends i x h n)
theorem jS (a b c:Value)(w:aw):(Instr.field 148 (.agg #[a,b,c]) 0).run prog w= .ok a w:=VA
theorem jT (a b c:Value)(w:aw):(Instr.field 148 (.agg #[a,b,c]) 1).run prog w= .ok b w:=VA
theorem jU (a b c:Value)(w:aw):(Instr.field 148 (.agg #[a,b,c]) 2).run prog w= .ok c w:=VA
attribute [local go_sem] jS jT jU
def d5 (e p:Int):Ending:= .panicked [{v:= .iface 142 (.agg #[aa e,aa p]),recovered:=false}]
theorem Uu (rb wb:Nat)(ws:List W)(i:Nat)(x:W)(R:Rd w rb wb ws i)(b:ws[i]?=some x):
  Calls prog 336 #[ah rb] w λe w'=>e=d5 2 x.2/\ak w w':=by
 go_in
 go_wp2_with fail;refine(NO _ rb wb ws i x R b).V ?_;rintro e w1 ⟨rfl,a⟩;go_wp2_with fail;refine(JQ _ _ _).V ?_;rintro e w2 ⟨rfl,rfl⟩;go_wp2;exact⟨rfl,rfl,a⟩
theorem N2 (rb wb:Nat)(ws:List W)(i:Nat)(x:W)(s:au)(R:Rd w rb wb ws i)(b:ws[i]?=some x):
  Calls prog 175 #[ah rb,ag s] w λe w'=>e= .returned (.bool (x.1.toList==s.toList))/\ak w w':=by
 go_in
 go_wp2_with fail;refine(NO _ rb wb ws i x R b).V ?_;rintro e w1 ⟨rfl,a⟩;go_wp2;go_ret;exact⟨rfl,a⟩
theorem sJ (h:dX s≠4):0<s.size:=by
 unfold dX at h;by_cases h0:s.size=0;.rw[dR h0]at h;exact absurd rfl h
 .omega
theorem sK {l:ap}(h:(s.toList==l)=true)(c:0<l.length):0<s.size:=by
 have a:s.toList=l:=by simpa using h
 have b:s.toList.length=s.size:=by rw[ByteArray.toList_eq];rfl
 rw[a]at b;omega
theorem QD (rb wb:Nat)(ws:List W)(i:Nat)(x:W)(s:au)(R:Rd w rb wb ws i)(c:ws[i]?=some x)(j:(x.1.toList==s.toList)=true)(h:0<x.1.size):
  Calls prog 256 #[ah rb,ag s] w λe w'=>e= .returned (.tuple #[])/\Rd w' rb wb ws (i+1)/\jD w.heap.size rb w w' (i+1):=by
 go_in
 go_wp2_with fail;refine(N2 _ rb wb ws i x s R c).V ?_;rintro e w1 ⟨rfl,b⟩;have f:=R.G b R.blocks.1 R.blocks.2;have a:=jD.oB R.next b;go_wp2_with fail;refine(Sx _ rb wb ws i x f c h).V ?_;rintro e w2 ⟨rfl,g,d⟩;go_wp2;go_end0;exact⟨rfl,g,a.J d a.size⟩
theorem QE (rb wb:Nat)(ws:List W)(i:Nat)(x:W)(s:au)(R:Rd w rb wb ws i)(b:ws[i]?=some x)(g:(x.1.toList==s.toList)=false):
  Calls prog 256 #[ah rb,ag s] w λe w'=>e=d5 2 x.2/\jD w.heap.size rb w w' i:=by
 go_in
 go_wp2_with fail;refine(N2 _ rb wb ws i x s R b).V ?_;rintro e w1 ⟨rfl,a⟩;have d:=R.G a R.blocks.1 R.blocks.2;have c:=jD.oB R.next a;go_wp2_with fail;refine(Uu _ rb wb ws i x d b).V ?_;rintro e w2 ⟨rfl,f⟩;unfold d5;go_wp2;exact⟨rfl,rfl,c.G f a.size⟩
theorem QF (rb wb:Nat)(ws:List W)(i:Nat)(x:W)(k:Int)(R:Rd w rb wb ws i)(g:ws[i]?=some x)(t:(dX x.1 !=k)=false)(j:0<x.1.size):
  Calls prog 257 #[ah rb,aa k] w λe w'=>e= .returned (.agg #[aa (dX x.1),ag x.1,aa x.2])/\Rd w' rb wb ws (i+1)/\jD w.heap.size rb w w' (i+1):=by
 have o:=(Vs w).alloc (aE _) (am #[Value.int IntKind.i64 0,Value.string {data:= #[]},Value.int IntKind.i64 0] 148);go_in
 go_wp2_with fail;refine(NO _ rb wb ws i x (R.alloc _) g).V ?_;rintro e w1 ⟨rfl,d⟩;have q:=(R.alloc _).G d (R.alloc _).blocks.1 (R.alloc _).blocks.2;have m:=jD.oB R.next (o.J (d.V Vw));have l:w.heap.size<w1.heap.size:=by have:=d.size;simp at this;omega
 go_wp2_with fail;refine(Sx _ rb wb ws i x q g j).V ?_;rintro e w2 ⟨rfl,s,f⟩;have n:=m.J f Vv;have r:¬w.heap.size=rb:=by have:=R.blocks;omega
 have⟨u,y⟩:=qO d (b:=w.heap.size) Vw;have u1:∀c,w2.cell? (aj w.heap.size c)=w1.cell? (aj w.heap.size c):=λc=>f.cell (a:=(aj w.heap.size c)) l r
 have u2:∀c,w2.frozen? (aj w.heap.size c)=w1.frozen? (aj w.heap.size c):=λc=>(Below.frozen f (p:=(aj w.heap.size c)) l).J (World.frozen?_setCell _ _ _ _)
 go_wp2;have h:=((n.setCell (a:=(aj w.heap.size 0)) (aE _) (Value.int IntKind.i64 (dX x.fst))).setCell (a:=(aj w.heap.size 1)) (aE _) (Value.string x.fst)).setCell (a:=(aj w.heap.size 2)) (aE _) (Value.int IntKind.i64 x.snd);refine dU (v:= .agg #[aa (dX x.1),ag x.1,aa x.2]) ?_ rfl ⟨rfl,?_,h⟩;.simp[results,results257,go_sem, *]
 .exact h.rd R R.blocks.1 R.blocks.2 (R.ends i x g j)
theorem QG (rb wb:Nat)(ws:List W)(i:Nat)(x:W)(k:Int)(R:Rd w rb wb ws i)(b:ws[i]?=some x)(h:(dX x.1 !=k)=true):
  Calls prog 257 #[ah rb,aa k] w λe w'=>e=d5 2 x.2/\jD w.heap.size rb w w' i:=by
 have d:=(Vs w).alloc (aE _) (am #[Value.int IntKind.i64 0,Value.string {data:= #[]},Value.int IntKind.i64 0] 148);go_in
 go_wp2_with fail;refine(NO _ rb wb ws i x (R.alloc _) b).V ?_;rintro e w1 ⟨rfl,a⟩;have f:=(R.alloc _).G a (R.alloc _).blocks.1 (R.alloc _).blocks.2;have c:=jD.oB R.next (d.J (a.V Vw));have j:w.heap.size<w1.heap.size:=by have:=a.size;simp at this;omega
 go_wp2_with fail;refine(Uu _ rb wb ws i x f b).V ?_;rintro e w2 ⟨rfl,g⟩;unfold d5;go_wp2;exact⟨rfl,rfl,c.G g Vv⟩
end
section
variable {α:Type} {k i:Nat} (ws:List W) {stop:Nat->Bool}
structure eW where
 form:Int
 key:Option W
 type:W
 name:W
 num:W
structure fK where
 oneof:Option W
 fields:List eW
structure d9 where
 enum:Bool
 name:W
 parts:List fK
 values:List (W×W)
abbrev oF (α:Type):=Except Nat (α×Nat)
def gP {α β:Type}(r:oF α)(f:α->Nat->oF β):oF β:=
 match r with
 | .error p=> .error p
 | .ok (a,j)=>f a j
def kO (ws:List W)(k:Int)(i:Nat):oF W:=
 match ws[i]? with
 |some x=>if dX x.1==k then .ok (x,i+1)else .error x.2
 |none=> .error 0
def gw (ws:List W)(s:ap)(i:Nat):oF Unit:=
 match ws[i]? with
 |some x=>if x.1.toList==s then .ok ((),i+1)else .error x.2
 |none=> .error 0
def pN (ws:List W)(i:Nat):oF W:=
 match ws[i]? with
 |some x=>if dX x.1==3||dX x.1==1 then .ok (x,i+1)else .error x.2
 |none=> .error 0
def kY (ws:List W)(i:Nat):oF (W×W):=
 gP (kO ws 1 i) λn i=>gP (gw ws [61] i) λ_ i=>gP (kO ws 2 i) λm i=>gP (gw ws [59] i) λ_ i=> .ok ((n,m),i)
def fZ (ws:List W)(form:Int)(i:Nat):oF eW:=
 gP (pN ws i) λt i=>gP (kY ws i) λnm i=> .ok (⟨form,none,t,nm.1,nm.2⟩,i)
def nP (ws:List W)(i:Nat):oF eW:=
 gP (gw ws [109,97,112] i) λ_ i=>gP (gw ws [60] i) λ_ i=>gP (pN ws i) λk i=>gP (gw ws [44] i) λ_ i=>
 gP (pN ws i) λt i=>gP (gw ws [62] i) λ_ i=>gP (kY ws i) λnm i=> .ok (⟨4,some k,t,nm.1,nm.2⟩,i)
def gJ {α:Type}(stop:Nat->Bool)(p:Nat->oF α):Nat->Nat->oF (List α)
 |0,i=> .ok ([],i)
 |n+1,i=>if stop i then .ok ([],i)else gP (p i) λa j=>gP (gJ stop p n j) λl k=> .ok (a::l,k)
def nQ {α:Type}(pre:List α)(r:oF (List α)):oF (List α):=gP r λl k=> .ok (pre++l,k)
def gy (ws:List W)(s:ap)(i:Nat):Bool:=
 match ws[i]? with
 |some x=>x.1.toList==s
 |none=>true
def oG (ws:List W)(i:Nat):Bool:=
 match ws[i]? with
 |some x=>dX x.1==4
 |none=>true
def jh (ws:List W)(i:Nat):oF fK:=
 gP (gw ws [111,110,101,111,102] i) λ_ i=>gP (kO ws 1 i) λo i=>gP (gw ws [123] i) λ_ i=>gP (fZ ws 3 i) λf i=>
 gP (nQ [f] (gJ (gy ws [125]) (fZ ws 3) ws.length i)) λl i=>gP (gw ws [125] i) λ_ i=> .ok (⟨some o,l⟩,i)
def mB (r:oF eW):oF fK:=gP r λf i=> .ok (⟨none,[f]⟩,i)
def kB (ws:List W)(i:Nat):oF fK:=
 if gy ws [111,110,101,111,102] i then jh ws i
 else if gy ws [109,97,112] i then mB (nP ws i)
 else if gy ws [114,101,112,101,97,116,101,100] i then mB (fZ ws 2 (i+1))
 else if gy ws [111,112,116,105,111,110,97,108] i then mB (fZ ws 1 (i+1))
 else mB (fZ ws 0 i)
def ij (ws:List W)(i:Nat):oF d9:=
 gP (gw ws [109,101,115,115,97,103,101] i) λ_ i=>gP (kO ws 1 i) λn i=>gP (gw ws [123] i) λ_ i=>
 gP (gJ (gy ws [125]) (kB ws) ws.length i) λl i=>gP (gw ws [125] i) λ_ i=> .ok (⟨false,n,l,[]⟩,i)
def lX (ws:List W)(i:Nat):oF d9:=
 gP (gw ws [101,110,117,109] i) λ_ i=>gP (kO ws 1 i) λn i=>gP (gw ws [123] i) λ_ i=>
 gP (gJ (gy ws [125]) (kY ws) ws.length i) λl i=>gP (gw ws [125] i) λ_ i=> .ok (⟨true,n,[],l⟩,i)
def jV (ws:List W)(i:Nat):oF d9:=if gy ws [101,110,117,109] i then lX ws i else ij ws i
def p9 (ws:List W):oF (List d9):=gJ (oG ws) (jV ws) ws.length 0
def On {α:Type}(i:Nat)(r:oF α):Prop:=∀a j,r= .ok (a,j)->i<j
theorem d8 {β:Type}{r:oF α}{f:α->Nat->oF β}{b:β}(h:gP r f= .ok (b,k)):∃a j,r= .ok (a,j)/\f a j= .ok (b,k):=by
 cases r with
 |error p=>simp[gP]at h
 |ok x=>exact⟨x.1,x.2,rfl,h⟩
theorem iS (k:Int)(i:Nat):∀a j,kO ws k i= .ok (a,j)->j=i+1/\ws[i]?=some a/\dX a.1=k:=by
 intro a j h;unfold kO at h;split at h
 .split at h;.simp at h;obtain⟨rfl,rfl⟩:=h;refine⟨rfl,VF,by simp_all⟩
  .simp at h
 .simp at h
theorem fE (s:ap)(i:Nat):∀a j,gw ws s i= .ok (a,j)->j=i+1/\∃x,ws[i]?=some x/\x.1.toList=s:=by
 intro a j h;unfold gw at h;split at h
 .split at h;.simp at h;subst h;exact⟨rfl,_,VF,by simp_all⟩
  .simp at h
 .simp at h
theorem lY (i:Nat):∀a j,pN ws i= .ok (a,j)->j=i+1/\ws[i]?=some a/\(dX a.1=3\/dX a.1=1):=by
 intro a j h;unfold pN at h;split at h
 .split at h;.simp at h;obtain⟨rfl,rfl⟩:=h;refine⟨rfl,VF,by simp_all⟩
  .simp at h
 .simp at h
theorem wD (i:Nat):On i (kY ws i):=by
 intro a j h;unfold kY at h;have⟨_,f,b,h⟩:=d8 h;have⟨_,g,c,h⟩:=d8 h;have⟨_,k,d,h⟩:=d8 h;have⟨_,l,e,h⟩:=d8 h;have:=(iS _ _ _ _ _ b).1;have:=(fE _ _ _ _ _ c).1;have:=(iS _ _ _ _ _ d).1;have:=(fE _ _ _ _ _ e).1;simp at h;omega
theorem lL (form:Int)(i:Nat):On i (fZ ws form i):=by
 intro a j h;unfold fZ at h;have⟨_,d,b,h⟩:=d8 h;have⟨_,e,c,h⟩:=d8 h;have:=(lY _ _ _ _ b).1;have:=wD _ _ _ _ c;simp at h;omega
theorem N4 (i:Nat):On i (nP ws i):=by
 intro a j h;unfold nP at h;have⟨_,l,b,h⟩:=d8 h;have⟨_,m,c,h⟩:=d8 h;have⟨_,n,d,h⟩:=d8 h;have⟨_,o,e,h⟩:=d8 h;have⟨_,p,f,h⟩:=d8 h;have⟨_,q,g,h⟩:=d8 h;have⟨_,r,k,h⟩:=d8 h;have:=(fE _ _ _ _ _ b).1;have:=(fE _ _ _ _ _ c).1;have:=(lY _ _ _ _ d).1;have:=(fE _ _ _ _ _ e).1;have:=(lY _ _ _ _ f).1;have:=(fE _ _ _ _ _ g).1;have:=wD _ _ _ _ k;simp at h;omega
theorem sL (stop:Nat->Bool)(p:Nat->oF α)(b:∀i,On i (p i)):∀n i a j,gJ stop p n i= .ok (a,j)->i<=j
 |0,i,a,j,h=>by simp[gJ]at h;omega
 |n+1,i,a,j,h=>by
  unfold gJ at h;split at h;.simp at h;omega
  .have⟨_,e,c,h⟩:=d8 h;have⟨_,f,d,h⟩:=d8 h;have:=b _ _ _ c;have:=sL stop p b _ _ _ _ d;simp at h;omega
theorem IP (i:Nat):On i (jh ws i):=by
 intro a j h;unfold jh at h;have⟨_,m,b,h⟩:=d8 h;have⟨_,n,c,h⟩:=d8 h;have⟨_,o,d,h⟩:=d8 h;have⟨_,p,e,h⟩:=d8 h;have⟨_,q,f,h⟩:=d8 h;have⟨_,r,g,h⟩:=d8 h;have⟨_,s,k,l⟩:=d8 f;have:=(fE _ _ _ _ _ b).1;have:=(iS _ _ _ _ _ c).1;have:=(fE _ _ _ _ _ d).1;have:=lL _ _ _ _ _ e;have:=sL _ _ (lL ws 3) _ _ _ _ k;have:=(fE _ _ _ _ _ g).1;simp at h l;omega
theorem qP {r:oF eW}(c:On i r):On i (mB r):=by
 intro a j h;have⟨_,d,b,h⟩:=d8 h;have:=c _ _ b;simp at h;omega
theorem On.V {r:oF α}(h:On k r)(b:i<=k):On i r:=λa j e=>Nat.lt_of_le_of_lt b (h a j e)
theorem Dq (i:Nat):On i (kB ws i):=by
 unfold kB;split;.exact IP ws i
 .split;.exact qP (N4 ws i)
  .split;.exact qP ((lL ws 2 (i+1)).V Vv)
   .split;.exact qP ((lL ws 1 (i+1)).V Vv)
    .exact qP (lL ws 0 i)
theorem po {p:Nat->oF α}{n:Nat}(h:stop i=true):gJ stop p n i= .ok ([],i):=by
 cases n with
 |zero=>rfl
 |succ n=>simp[gJ,h]
theorem qQ {p:Nat->oF α}{n q:Nat}(h:stop i=false)(b:0<n)(a:p i= .error q):gJ stop p n i= .error q:=by
 cases n with
 |zero=>omega
 |succ n=>simp[gJ,h,a,gP]
theorem sM {p:Nat->oF α}{n j:Nat}{a:α}(pre:List α)(h:stop i=false)(c:0<n)(b:p i= .ok (a,j)):
  nQ pre (gJ stop p n i)=nQ (pre++ [a]) (gJ stop p (n-1) j):=by
 cases n with
 |zero=>omega
 |succ n=>
  simp only[gJ,h,b,gP,Nat.add_sub_cancel];cases gJ stop p n j<;>simp[nQ,gP]
end
end Go.Proofs.YtfebdimolnobaaaGreatDoor
