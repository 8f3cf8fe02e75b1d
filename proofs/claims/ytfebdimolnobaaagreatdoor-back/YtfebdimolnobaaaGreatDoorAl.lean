import Derived.Test.YtfebdimolnobaaaGreatDoorProg
import Derived.Below
import Derived.Deep.AppendLies
import Derived.OwnWalk
import Derived.Deep.DrawnRows
import Derived.WalkKit
import Derived.WalkSpells
import Derived.WalkLawsBesides
import Derived.Maps.AppendAt
set_option maxRecDepth 100000
set_option maxHeartbeats 8000000
set_option linter.all false
namespace Go.Proofs.YtfebdimolnobaaaGreatDoor
open Go.RowKit Go.Proofs.Tryz
section
set_option linter.defProp false
section
abbrev aa (n:Int):Value:=.int .i64 n
abbrev ag (s:ByteArray):Value:=.string s
abbrev aj (b o:Nat):Addr:=⟨b,o,none⟩
abbrev ah (b:Nat):Value:=.pointer (some ⟨b,0,none⟩)
abbrev ai:Value:=.slice none 0 0
abbrev ak (w w':World):Prop:=Below w.heap.size w w'
abbrev am (c:Array Value) (t:TypeId):Obj:=.cells c t
abbrev an:=ByteArray → Option Nat
abbrev ap:=List UInt8
abbrev aq:=Array Value
abbrev ar:=List Int
abbrev au:=ByteArray
abbrev aw:=World
abbrev ax:=Nat → Prop
abbrev ay:=List Value
abbrev aA:=List ByteArray
abbrev aB:=List Nat
abbrev aC:=Option Addr
abbrev _root_.Go.World.U5(w:World)(c:Array Value)(t:TypeId):World:=w.alloc (.cells c t)
def aD:=@List.setIfInBounds_toArray
def aE:=@Nat.le_refl
def aF:=@List.set_cons_zero
def aG:=@List.set_cons_succ
def aH:=@List.getElem_cons_zero
def aI:=@Nat.lt_of_lt_of_le
def aJ:=@List.getElem_toArray
def aK:=@List.getElem_cons_succ
def aL:=@List.mem_of_getElem?
def aM:=@Nat.le_trans
def aN:=@List.length_append
def aO:=@List.getElem?_eq_getElem
def aP:=@Nat.zero_le
def aQ:=@Bool.and_eq_true
def aR:=@List.mem_map
def aS:=@List.mem_cons
def aT:=@List.getElem?_map
def aU:=@Bool.false_eq_true
def aV:=@World.block_lt_of_cell?
def aW:=@List.mem_append
def aX:=@List.nil_append
def aY:=@List.mem_cons_of_mem
def aZ:=@List.mem_cons_self
def ba:=@List.mem_singleton
def be:=@List.drop_eq_getElem_cons
def bf:=@List.getElem?_eq_none
def bg:=@ByteArray.size_extract
def bi:=@Option.map_eq_some_iff
def bj:=@List.append_assoc
def bm:=@List.contains_cons
def bn:=@List.getElem?_eq_some_iff
def bo:=@List.cons_append
def br:=@World.ownsRow_nil
def bt:=@List.flatMap_cons
def bu:=@List.pairwise_cons
def bw:=@List.length_cons
def bz:=@World.news_of_block
def bA:=@List.mem_filter
def bB:=@List.take_length
def bC:=@World.cell?_of_block
def bE:=@List.eq_nil_of_length_eq_zero
def bF:=@Int.eq_ofNat_of_zero_le
def bG:=@Nat.le_succ
def bH:=@ByteArray.size_append
def bI:=@Array.getElem?_eq_some_iff
def bJ:=@List.map_map
def bK:=@List.map_cons
def bM:=@List.length_take
def bN:=@List.length_map
def bO:=@Array.getElem?_toList
def bS:=@List.map_append
def bT:=@List.take_add_one
def bU:=@Array.getElem?_eq_getElem
def bW:=@List.append_nil
def bX:=@List.not_mem_nil
def bY:=@List.mem_iff_getElem?
def bZ:=@List.length_filter_le
def ca:=@List.take_append_drop
def cg:=@List.all_eq_true
def bV:=@List.pairwise_iff_getElem
def ch:=@List.take_of_length_le
def ci:=@World.size_alloc
def cj:=@List.getElem?_append_right
def ck:=@List.pairwise_append
def cl:=@List.filter_cons
def cm:=@Bool.eq_false_iff
def cn:=@Option.isSome_iff_exists
def co:=@List.getElem?_cons_succ
def cp:=@List.getElem?_cons_zero
def cr:=@List.getD_eq_getElem?_getD
def cu:=@List.drop_of_length_le
def cw:=@List.pairwise_map
def cA:=@List.getElem?_append_left
def cq:=@Nat.le_of_lt
def cB:=@List.getElem?_take_of_lt
def cC:=@List.drop_length
def cD:=@World.size_setCell
def cE:=@List.getElem?_toArray
def cy:=@Bool.eq_iff_iff
def cF:=@World.cell?_alloc_lt
def cG:=@List.mem_of_mem_drop
def cH:=@List.sum_cons
def cI:=@Array.getElem?_eq_none
def cJ:=@ByteArray.data_extract
def cL:=@List.filter_append
def cM:=@Bool.or_eq_true
def cN:=@ByteArray.ext
def cO:=@Bool.not_eq_true'
def cS:=@List.drop_eq_nil_iff
def cT:=@Bool.false_and
def cU:=@Bool.and_false
def cV:=@Array.toList_inj
def cW:=@Prod.ext
def cX:=@List.take_succ_cons
def cY:=@List.flatMap_append
def cZ:=@List.filter_eq_self
def da:=@Bool.or_false
def dd:=@Bool.true_and
def de:=@Nat.add_assoc
def df:=@List.length_nil
def cK:=@Int.le_refl
def dg:=@Nat.shiftLeft_add_eq_or_of_lt
def dh:=@List.take_append_of_le_length
def dj:=@Option.mem_toList
def dl:=@Bool.true_or
def dm:=@List.map_nil
def dq:=@List.getElem?_of_mem
def dt:=@Bool.or_eq_false_iff
def du:=@Nat.pow_le_pow_right
def dv:=@Nat.shiftLeft_eq
def dw:=@Array.replicate_succ
def dx:=@Array.replicate_zero
def dy:=@Bool.false_or
def dz:=@Bool.and_true
def dA:=@Bool.not_true
def dB:=@Int.tmod_eq_emod_of_nonneg
def dC:=@List.filter_sublist
def dD:=@List.append_toArray
def dE:=@Int.natCast_add
def dF:=@Bool.or_true
def dG:=@Array.extract_size
def dH:=@List.getElem?_drop
def dI:=@Bool.not_false
def dJ:=@List.any_eq_false
def dK:=@List.nodup_append
def dL:=@List.getElem?_set
def dM:=@List.size_toArray
def dN:=@List.push_toArray
def dO:=@if_neg
def dP:=@if_pos
def dQ:=@decide_eq_true_eq
def dR:=@bodyPost_ret
def dS:=@congrArg
abbrev U7:Value:=.string ⟨#[]⟩
abbrev U8:=Calls Tryz.prog
abbrev U9(g n c:Nat):Value:=.slice (some ⟨g,0,none⟩) n c
theorem Va(w:World):Below w.heap.size w w:=Below.refl _ w
theorem Vb(w:World)(o:Obj):Below w.heap.size w (w.alloc o):=(Below.refl _ w).alloc (Nat.le_refl _) o
def _root_.Go.Calls.V:=@Go.Calls.mono
def _root_.Go.RowKit.Below.V:=@Go.RowKit.Below.mono
def _root_.Go.RowKit.Below.J:=@Go.RowKit.Below.trans
def _root_.Go.RowKit.Below.l:=@Go.RowKit.Below.heap_alloc
def _root_.Go.RowKit.Hid.o:=@Go.RowKit.Hid.out
def _root_.Eq.J:=@Eq.trans
def _root_.Iff.J:=@Iff.trans
def _root_.Eq.sy:=@Eq.symm
def _root_.Ne.sy:=@Ne.symm
def _root_.Iff.sy:=@Iff.symm
theorem Y9{A:Sort _}(a:A):∃R,a=R:=⟨_,rfl⟩
theorem Vc{P:Prop}(h:P:=by omega):P:=h
theorem Vd{P:Prop}(h:P:=by simp):P:=h
theorem Ve{P:Prop}(h:P:=by simp;omega):P:=h
theorem Vf{P:Prop}(h:P:=by decide):P:=h
theorem Vg{P:Prop}(h:P:=by decide+kernel):P:=h
theorem Vh{P:Prop}(h:P:=by kernel_rfl):P:=h
theorem Vi{P:Prop}(h:P:=by rfl):P:=h
theorem Vj{P:Prop}(h:P:=by unfold maxLen;omega):P:=h
theorem Vk{P:Prop}(h:P:=by simp[Value.oneCell']):P:=h
theorem Vl{P:Prop}(h:P:=by first|omega|(simp<;>omega)):P:=h
theorem Vm{P:Prop}(h:P:=by assumption):P:=h
theorem Vn{P:Prop}(h:P:=by go_simp):P:=h
theorem U6:(∀{α:Type} (l:List α) (i:Nat) (a:α),l.toArray.setIfInBounds i a=(l.set i a).toArray)∧(∀{α:Type} (x a:α) (l:List α),(x::l).set 0 a=a::l)∧(∀{α:Type} (x a:α) (l:List α) (i:Nat),(x::l).set (i+1) a=x::l.set i a)∧(∀{α:Type} (l:List α) (i:Nat) (h:i<l.toArray.size),l.toArray[i]=l[i]'(by simpa using h))∧(∀{α:Type} (x:α) (l:List α) (h:0<(x::l).length),(x::l)[0]=x)∧∀{α:Type} (x:α) (l:List α) (i:Nat) (h:i+1<(x::l).length),(x::l)[i+1]=l[i]'(by simpa using h):=⟨by simp,by simp,by simp,by simp,by simp,by simp⟩
namespace Vo
attribute [scoped go_sem↓] Go.wp_at_zero Go.wp_at_succ
end Vo
end
end
def wo (fn:Fn)(first cap:aq)(w:aw):(Instr.makeFunc fn first cap).run prog w= .ok (.func fn first cap) w:=rfl
def gl {α:Type}{l:List α}{i:Nat}{x:α}(h:l[i]?=some x):i<l.length:=(bn.1 h).1
def gx {α:Type}{l:List α}{i:Nat}(h:i<l.length):∃x,l[i]?=some x:=⟨_,aO h⟩
def vM (c:Int):Bool:=(decide (97<=c)&&decide (c<=122))||(decide (65<=c)&&decide (c<=90))||c==95
def mt (c:Int):Bool:=decide (48<=c)&&decide (c<=57)
def Dl (c:Int):Bool:=c==32||c==10
def ja {a b:Bool}(h:a=true<->b=true):Ending.returned (.bool a)= .returned (.bool b):=by
 rw[cy.2 h]
def JL (c:Int)(w:aw):
  Calls prog 171 #[.int .u8 c] w λe w'=>e= .returned (.bool (vM c))/\w'=w:=by
 go_in
 go_wp2
 all_goals
  go_ret;exact⟨ja (by simp[vM];try omega),rfl⟩
def Fc (c:Int)(w:aw):
  Calls prog 172 #[.int .u8 c] w λe w'=>e= .returned (.bool (mt c))/\w'=w:=by
 go_in
 go_wp2
 all_goals
  go_ret;exact⟨ja (by simp[mt];try omega),rfl⟩
def T9 (c:Int)(w:aw):
  Calls prog 115 #[.int .u8 c] w λe w'=>e= .returned (.bool (Dl c))/\w'=w:=by
 go_in
 go_wp2
 all_goals
  go_ret;exact⟨ja (by simp[Dl];try omega),rfl⟩
def NO:List (ap):= [[109,101,115,115,97,103,101],[101,110,117,109],[114,101,112,101,97,116,101,100],[111,112,116,105,111,110,97,108],[111,110,101,111,102],[109,97,112]]
def mZ:List (ap):= [[105,110,116,51,50],[105,110,116,54,52],[117,105,110,116,51,50],[117,105,110,116,54,52],[115,105,110,116,51,50],[115,105,110,116,54,52],[98,111,111,108],[102,105,120,101,100,51,50],[102,105,120,101,100,54,52],[115,102,105,120,101,100,51,50],[115,102,105,120,101,100,54,52],[102,108,111,97,116],[100,111,117,98,108,101],[115,116,114,105,110,103],[98,121,116,101,115]]
def pV (l:ap):Bool:=NO.contains l
def jI (l:ap):Bool:=mZ.contains l
def Tp (s:au)(w:aw):
  Calls prog 173 #[ag s] w λe w'=>e= .returned (.bool (pV s.toList))/\w'=w:=by
 cases h0:(s.toList== [109,101,115,115,97,103,101]);rotate_left
 .go_in
  go_wp2;go_ret;exact⟨ja (by simp only[pV,NO,bm,h0];simp),rfl⟩
 cases h1:(s.toList== [101,110,117,109]);rotate_left
 .go_in
  go_wp2;go_ret;exact⟨ja (by simp only[pV,NO,bm,h0,h1];simp),rfl⟩
 cases h2:(s.toList== [114,101,112,101,97,116,101,100]);rotate_left
 .go_in
  go_wp2;go_ret;exact⟨ja (by simp only[pV,NO,bm,h0,h1,h2];simp),rfl⟩
 cases h3:(s.toList== [111,112,116,105,111,110,97,108]);rotate_left
 .go_in
  go_wp2;go_ret;exact⟨ja (by simp only[pV,NO,bm,h0,h1,h2,h3];simp),rfl⟩
 cases h4:(s.toList== [111,110,101,111,102]);rotate_left
 .go_in
  go_wp2;go_ret;exact⟨ja (by simp only[pV,NO,bm,h0,h1,h2,h3,h4];simp),rfl⟩
 cases h5:(s.toList== [109,97,112]);rotate_left
 .go_in
  go_wp2;go_ret;exact⟨ja (by simp only[pV,NO,bm,h0,h1,h2,h3,h4,h5];simp),rfl⟩
 .go_in
  go_wp2;go_ret;exact⟨ja (by simp only[pV,NO,bm,h0,h1,h2,h3,h4,h5];simp),rfl⟩
def Ua (s:au)(w:aw):
  Calls prog 174 #[ag s] w λe w'=>e= .returned (.bool (jI s.toList))/\w'=w:=by
 cases h0:(s.toList== [105,110,116,51,50]);rotate_left
 .go_in
  go_wp2;go_ret;exact⟨ja (by simp only[jI,mZ,bm,h0];simp),rfl⟩
 cases h1:(s.toList== [105,110,116,54,52]);rotate_left
 .go_in
  go_wp2;go_ret;exact⟨ja (by simp only[jI,mZ,bm,h0,h1];simp),rfl⟩
 cases h2:(s.toList== [117,105,110,116,51,50]);rotate_left
 .go_in
  go_wp2;go_ret;exact⟨ja (by simp only[jI,mZ,bm,h0,h1,h2];simp),rfl⟩
 cases h3:(s.toList== [117,105,110,116,54,52]);rotate_left
 .go_in
  go_wp2;go_ret;exact⟨ja (by simp only[jI,mZ,bm,h0,h1,h2,h3];simp),rfl⟩
 cases h4:(s.toList== [115,105,110,116,51,50]);rotate_left
 .go_in
  go_wp2;go_ret;exact⟨ja (by simp only[jI,mZ,bm,h0,h1,h2,h3,h4];simp),rfl⟩
 cases h5:(s.toList== [115,105,110,116,54,52]);rotate_left
 .go_in
  go_wp2;go_ret;exact⟨ja (by simp only[jI,mZ,bm,h0,h1,h2,h3,h4,h5];simp),rfl⟩
 cases h6:(s.toList== [98,111,111,108]);rotate_left
 .go_in
  go_wp2;go_ret;exact⟨ja (by simp only[jI,mZ,bm,h0,h1,h2,h3,h4,h5,h6];simp),rfl⟩
 cases h7:(s.toList== [102,105,120,101,100,51,50]);rotate_left
 .go_in
  go_wp2;go_ret;exact⟨ja (by simp only[jI,mZ,bm,h0,h1,h2,h3,h4,h5,h6,h7];simp),rfl⟩
 cases h8:(s.toList== [102,105,120,101,100,54,52]);rotate_left
 .go_in
  go_wp2;go_ret;exact⟨ja (by simp only[jI,mZ,bm,h0,h1,h2,h3,h4,h5,h6,h7,h8];simp),rfl⟩
 cases h9:(s.toList== [115,102,105,120,101,100,51,50]);rotate_left
 .go_in
  go_wp2;go_ret;exact⟨ja (by simp only[jI,mZ,bm,h0,h1,h2,h3,h4,h5,h6,h7,h8,h9];simp),rfl⟩
 cases h10:(s.toList== [115,102,105,120,101,100,54,52]);rotate_left
 .go_in
  go_wp2;go_ret;exact⟨ja (by simp only[jI,mZ,bm,h0,h1,h2,h3,h4,h5,h6,h7,h8,h9,h10];simp),rfl⟩
 cases h11:(s.toList== [102,108,111,97,116]);rotate_left
 .go_in
  go_wp2;go_ret;exact⟨ja (by simp only[jI,mZ,bm,h0,h1,h2,h3,h4,h5,h6,h7,h8,h9,h10,h11];simp),rfl⟩
 cases h12:(s.toList== [100,111,117,98,108,101]);rotate_left
 .go_in
  go_wp2;go_ret;exact⟨ja (by simp only[jI,mZ,bm,h0,h1,h2,h3,h4,h5,h6,h7,h8,h9,h10,h11,h12];simp),rfl⟩
 cases h13:(s.toList== [115,116,114,105,110,103]);rotate_left
 .go_in
  go_wp2;go_ret;exact⟨ja (by simp only[jI,mZ,bm,h0,h1,h2,h3,h4,h5,h6,h7,h8,h9,h10,h11,h12,h13];simp),rfl⟩
 cases h14:(s.toList== [98,121,116,101,115]);rotate_left
 .go_in
  go_wp2;go_ret;exact⟨ja (by simp only[jI,mZ,bm,h0,h1,h2,h3,h4,h5,h6,h7,h8,h9,h10,h11,h12,h13,h14];simp),rfl⟩
 .go_in
  go_wp2;go_ret;exact⟨ja (by simp only[jI,mZ,bm,h0,h1,h2,h3,h4,h5,h6,h7,h8,h9,h10,h11,h12,h13,h14];simp),rfl⟩
section
variable {t:au} {k n:Nat} {p:Int->Bool}
def fZ (t:au)(k:Nat):Int:=if h:k<t.size then(t[k].toNat:Int)else 0
theorem jJ (h:k<t.size):(t[k].toNat:Int)=fZ t k:=by unfold fZ;rw[dif_pos h]
def jb (p:Int->Bool)(t:au):Nat->Nat->Nat
 |0,k=>k
 |n+1,k=>if decide (k<t.size)&&p (fZ t k)then jb p t n (k+1)else k
theorem ww (hn:t.size-k<=n)(hk:k<t.size)(hp:p (fZ t k)=true):
  ∃m,t.size-(k+1)<=m/\jb p t n k=jb p t m (k+1):=by
 cases n with
 |zero=>omega
 |succ m=>exact⟨m,Vc,by simp[jb,hk,hp]⟩
theorem j8 (h:¬k<t.size\/p (fZ t k)=false):jb p t n k=k:=by
 cases n with
 |zero=>rfl
 |succ m=>rcases h with h|h<;>simp[jb,h]
theorem Bl (p:Int->Bool)(t:au):∀n k,k<=t.size->k<=jb p t n k/\jb p t n k<=t.size
 |0,k,h=>⟨aE _,h⟩
 |n+1,k,h=>by
  unfold jb;by_cases hc:(decide (k<t.size)&&p (fZ t k))=true
  .rw[dP hc];have h1:k<t.size:=by simp at hc;exact hc.1
   have:=Bl p t n (k+1) h1;omega
  .rw[dO hc];omega
def xk (c:Int):Bool:=vM c||mt c
def il (t:au)(a:Nat):Nat:=
 if vM (fZ t a)then jb xk t t.size (a+1)else if mt (fZ t a)&&fZ t a !=48 then jb mt t t.size (a+1)else a+1
theorem o8 (t:au)(a:Nat)(h:a<t.size):a+1<=il t a/\il t a<=t.size:=by
 unfold il;split;.exact Bl _ _ _ _ h
 .split;.exact Bl _ _ _ _ h
  .omega
abbrev W:=au×Nat
def kY (t:au):Nat->Nat->List W
 |0,_=> []
 |n+1,a=>if a<t.size then if Dl (fZ t a)then kY t n (a+1)else(t.extract a (il t a),a)::kY t n (il t a)else []
def Ae (t:au):List W:=kY t t.size 0
def fO (t:au):List W:=Ae t++ [(⟨#[]⟩,t.size)]
theorem xl {a:Nat}(h:¬a<t.size):kY t n a= []:=by
 cases n with
 |zero=>rfl
 |succ n=>simp[kY,h]
theorem xp {a:Nat}(hn:t.size-a<=n)(h:a<t.size)(hg:Dl (fZ t a)=true):
  ∃m,t.size-(a+1)<=m/\kY t n a=kY t m (a+1):=by
 cases n with
 |zero=>omega
 |succ m=>exact⟨m,Vc,by simp[kY,h,hg]⟩
theorem Af {a:Nat}(hn:t.size-a<=n)(h:a<t.size)(hg:Dl (fZ t a)=false):
  ∃m,t.size-(il t a)<=m/\kY t n a=(t.extract a (il t a),a)::kY t m (il t a):=by
 cases n with
 |zero=>omega
 |succ m=>
  have:=o8 t a h;exact⟨m,Vc,by simp[kY,h,hg]⟩
theorem pW (t:au):∀n a,∀x∈kY t n a,a<=x.2/\x.2<t.size/\0<x.1.size/\x.1.size<=t.size
 |0,a,x,h=>by simp[kY]at h
 |n+1,a,x,h=>by
  unfold kY at h;by_cases ha:a<t.size
  .rw[dP ha]at h;by_cases hg:Dl (fZ t a)=true;.rw[dP hg]at h;have:=pW t n (a+1) x h;omega
   .rw[dO hg]at h;have he:=o8 t a ha;rcases aS.1 h with rfl|h;.refine⟨aE _,ha,?_,?_⟩<;>simp[bg]<;>omega
    .have:=pW t n (il t a) x h;omega
  .rw[dO ha]at h;simp at h
theorem pX (t:au):∀n a,(kY t n a).length<=t.size-a
 |0,a=>by simp[kY]
 |n+1,a=>by
  unfold kY;by_cases ha:a<t.size
  .rw[dP ha];have he:=o8 t a ha;by_cases hg:Dl (fZ t a)=true;.rw[dP hg];have:=pX t n (a+1);omega
   .rw[dO hg];have:=pX t n (il t a);simp only[bw];omega
  .rw[dO ha];simp
end
def ue {k:IntKind}{a b:Int}(h:a=b):Ending.returned (.int k a)= .returned (.int k b):=by rw[h]
def Uq (t:au)(a:Nat)(w:aw)(h:a<t.size)(ht:t.size<=2000):
  Calls prog 116 #[ag t,aa a] w λe w'=>e= .returned (aa (il t a))/\w'=w:=by
 have hb:=jJ h;cases h1:vM (fZ t a)
 .cases h2:mt (fZ t a)
  .have HE:Hid (il t a=a+1):=by unfold il;simp[h1,h2,Hid]
   go_in
   go_wp2_with (first|(go_at_call 171;refine(JL _ _).V ?_;rintro e w' ⟨rfl,rfl⟩)|(go_at_call 172;refine(Fc _ _).V ?_;rintro e w' ⟨rfl,rfl⟩))
   go_ret;exact⟨ue (by rw[HE.o];simp),rfl⟩
  .cases h3:(fZ t a !=48)
   .have HE:Hid (il t a=a+1):=by unfold il;simp only[h1,h2,h3,Hid];simp
    go_in
    go_wp2_with (first|(go_at_call 171;refine(JL _ _).V ?_;rintro e w' ⟨rfl,rfl⟩)|(go_at_call 172;refine(Fc _ _).V ?_;rintro e w' ⟨rfl,rfl⟩))
    go_ret;exact⟨ue (by rw[HE.o];simp),rfl⟩
   .have HE:Hid (il t a=jb mt t t.size (a+1)):=by unfold il;simp only[h1,h2,h3,Hid];simp
    go_in
    go_wp2_with (first|(go_at_call 171;refine(JL _ _).V ?_;rintro e w' ⟨rfl,rfl⟩)|(go_at_call 172;refine(Fc _ _).V ?_;rintro e w' ⟨rfl,rfl⟩))
    go_loop [6] (λi=>∃n k:Nat,k<=t.size/\t.size-k<=n/\Hid (jb mt t n k=jb mt t t.size (a+1))/\i=aa k) (λi=>t.size-(intOf i).toNat)
    case atStart=>exact⟨t.size,a+1,Vc,Vc,rfl,Vd⟩
    case round=>
     obtain⟨n,k,hk,hn,HS,rfl⟩:=hrel;by_cases hlt:k<t.size
     .have Vp:=jJ hlt;cases h4:mt (fZ t k)
      .have HF:Hid (k=jb mt t t.size (a+1)):=by rw[<-HS.o,j8 (.inr h4)];exact rfl
       go_wp2_with (first|(go_at_call 172;refine(Fc _ _).V ?_;rintro e w' ⟨rfl,rfl⟩))
       go_ret;exact⟨ue (by rw[HE.o,<-HF.o]),rfl⟩
      .have⟨m,hm,hs⟩:=ww hn hlt h4;have HF:Hid (jb mt t m (k+1)=jb mt t t.size (a+1)):=hs.sy.J HS.o;clear hs;go_wp2_with (first|(go_at_call 172;refine(Fc _ _).V ?_;rintro e w' ⟨rfl,rfl⟩))
       go_round
       case rel=>exact⟨m,k+1,Vc,hm,HF,by go_num⟩
       case measure=>simp[intOf];omega
     .have HF:Hid (k=jb mt t t.size (a+1)):=by rw[<-HS.o,j8 (.inl hlt)];exact rfl
      go_wp2_with (first|(go_at_call 172;refine(Fc _ _).V ?_;rintro e w' ⟨rfl,rfl⟩))
      go_ret;exact⟨ue (by rw[HE.o,<-HF.o]),rfl⟩
 .have HE:Hid (il t a=jb xk t t.size (a+1)):=by unfold il;simp only[h1,Hid];simp
  go_in
  go_wp2_with (first|(go_at_call 171;refine(JL _ _).V ?_;rintro e w' ⟨rfl,rfl⟩)|(go_at_call 172;refine(Fc _ _).V ?_;rintro e w' ⟨rfl,rfl⟩))
  go_loop [6] (λi=>∃n k:Nat,k<=t.size/\t.size-k<=n/\Hid (jb xk t n k=jb xk t t.size (a+1))/\i=aa k) (λi=>t.size-(intOf i).toNat)
  case atStart=>exact⟨t.size,a+1,Vc,Vc,rfl,Vd⟩
  case round=>
   obtain⟨n,k,hk,hn,HS,rfl⟩:=hrel;by_cases hlt:k<t.size
   .have Vp:=jJ hlt;cases h4:xk (fZ t k)
    .have HF:Hid (k=jb xk t t.size (a+1)):=by rw[<-HS.o,j8 (.inr h4)];exact rfl
     have h5:vM (fZ t k)=false/\mt (fZ t k)=false:=by simpa [xk]using h4
     obtain⟨h5,h6⟩:=h5;clear h4;go_wp2_with (first|(go_at_call 171;refine(JL _ _).V ?_;rintro e w' ⟨rfl,rfl⟩)|(go_at_call 172;refine(Fc _ _).V ?_;rintro e w' ⟨rfl,rfl⟩))
     go_ret;exact⟨ue (by rw[HE.o,<-HF.o]),rfl⟩
    .have⟨m,hm,hs⟩:=ww hn hlt h4;have HF:Hid (jb xk t m (k+1)=jb xk t t.size (a+1)):=hs.sy.J HS.o;clear hs;cases h5:vM (fZ t k)
     .have h6:mt (fZ t k)=true:=by simpa [xk,h5]using h4
      clear h4;go_wp2_with (first|(go_at_call 171;refine(JL _ _).V ?_;rintro e w' ⟨rfl,rfl⟩)|(go_at_call 172;refine(Fc _ _).V ?_;rintro e w' ⟨rfl,rfl⟩))
      go_round
      case rel=>exact⟨m,k+1,Vc,hm,HF,by go_num⟩
      case measure=>simp[intOf];omega
     .clear h4;go_wp2_with (first|(go_at_call 171;refine(JL _ _).V ?_;rintro e w' ⟨rfl,rfl⟩)|(go_at_call 172;refine(Fc _ _).V ?_;rintro e w' ⟨rfl,rfl⟩))
      go_round
      case rel=>exact⟨m,k+1,Vc,hm,HF,by go_num⟩
      case measure=>simp[intOf];omega
   .have HF:Hid (k=jb xk t t.size (a+1)):=by rw[<-HS.o,j8 (.inl hlt)];exact rfl
    go_wp2_with (first|(go_at_call 172;refine(Fc _ _).V ?_;rintro e w' ⟨rfl,rfl⟩))
    go_ret;exact⟨ue (by rw[HE.o,<-HF.o]),rfl⟩
def jq (s:au):Int:=
 if mt (fZ s 0)then 2 else if !vM (fZ s 0)||pV s.toList then 0 else if jI s.toList then 3 else 1
def dV (s:au):Int:=if s.size=0 then 4 else jq s
def Ur (s:au)(w:aw)(h:0<s.size):
  Calls prog 117 #[ag s] w λe w'=>e= .returned (aa (jq s))/\w'=w:=by
 have hb:=jJ h;cases h1:mt (fZ s 0)
 .cases h2:vM (fZ s 0)
  .have HE:Hid (jq s=0):=by unfold jq;simp[h1,h2,Hid]
   go_in
   go_wp2_with (first|(go_at_call 171;refine(JL _ _).V ?_;rintro e w' ⟨rfl,rfl⟩)|(go_at_call 172;refine(Fc _ _).V ?_;rintro e w' ⟨rfl,rfl⟩))
   go_ret;exact⟨ue (by rw[HE.o]),rfl⟩
  .cases h3:pV s.toList
   .cases h4:jI s.toList
    .have HE:Hid (jq s=1):=by unfold jq;simp[h1,h2,h3,h4,Hid]
     go_in
     go_wp2_with (first|(go_at_call 171;refine(JL _ _).V ?_;rintro e w' ⟨rfl,rfl⟩)|(go_at_call 172;refine(Fc _ _).V ?_;rintro e w' ⟨rfl,rfl⟩)|(go_at_call 173;refine(Tp _ _).V ?_;rintro e w' ⟨rfl,rfl⟩)|(go_at_call 174;refine(Ua _ _).V ?_;rintro e w' ⟨rfl,rfl⟩))
     go_ret;exact⟨ue (by rw[HE.o]),rfl⟩
    .have HE:Hid (jq s=3):=by unfold jq;simp[h1,h2,h3,h4,Hid]
     go_in
     go_wp2_with (first|(go_at_call 171;refine(JL _ _).V ?_;rintro e w' ⟨rfl,rfl⟩)|(go_at_call 172;refine(Fc _ _).V ?_;rintro e w' ⟨rfl,rfl⟩)|(go_at_call 173;refine(Tp _ _).V ?_;rintro e w' ⟨rfl,rfl⟩)|(go_at_call 174;refine(Ua _ _).V ?_;rintro e w' ⟨rfl,rfl⟩))
     go_ret;exact⟨ue (by rw[HE.o]),rfl⟩
   .have HE:Hid (jq s=0):=by unfold jq;simp[h1,h2,h3,Hid]
    go_in
    go_wp2_with (first|(go_at_call 171;refine(JL _ _).V ?_;rintro e w' ⟨rfl,rfl⟩)|(go_at_call 172;refine(Fc _ _).V ?_;rintro e w' ⟨rfl,rfl⟩)|(go_at_call 173;refine(Tp _ _).V ?_;rintro e w' ⟨rfl,rfl⟩))
    go_ret;exact⟨ue (by rw[HE.o]),rfl⟩
 .have HE:Hid (jq s=2):=by unfold jq;simp[h1,Hid]
  go_in
  go_wp2_with (first|(go_at_call 171;refine(JL _ _).V ?_;rintro e w' ⟨rfl,rfl⟩)|(go_at_call 172;refine(Fc _ _).V ?_;rintro e w' ⟨rfl,rfl⟩))
  go_ret;exact⟨ue (by rw[HE.o]),rfl⟩
def Bn {k:IntKind}{a b:Int}(h:a=b):Value.int k a= .int k b:=by rw[h]
def xq (x:W):ay:= [aa (dV x.1),ag x.1,aa x.2]
def pY (w:aw)(a b c:Value)(t:TypeId):∀j u,[a,b,c][j]?=some u->(w.alloc (.cells #[a,b,c] t)).cell? (((aj w.heap.size 0):Addr).add j)=some u:=by
 intro j u hj
 match j,hj with
 |0,hj=>simp at hj;subst hj;simp[Addr.add]
 |1,hj=>simp at hj;subst hj;simp[Addr.add]
 |2,hj=>simp at hj;subst hj;simp[Addr.add]
 |j+3,hj=>simp at hj
def Tryz.info148:(prog.info? 148).map (λi=>(i.zero,i.size,i.bytes))=some (some (.agg #[aa 0,U7,aa 0]),3,32):=Vh
def Us (t:au)(w:aw)(ht:t.size<=2000):
  Calls prog 69 #[ag t] w λe w'=>∃v,e= .returned v/\w'.ownsRow w.heap.size 148 3 v (fO t).length ((fO t).flatMap xq)/\ak w w':=by
 have⟨i0,hi,VA,VB,VC⟩:=info_parts Tryz.info148;go_in
 go_wp2;go_loopw [3,4] (λv a wr=>∃(n k:Nat) (pre:List W),k<=t.size/\t.size-k<=n/\pre.length<=k/\Hid (pre++kY t n k=Ae t)/\a=aa k/\wr.ownsRow w.heap.size 148 3 v pre.length (pre.flatMap xq)/\ak w wr) (λ_ i _=>t.size-(intOf i).toNat)
 case atStart=>exact⟨t.size,0,[],Vc,Vc,Vd,rfl,rfl,br _ _ _ _,Below.refl _ _⟩
 case round=>
  obtain⟨n,k,pre,hk,hn,hpl,HL,rfl,Vp,Vs⟩:=hrel;by_cases Vt:k<t.size
  .have hbk:=jJ Vt;cases hg:Dl (fZ t k)
   .have he:=o8 t k Vt;have VD:0<(t.extract k (il t k)).size:=by rw[bg];omega
    have⟨m,hm,Vu⟩:=Af hn Vt hg;have HF:Hid ((pre++ [(t.extract k (il t k),k)])++kY t m (il t k)=Ae t):=(by have:=HL.o;rw[Vu]at this;simpa [Hid]using this);have HK:Hid (dV (t.extract k (il t k))=jq (t.extract k (il t k))):=(by unfold dV;rw[dO Vc];exact rfl);clear Vu;go_wp2_with (first|(go_at_call 115;refine(T9 _ _).V ?_;rintro e w' ⟨rfl,rfl⟩)|(go_at_call 116;refine(Uq _ _ _ Vt ht).V ?_;rintro e w' ⟨rfl,rfl⟩)|(go_at_call 117;refine(Ur _ _ VD).V ?_;rintro e w' ⟨rfl,rfl⟩)|(at_builtin;refine wpList_append_own_at _ rfl _ _ 155 rfl w.heap.size 148 i0 _ 3 32 underlying155 hi VA VB VC rfl Vf u3 _ _ rfl (Vp.alloc _) _ 1 1 [_,_,_] rfl rfl (pY _ _ _ _ _) ?h1 ?Vv ?Vw ?Vx ?_;rotate_right;intro v' w1 Vq Vr Vy Vz))
    case h1=>intro u hu;simp at hu;rcases hu with rfl|rfl|rfl<;>rfl
    case Vv=>unfold maxLen;omega
    case Vw=>omega
    case Vx=>have:=Vs.size;simp;omega
    refine⟨⟨m,il t k,pre++ [(t.extract k (il t k),k)],he.2,hm,Ve,HF,Bn Vc,?_,?_⟩,by simp[intOf];omega⟩;.simpa [xq,HK.o]using Vq
    .exact(Vs.alloc Vs.size _).grown Vr (by have:=Vs.size;simp;omega) (λj hj=>(Vp.lt j hj).1)
   .have⟨m,hm,Vu⟩:=xp hn Vt hg;have HF:Hid (pre++kY t m (k+1)=Ae t):=(by have:=HL.o;rw[Vu]at this;simpa [Hid]using this);clear Vu;go_wp2_with (first|(go_at_call 115;refine(T9 _ _).V ?_;rintro e w' ⟨rfl,rfl⟩))
    go_roundw
    case rel=>exact⟨m,k+1,pre,Vc,hm,Vc,HF,by go_num,Vp,Vs⟩
    case measure=>simp[intOf];omega
  .have HF:Hid (pre=Ae t):=(by have:=HL.o;rw[xl Vt]at this;simpa [Hid]using this);go_wp2_with (first|(at_builtin;refine wpList_append_own_at _ rfl _ _ 155 rfl w.heap.size 148 i0 _ 3 32 underlying155 hi VA VB VC rfl Vf u3 _ _ rfl (Vp.alloc _) _ 1 1 [_,_,_] rfl rfl (pY _ _ _ _ _) ?h1 ?Vv ?Vw ?Vx ?_;rotate_right;intro v' w1 Vq Vr Vy Vz))
   case h1=>intro u hu;simp at hu;rcases hu with rfl|rfl|rfl<;>rfl
   case Vv=>unfold maxLen;omega
   case Vw=>omega
   case Vx=>have:=Vs.size;simp;omega
   go_ret;refine⟨v',rfl,?_,?_⟩;.have:=HF.o;subst this;have hk:dV ⟨#[]⟩=4:=rfl;simpa [fO,xq,hk]using Vq
   .exact(Vs.alloc Vs.size _).grown Vr (by have:=Vs.size;simp;omega) (λj hj=>(Vp.lt j hj).1)
section
variable {w w':aw} {n rb j:Nat} {ws:List W}
structure Rd (w:aw)(rb wb:Nat)(ws:List W)(i:Nat):Prop where
 lt:i<ws.length
 few:ws.length<=2001
 ne:rb≠wb
 row:∃cap,w.cell? (aj rb 0)=some (U9 wb ws.length cap)
 next:w.cell? (aj rb 1)=some (aa i)
 free:w.frozen? (aj rb 1)=false
 words:∀(k:Nat) (x:W),ws[k]?=some x->w.cell? (aj wb (k*3))=some (aa (dV x.1))/\w.cell? (aj wb (k*3+1))=some (ag x.1)/\w.cell? (aj wb (k*3+2))=some (aa x.2)
 ends:∀(k:Nat) (x:W),ws[k]?=some x->0<x.1.size->k+1<ws.length
 small:∀(k:Nat) (x:W),ws[k]?=some x->x.1.size<=2000/\x.2<=2000
theorem JM (e p:Int)(w:aw):
  Calls prog 68 #[aa e,aa p] w λe' w'=>e'= .panicked [{v:= .iface 142 (.agg #[aa e,aa p]),recovered:=false}]/\w'=w:=by
 go_in
 go_wp2;exact⟨rfl,rfl,rfl⟩
theorem Ny (w:aw)(rb wb:Nat)(ws:List W)(i:Nat)(x:W)(R:Rd w rb wb ws i)(hx:ws[i]?=some x):
  Calls prog 118 #[ah rb] w λe w'=>e= .returned (.agg #[aa (dV x.1),ag x.1,aa x.2])/\ak w w':=by
 have⟨cap,Vp⟩:=R.row;have Vq:=R.next;have hlt:=R.lt;have hfew:=R.few;have⟨q0,q1,q2⟩:=R.words i x hx;clear R hx;have a0:=λo=>(cF w o _ (aV _ _ Vp)).J Vp
 have a1:=λo=>(cF w o _ (aV _ _ Vq)).J Vq
 have b0:=λo=>(cF w o _ (aV _ _ q0)).J q0
 have b1:=λo=>(cF w o _ (aV _ _ q1)).J q1
 have b2:=λo=>(cF w o _ (aV _ _ q2)).J q2
 go_in
 go_wp2;go_region
 go_wp2;exact dR (v:= .agg #[aa (dV x.1),ag x.1,aa x.2]) (by simp[results,results118,go_sem]) rfl ⟨rfl,((Below.refl _ _).alloc (aE _) _).drew⟩
def De (w:aw)(rb j:Nat):aw:=w.setCell (aj rb 1) (aa j)
def jr (n rb:Nat)(w w':aw)(j:Nat):Prop:=Below n (De w rb j) w'
theorem xr (w:aw)(rb j:Nat):(De w rb j).heap.size=w.heap.size:=by simp[De,World.setCell]
def m8 (off:Nat)(v:Value):Obj->Obj
 | .cells c e f=> .cells (c.setIfInBounds off v) e f
 |o=>o
theorem dW (w:aw)(b off:Nat)(v:Value)(k:Nat):(w.setCell (aj b off) v).heap[k]?=if b=k then(w.heap[k]?).map (m8 off v)else w.heap[k]?:=by
 simp only[World.setCell,Array.getElem?_modify];split
 .cases w.heap[k]? with
  |none=>rfl
  |some o=>cases o<;>rfl
 .rfl
theorem Bo (off:Nat)(u v:Value)(o:Obj):m8 off v (m8 off u o)=m8 off v o:=by
 cases o<;>simp[m8]
theorem Dm {b off:Nat}{v:Value}(h:w.cell? (aj b off)=some v):(w.heap[b]?).map (m8 off v)=w.heap[b]?:=by
 unfold World.cell? at h
 cases ho:w.heap[b]? with
 |none=>rfl
 |some o=>
  simp only[ho]at h
  cases o with
  |cells c e f=>
   simp at h;simp only[Option.map_some,m8];congr 2;apply Array.ext;.simp
   .intro i h1 h2;rw[Array.getElem_setIfInBounds];split;.subst_vars;rw[bU h2]at h;exact(Option.some.inj h).sy
    .rfl
  |_=>rfl
theorem jr.oB (h:w.cell? (aj rb 1)=some (aa j))(hb:Below n w w'):jr n rb w w' j:=by
 refine⟨hb.os,hb.tape,hb.output,by rw[xr];exact hb.size,λk hk=> ?_⟩;rw[hb.block k hk,De,dW];split;.subst_vars;exact(Dm h).sy
 .rfl
theorem jr.J {w1 w2:aw}{m i:Nat}(h:jr n rb w w1 i)(k:jr m rb w1 w2 j)(hnm:n<=m):jr n rb w w2 j:=by
 refine⟨k.os.J h.os,k.tape.J h.tape,k.output.J h.output,?_,λb hb=> ?_⟩;.have h1:=h.size;have h2:=k.size;rw[xr]at*;omega
 .rw[k.block b Vc,De,dW,h.block b hb,De,De,dW,dW];split;.simp only[Option.map_map];congr 1;funext o;exact Bo _ _ _ _
  .rfl
theorem jr.size (h:jr n rb w w' j):w.heap.size<=w'.heap.size:=by have:=Below.size h;rwa [xr]at this
theorem jr.cell (h:jr n rb w w' j){a:Addr}(ha:a.block<n)(hne:a.block≠rb):w'.cell? a=w.cell? a:=by
 refine bC ((Below.block h a.block ha).J ?_);rw[De,dW,dO (λe=>hne e.sy)]
theorem jr.rd {wb i:Nat}(R:Rd w rb wb ws i)(h:jr n rb w w' j)(hr:rb<n)(hw:wb<n)(hj:j<ws.length):Rd w' rb wb ws j:=by
 have⟨cap,Vp⟩:=R.row;have Vr:∀off,w'.cell? (aj wb off)=w.cell? (aj wb off):=λoff=>h.cell (a:=(aj wb off)) hw (λe=>R.ne e.sy)
 refine⟨hj,R.few,R.ne,⟨cap,?_⟩,?_,?_,λk x hx=> ?_,R.ends,R.small⟩;.rw[Below.cell h (p:=(aj rb 0)) hr,De,World.cell?_setCell_other _ _ _ _ Vd];exact Vp
 .rw[Below.cell h (p:=(aj rb 1)) hr,De];exact World.cell?_setCell_same _ _ _ R.next
 .rw[Below.frozen h (p:=(aj rb 1)) hr,De,World.frozen?_setCell];exact R.free
 .rw[Vr,Vr,Vr];exact R.words k x hx
theorem Rd.blocks {wb i:Nat}(R:Rd w rb wb ws i):rb<w.heap.size/\wb<w.heap.size:=by
 refine⟨aV _ _ R.next,?_⟩;obtain⟨x,hx⟩:∃x,ws[i]?=some x:=⟨_,aO R.lt⟩;exact aV _ _ (R.words i x hx).1
end
section
variable (w:aw) {b n rb j:Nat} {w1 w':aw} {ws:List W} {row:Option Nat} {s:au}
theorem gT {w:aw}(h:b<w.heap.size):(∀o off,(w.alloc o).cell? (aj b off)=w.cell? (aj b off))/\(∀o off,(w.alloc o).frozen? (aj b off)=w.frozen? (aj b off))/\¬b=w.heap.size/\¬w.heap.size=b:=
 ⟨λo off=>cF w o (aj b off) h,λo off=>World.frozen?_of_block (Below.l w o b h),Vc,Vc⟩
theorem qN {w:aw}(hb:Below n w w1)(h:b<n):(∀off,w1.cell? (aj b off)=w.cell? (aj b off))/\(∀off,w1.frozen? (aj b off)=w.frozen? (aj b off)):=
 ⟨λoff=>hb.cell (p:=(aj b off)) h,λoff=>hb.frozen (p:=(aj b off)) h⟩
theorem Rd.G {w:aw}{wb i:Nat}(R:Rd w rb wb ws i)(h:Below n w w')(hr:rb<n)(hw:wb<n):Rd w' rb wb ws i:=
 (jr.oB R.next h).rd R hr hw R.lt
theorem Rd.alloc {w:aw}{wb i:Nat}(R:Rd w rb wb ws i)(o:Obj):Rd (w.alloc o) rb wb ws i:=
 R.G ((Va w).alloc (aE _) o) R.blocks.1 R.blocks.2
theorem jr.alloc {w:aw}(h:jr n rb w w' j)(hn:n<=w.heap.size)(o:Obj):jr n rb w (w'.alloc o) j:=
 Below.alloc h (aM hn h.size) o
theorem jr.setCell {w:aw}(h:jr n rb w w' j){a:Addr}(ha:n<=a.block)(u:Value):jr n rb w (w'.setCell a u) j:=Below.setCell h ha u
theorem jr.drew {w:aw}(h:jr n rb w w' j):jr n rb w w'.drew j:=Below.drew h
theorem jr.grown {w:aw}(h:jr n rb w w1 j)(hg:w1.grownBy w' row)(hn:n<=w.heap.size)(hr:∀k,row=some k->n<=k):jr n rb w w' j:=
 Below.grown h hg (aM hn h.size) hr
theorem jr.G {w:aw}{m:Nat}(h:jr n rb w w1 j)(hb:Below m w1 w')(hnm:n<=m):jr n rb w w' j:=Below.J h (hb.V hnm)
theorem jr.step {w:aw}{i:Nat}(h:jr n rb w w' i)(j:Nat):jr n rb w (w'.setCell (aj rb 1) (aa j)) j:=
 h.J (Below.refl n (De w' rb j)) (aE _)
theorem Sg (rb wb:Nat)(ws:List W)(i:Nat)(x:W)(R:Rd w rb wb ws i)(hx:ws[i]?=some x)(hs:0<x.1.size):
  Calls prog 337 #[ah rb] w λe w'=>e= .returned (.agg #[aa (dV x.1),ag x.1,aa x.2])/\Rd w' rb wb ws (i+1)/\jr w.heap.size rb w w' (i+1):=by
 have hlt:=R.lt;have hfew:=R.few;have⟨Vr,Vs⟩:=R.blocks;go_in
 go_wp2_with fail;refine(Ny _ rb wb ws i x (R.alloc _) hx).V ?_;rintro e w1 ⟨rfl,Vp⟩;have hz:w.heap.size<w1.heap.size:=by have:=Vp.size;simp at this;omega
 have R1:=(R.alloc _).G Vp Ve Ve;have⟨p1,p2,p3,p4⟩:=gT (w:=w1) (b:=rb) Vc;have⟨s1,s2,s3,s4⟩:=gT (w:=w1) (b:=w.heap.size) hz;have⟨t1,t2⟩:=qN Vp (b:=w.heap.size) Vd;have n1:=R1.next;have n2:=R1.free;have n3:¬rb=w.heap.size:=Vc;have n4:¬w.heap.size=rb:=Vc;go_wp2_with fail;have A1:jr w.heap.size rb w w1 i:=jr.oB R.next ((Vb w _).J (Vp.V Vd));have A2:=(((((A1.alloc (aE _) (am #[Value.int IntKind.i64 (dV x.fst),Value.string x.fst,Value.int IntKind.i64 x.snd] 148)).step (i+1)).setCell (a:=(aj w.heap.size 0)) (aE _) (Value.int IntKind.i64 (dV x.fst))).setCell (a:=(aj w.heap.size 1)) (aE _) (Value.string x.fst)).setCell (a:=(aj w.heap.size 2)) (aE _) (Value.int IntKind.i64 x.snd));refine dR (v:= .agg #[aa (dV x.1),ag x.1,aa x.2]) ?_ rfl ⟨rfl,?_,A2⟩;.simp[results,results337,go_sem, *]
 .exact A2.rd R Vr Vs (R.ends i x hx hs)
theorem jQ (a b c:Value)(w:aw):(Instr.field 148 (.agg #[a,b,c]) 0).run prog w= .ok a w:=Vh
theorem jR (a b c:Value)(w:aw):(Instr.field 148 (.agg #[a,b,c]) 1).run prog w= .ok b w:=Vh
theorem jS (a b c:Value)(w:aw):(Instr.field 148 (.agg #[a,b,c]) 2).run prog w= .ok c w:=Vh
attribute [local go_sem] jQ jR jS
def dY (e p:Int):Ending:= .panicked [{v:= .iface 142 (.agg #[aa e,aa p]),recovered:=false}]
theorem Ub (rb wb:Nat)(ws:List W)(i:Nat)(x:W)(R:Rd w rb wb ws i)(hx:ws[i]?=some x):
  Calls prog 336 #[ah rb] w λe w'=>e=dY 2 x.2/\ak w w':=by
 go_in
 go_wp2_with fail;refine(Ny _ rb wb ws i x R hx).V ?_;rintro e w1 ⟨rfl,Vp⟩;go_wp2_with fail;refine(JM _ _ _).V ?_;rintro e w2 ⟨rfl,rfl⟩;go_wp2;exact⟨rfl,rfl,Vp⟩
theorem NC (rb wb:Nat)(ws:List W)(i:Nat)(x:W)(s:au)(R:Rd w rb wb ws i)(hx:ws[i]?=some x):
  Calls prog 175 #[ah rb,ag s] w λe w'=>e= .returned (.bool (x.1.toList==s.toList))/\ak w w':=by
 go_in
 go_wp2_with fail;refine(Ny _ rb wb ws i x R hx).V ?_;rintro e w1 ⟨rfl,Vp⟩;go_wp2;go_ret;exact⟨rfl,Vp⟩
theorem sH (h:dV s≠4):0<s.size:=by
 unfold dV at h;by_cases h0:s.size=0;.rw[dP h0]at h;exact absurd rfl h
 .omega
theorem sI {l:ap}(h:(s.toList==l)=true)(hl:0<l.length):0<s.size:=by
 have h1:s.toList=l:=by simpa using h
 have h2:s.toList.length=s.size:=by rw[ByteArray.toList_eq];rfl
 rw[h1]at h2;omega
theorem Qn (rb wb:Nat)(ws:List W)(i:Nat)(x:W)(s:au)(R:Rd w rb wb ws i)(hx:ws[i]?=some x)(hs:(x.1.toList==s.toList)=true)(hp:0<x.1.size):
  Calls prog 256 #[ah rb,ag s] w λe w'=>e= .returned (.tuple #[])/\Rd w' rb wb ws (i+1)/\jr w.heap.size rb w w' (i+1):=by
 go_in
 go_wp2_with fail;refine(NC _ rb wb ws i x s R hx).V ?_;rintro e w1 ⟨rfl,Vp⟩;have R1:=R.G Vp R.blocks.1 R.blocks.2;have A1:=jr.oB R.next Vp;go_wp2_with fail;refine(Sg _ rb wb ws i x R1 hx hp).V ?_;rintro e w2 ⟨rfl,R2,A2⟩;go_wp2;go_end0;exact⟨rfl,R2,A1.J A2 A1.size⟩
theorem Qo (rb wb:Nat)(ws:List W)(i:Nat)(x:W)(s:au)(R:Rd w rb wb ws i)(hx:ws[i]?=some x)(hs:(x.1.toList==s.toList)=false):
  Calls prog 256 #[ah rb,ag s] w λe w'=>e=dY 2 x.2/\jr w.heap.size rb w w' i:=by
 go_in
 go_wp2_with fail;refine(NC _ rb wb ws i x s R hx).V ?_;rintro e w1 ⟨rfl,Vp⟩;have R1:=R.G Vp R.blocks.1 R.blocks.2;have A1:=jr.oB R.next Vp;go_wp2_with fail;refine(Ub _ rb wb ws i x R1 hx).V ?_;rintro e w2 ⟨rfl,Vq⟩;unfold dY;go_wp2;exact⟨rfl,rfl,A1.G Vq Vp.size⟩
theorem Qp (rb wb:Nat)(ws:List W)(i:Nat)(x:W)(k:Int)(R:Rd w rb wb ws i)(hx:ws[i]?=some x)(hs:(dV x.1 !=k)=false)(hp:0<x.1.size):
  Calls prog 257 #[ah rb,aa k] w λe w'=>e= .returned (.agg #[aa (dV x.1),ag x.1,aa x.2])/\Rd w' rb wb ws (i+1)/\jr w.heap.size rb w w' (i+1):=by
 have B0:=(Va w).alloc (aE _) (am #[Value.int IntKind.i64 0,Value.string {data:= #[]},Value.int IntKind.i64 0] 148);go_in
 go_wp2_with fail;refine(Ny _ rb wb ws i x (R.alloc _) hx).V ?_;rintro e w1 ⟨rfl,Vp⟩;have R1:=(R.alloc _).G Vp (R.alloc _).blocks.1 (R.alloc _).blocks.2;have A1:=jr.oB R.next (B0.J (Vp.V Vd));have z1:w.heap.size<w1.heap.size:=by have:=Vp.size;simp at this;omega
 go_wp2_with fail;refine(Sg _ rb wb ws i x R1 hx hp).V ?_;rintro e w2 ⟨rfl,R2,A2⟩;have A3:=A1.J A2 Vc;have n1:¬w.heap.size=rb:=by have:=R.blocks;omega
 have⟨t1,t2⟩:=qN Vp (b:=w.heap.size) Vd;have u1:∀off,w2.cell? (aj w.heap.size off)=w1.cell? (aj w.heap.size off):=λoff=>A2.cell (a:=(aj w.heap.size off)) z1 n1
 have u2:∀off,w2.frozen? (aj w.heap.size off)=w1.frozen? (aj w.heap.size off):=λoff=>(Below.frozen A2 (p:=(aj w.heap.size off)) z1).J (World.frozen?_setCell _ _ _ _)
 go_wp2;have A4:=((A3.setCell (a:=(aj w.heap.size 0)) (aE _) (Value.int IntKind.i64 (dV x.fst))).setCell (a:=(aj w.heap.size 1)) (aE _) (Value.string x.fst)).setCell (a:=(aj w.heap.size 2)) (aE _) (Value.int IntKind.i64 x.snd);refine dR (v:= .agg #[aa (dV x.1),ag x.1,aa x.2]) ?_ rfl ⟨rfl,?_,A4⟩;.simp[results,results257,go_sem, *]
 .exact A4.rd R R.blocks.1 R.blocks.2 (R.ends i x hx hp)
theorem Qq (rb wb:Nat)(ws:List W)(i:Nat)(x:W)(k:Int)(R:Rd w rb wb ws i)(hx:ws[i]?=some x)(hs:(dV x.1 !=k)=true):
  Calls prog 257 #[ah rb,aa k] w λe w'=>e=dY 2 x.2/\jr w.heap.size rb w w' i:=by
 have B0:=(Va w).alloc (aE _) (am #[Value.int IntKind.i64 0,Value.string {data:= #[]},Value.int IntKind.i64 0] 148);go_in
 go_wp2_with fail;refine(Ny _ rb wb ws i x (R.alloc _) hx).V ?_;rintro e w1 ⟨rfl,Vp⟩;have R1:=(R.alloc _).G Vp (R.alloc _).blocks.1 (R.alloc _).blocks.2;have A1:=jr.oB R.next (B0.J (Vp.V Vd));have z1:w.heap.size<w1.heap.size:=by have:=Vp.size;simp at this;omega
 go_wp2_with fail;refine(Ub _ rb wb ws i x R1 hx).V ?_;rintro e w2 ⟨rfl,Vq⟩;unfold dY;go_wp2;exact⟨rfl,rfl,A1.G Vq Vc⟩
end
section
variable {α:Type} {k i:Nat} (ws:List W) {stop:Nat->Bool}
structure eU where
 form:Int
 key:Option W
 type:W
 name:W
 num:W
structure fI where
 oneof:Option W
 fields:List eU
structure d7 where
 enum:Bool
 name:W
 parts:List fI
 values:List (W×W)
abbrev oB (α:Type):=Except Nat (α×Nat)
def gM {α β:Type}(r:oB α)(f:α->Nat->oB β):oB β:=
 match r with
 | .error p=> .error p
 | .ok (a,j)=>f a j
def kM (ws:List W)(k:Int)(i:Nat):oB W:=
 match ws[i]? with
 |some x=>if dV x.1==k then .ok (x,i+1)else .error x.2
 |none=> .error 0
def gu (ws:List W)(s:ap)(i:Nat):oB Unit:=
 match ws[i]? with
 |some x=>if x.1.toList==s then .ok ((),i+1)else .error x.2
 |none=> .error 0
def pJ (ws:List W)(i:Nat):oB W:=
 match ws[i]? with
 |some x=>if dV x.1==3||dV x.1==1 then .ok (x,i+1)else .error x.2
 |none=> .error 0
def kW (ws:List W)(i:Nat):oB (W×W):=
 gM (kM ws 1 i) λn i=>gM (gu ws [61] i) λ_ i=>gM (kM ws 2 i) λm i=>gM (gu ws [59] i) λ_ i=> .ok ((n,m),i)
def fX (ws:List W)(form:Int)(i:Nat):oB eU:=
 gM (pJ ws i) λt i=>gM (kW ws i) λnm i=> .ok (⟨form,none,t,nm.1,nm.2⟩,i)
def nN (ws:List W)(i:Nat):oB eU:=
 gM (gu ws [109,97,112] i) λ_ i=>gM (gu ws [60] i) λ_ i=>gM (pJ ws i) λk i=>gM (gu ws [44] i) λ_ i=>
 gM (pJ ws i) λt i=>gM (gu ws [62] i) λ_ i=>gM (kW ws i) λnm i=> .ok (⟨4,some k,t,nm.1,nm.2⟩,i)
def gI {α:Type}(stop:Nat->Bool)(p:Nat->oB α):Nat->Nat->oB (List α)
 |0,i=> .ok ([],i)
 |n+1,i=>if stop i then .ok ([],i)else gM (p i) λa j=>gM (gI stop p n j) λl k=> .ok (a::l,k)
def nO {α:Type}(pre:List α)(r:oB (List α)):oB (List α):=gM r λl k=> .ok (pre++l,k)
def gk (ws:List W)(s:ap)(i:Nat):Bool:=
 match ws[i]? with
 |some x=>x.1.toList==s
 |none=>true
def oC (ws:List W)(i:Nat):Bool:=
 match ws[i]? with
 |some x=>dV x.1==4
 |none=>true
def jg (ws:List W)(i:Nat):oB fI:=
 gM (gu ws [111,110,101,111,102] i) λ_ i=>gM (kM ws 1 i) λo i=>gM (gu ws [123] i) λ_ i=>gM (fX ws 3 i) λf i=>
 gM (nO [f] (gI (gk ws [125]) (fX ws 3) ws.length i)) λl i=>gM (gu ws [125] i) λ_ i=> .ok (⟨some o,l⟩,i)
def mw (r:oB eU):oB fI:=gM r λf i=> .ok (⟨none,[f]⟩,i)
def kA (ws:List W)(i:Nat):oB fI:=
 if gk ws [111,110,101,111,102] i then jg ws i
 else if gk ws [109,97,112] i then mw (nN ws i)
 else if gk ws [114,101,112,101,97,116,101,100] i then mw (fX ws 2 (i+1))
 else if gk ws [111,112,116,105,111,110,97,108] i then mw (fX ws 1 (i+1))
 else mw (fX ws 0 i)
def ia (ws:List W)(i:Nat):oB d7:=
 gM (gu ws [109,101,115,115,97,103,101] i) λ_ i=>gM (kM ws 1 i) λn i=>gM (gu ws [123] i) λ_ i=>
 gM (gI (gk ws [125]) (kA ws) ws.length i) λl i=>gM (gu ws [125] i) λ_ i=> .ok (⟨false,n,l,[]⟩,i)
def lV (ws:List W)(i:Nat):oB d7:=
 gM (gu ws [101,110,117,109] i) λ_ i=>gM (kM ws 1 i) λn i=>gM (gu ws [123] i) λ_ i=>
 gM (gI (gk ws [125]) (kW ws) ws.length i) λl i=>gM (gu ws [125] i) λ_ i=> .ok (⟨true,n,[],l⟩,i)
def jT (ws:List W)(i:Nat):oB d7:=if gk ws [101,110,117,109] i then lV ws i else ia ws i
def pZ (ws:List W):oB (List d7):=gI (oC ws) (jT ws) ws.length 0
def On {α:Type}(i:Nat)(r:oB α):Prop:=∀a j,r= .ok (a,j)->i<j
theorem d6 {β:Type}{r:oB α}{f:α->Nat->oB β}{b:β}(h:gM r f= .ok (b,k)):∃a j,r= .ok (a,j)/\f a j= .ok (b,k):=by
 cases r with
 |error p=>simp[gM]at h
 |ok x=>exact⟨x.1,x.2,rfl,h⟩
theorem iQ (k:Int)(i:Nat):∀a j,kM ws k i= .ok (a,j)->j=i+1/\ws[i]?=some a/\dV a.1=k:=by
 intro a j h;unfold kM at h;split at h
 .split at h;.simp at h;obtain⟨rfl,rfl⟩:=h;refine⟨rfl,Vm,by simp_all⟩
  .simp at h
 .simp at h
theorem fC (s:ap)(i:Nat):∀a j,gu ws s i= .ok (a,j)->j=i+1/\∃x,ws[i]?=some x/\x.1.toList=s:=by
 intro a j h;unfold gu at h;split at h
 .split at h;.simp at h;subst h;exact⟨rfl,_,Vm,by simp_all⟩
  .simp at h
 .simp at h
theorem lW (i:Nat):∀a j,pJ ws i= .ok (a,j)->j=i+1/\ws[i]?=some a/\(dV a.1=3\/dV a.1=1):=by
 intro a j h;unfold pJ at h;split at h
 .split at h;.simp at h;obtain⟨rfl,rfl⟩:=h;refine⟨rfl,Vm,by simp_all⟩
  .simp at h
 .simp at h
theorem wy (i:Nat):On i (kW ws i):=by
 intro a j h;unfold kW at h;have⟨_,i1,h1,h⟩:=d6 h;have⟨_,i2,h2,h⟩:=d6 h;have⟨_,i3,h3,h⟩:=d6 h;have⟨_,i4,h4,h⟩:=d6 h;have:=(iQ _ _ _ _ _ h1).1;have:=(fC _ _ _ _ _ h2).1;have:=(iQ _ _ _ _ _ h3).1;have:=(fC _ _ _ _ _ h4).1;simp at h;omega
theorem lJ (form:Int)(i:Nat):On i (fX ws form i):=by
 intro a j h;unfold fX at h;have⟨_,i1,h1,h⟩:=d6 h;have⟨_,i2,h2,h⟩:=d6 h;have:=(lW _ _ _ _ h1).1;have:=wy _ _ _ _ h2;simp at h;omega
theorem NP (i:Nat):On i (nN ws i):=by
 intro a j h;unfold nN at h;have⟨_,i1,h1,h⟩:=d6 h;have⟨_,i2,h2,h⟩:=d6 h;have⟨_,i3,h3,h⟩:=d6 h;have⟨_,i4,h4,h⟩:=d6 h;have⟨_,i5,h5,h⟩:=d6 h;have⟨_,i6,h6,h⟩:=d6 h;have⟨_,i7,h7,h⟩:=d6 h;have:=(fC _ _ _ _ _ h1).1;have:=(fC _ _ _ _ _ h2).1;have:=(lW _ _ _ _ h3).1;have:=(fC _ _ _ _ _ h4).1;have:=(lW _ _ _ _ h5).1;have:=(fC _ _ _ _ _ h6).1;have:=wy _ _ _ _ h7;simp at h;omega
theorem sJ (stop:Nat->Bool)(p:Nat->oB α)(hp:∀i,On i (p i)):∀n i a j,gI stop p n i= .ok (a,j)->i<=j
 |0,i,a,j,h=>by simp[gI]at h;omega
 |n+1,i,a,j,h=>by
  unfold gI at h;split at h;.simp at h;omega
  .have⟨_,i1,h1,h⟩:=d6 h;have⟨_,i2,h2,h⟩:=d6 h;have:=hp _ _ _ h1;have:=sJ stop p hp _ _ _ _ h2;simp at h;omega
theorem IJ (i:Nat):On i (jg ws i):=by
 intro a j h;unfold jg at h;have⟨_,i1,h1,h⟩:=d6 h;have⟨_,i2,h2,h⟩:=d6 h;have⟨_,i3,h3,h⟩:=d6 h;have⟨_,i4,h4,h⟩:=d6 h;have⟨_,i5,h5,h⟩:=d6 h;have⟨_,i6,h6,h⟩:=d6 h;have⟨_,i7,h7,h8⟩:=d6 h5;have:=(fC _ _ _ _ _ h1).1;have:=(iQ _ _ _ _ _ h2).1;have:=(fC _ _ _ _ _ h3).1;have:=lJ _ _ _ _ _ h4;have:=sJ _ _ (lJ ws 3) _ _ _ _ h7;have:=(fC _ _ _ _ _ h6).1;simp at h h8;omega
theorem qO {r:oB eU}(hr:On i r):On i (mw r):=by
 intro a j h;have⟨_,i1,h1,h⟩:=d6 h;have:=hr _ _ h1;simp at h;omega
theorem On.V {r:oB α}(h:On k r)(hik:i<=k):On i r:=λa j e=>Nat.lt_of_le_of_lt hik (h a j e)
theorem Dn (i:Nat):On i (kA ws i):=by
 unfold kA;split;.exact IJ ws i
 .split;.exact qO (NP ws i)
  .split;.exact qO ((lJ ws 2 (i+1)).V Vc)
   .split;.exact qO ((lJ ws 1 (i+1)).V Vc)
    .exact qO (lJ ws 0 i)
theorem o9 {p:Nat->oB α}{n:Nat}(h:stop i=true):gI stop p n i= .ok ([],i):=by
 cases n with
 |zero=>rfl
 |succ n=>simp[gI,h]
theorem qP {p:Nat->oB α}{n q:Nat}(h:stop i=false)(hn:0<n)(hp:p i= .error q):gI stop p n i= .error q:=by
 cases n with
 |zero=>omega
 |succ n=>simp[gI,h,hp,gM]
theorem sK {p:Nat->oB α}{n j:Nat}{a:α}(pre:List α)(h:stop i=false)(hn:0<n)(hp:p i= .ok (a,j)):
  nO pre (gI stop p n i)=nO (pre++ [a]) (gI stop p (n-1) j):=by
 cases n with
 |zero=>omega
 |succ n=>
  simp only[gI,h,hp,gM,Nat.add_sub_cancel];cases gI stop p n j<;>simp[nO,gM]
end
end Go.Proofs.YtfebdimolnobaaaGreatDoor
