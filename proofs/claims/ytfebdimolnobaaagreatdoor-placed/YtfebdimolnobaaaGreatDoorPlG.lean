import Derived.Test.YtfebdimolnobaaaGreatDoorPtA
import Derived.Laws.EntriesVeiled
import Derived.Lib.Builder
import Derived.Lib.AppendStr
import Derived.Lib.UnsafeStr
import Derived.Lib.MakeNoZero
import Derived.Shelf.RegionOpenPlain
import Derived.Shelf.Small.Bits
import Derived.Shelf.Strconv.Itoa0
set_option maxRecDepth 100000
set_option maxHeartbeats 8000000
set_option linter.all false
namespace Go.Proofs.YtfebdimolnobaaaGreatDoor
open Go.RowKit
section
attribute [local go_sem↓] Go.wp_at_zero Go.wp_at_succ
structure py where
 n:Int
 c1:Value
 c2:Value
 c3:Value
 c4:Value
 c5:Value
 c6:Value
 c7:Value
def gB (x:py):aq:= [aa x.n,x.c1,x.c2,x.c3,x.c4,x.c5,x.c6,x.c7]
theorem nH (x:py):(gB x).length=8:=rfl
theorem Bi (x:py)(n:Int)(w:an):
  Calls Tryz.prog 215 #[.agg #[aa x.n,x.c1,x.c2,x.c3,x.c4,x.c5,x.c6,x.c7],aa n] w fun e w'=>e= .returned (aa (iS x.n n))/\aj w w':=by
 have hC:=nY x.n n;have B0:∀o,aj w (w.alloc o):=fun o=>(Below.refl w.heap.size w).alloc (ay _) o
 generalize iS x.n n=c at hC⊢;go_enter Tryz.func215,Tryz.ntmps215
 go_wp2_with fail
 refine(hC _).mono ?_;rintro e w' ⟨rfl,rfl⟩;go_wp2;go_ret;exact⟨rfl,B0 _⟩
theorem FQ (w:an)(v:Value)(l:List py)(t:Int)(lo:Nat)(hrow:w.ownsRow lo 268 8 v l.length (l.flatMap gB))(h1:∀x∈l,x.c1.oneCell'=true/\x.c2.oneCell'=true/\x.c3.oneCell'=true/\x.c4.oneCell'=true/\x.c5.oneCell'=true/\x.c6.oneCell'=true/\x.c7.oneCell'=true)(hs:l.Pairwise (fun a b=>a.n<=b.n))(hl:l.length<=4194304):
  Calls Tryz.prog 214 #[v,aa t,.func (.func 215) #[] #[]] w fun e w'=>sq (l.map (·.n)) t e/\aj w w':=by
 obtain⟨a,c,rfl⟩:=gS hrow
 have HS:Hid (∀(i j:Nat) (x y:py),l[i]?=some x->l[j]?=some y->i<=j->x.n<=y.n):=fun i j x y hx hy N8=>by
  by_cases e:i=j
  ·subst e;rw[hx]at hy;obtain rfl:=Option.some.inj hy;exact cH _
  ·rw[bC]at hs;have hi:=gl hx;have hj:=gl hy;have:=hs i j hi hj (by omega);rw[aJ hi]at hx;rw[aJ hj]at hy;rw[<-Option.some.inj hx,<-Option.some.inj hy];exact this
 have HG:Hid (∀(i:Nat) (x:py),l[i]?=some x->∃g,a=some (ai g 0)/\g<w.heap.size/\∀w':an,w'.heap[g]?=w.heap[g]?->w'.cell? (ai g (i*8))=some (aa x.n)/\w'.cell? (ai g (i*8+1))=some x.c1/\w'.cell? (ai g (i*8+2))=some x.c2/\w'.cell? (ai g (i*8+3))=some x.c3/\w'.cell? (ai g (i*8+4))=some x.c4/\w'.cell? (ai g (i*8+5))=some x.c5/\w'.cell? (ai g (i*8+6))=some x.c6/\w'.cell? (ai g (i*8+7))=some x.c7):=fun i x hx=>by
  have hi:=gl hx;obtain⟨g,rfl,_,N3,N2⟩:=dE hrow (by omega);have hf:=fun j hj=>eE gB 8 nH l i x hx j hj
  refine⟨g,rfl,N3,fun w' hw=>⟨?_,?_,?_,?_,?_,?_,?_,?_⟩⟩
  ·exact N2 w' hw _ _ ((hf 0 (by omega)).trans rfl)
  ·exact N2 w' hw _ _ ((hf 1 (by omega)).trans rfl)
  ·exact N2 w' hw _ _ ((hf 2 (by omega)).trans rfl)
  ·exact N2 w' hw _ _ ((hf 3 (by omega)).trans rfl)
  ·exact N2 w' hw _ _ ((hf 4 (by omega)).trans rfl)
  ·exact N2 w' hw _ _ ((hf 5 (by omega)).trans rfl)
  ·exact N2 w' hw _ _ ((hf 6 (by omega)).trans rfl)
  ·exact N2 w' hw _ _ ((hf 7 (by omega)).trans rfl)
 clear hs hrow;go_enter Tryz.func214,Tryz.ntmps214
 go_wp2;go_loopw [9,10] (fun iv jv wr=>∃(i j:Nat),i<=j/\j<=l.length/\iv=aa i/\jv=aa j/\Hid (∀(k:Nat) (x:py),l[k]?=some x->k<i->x.n<t)/\Hid (∀(k:Nat) (x:py),l[k]?=some x->j<=k->t<=x.n)/\aj w wr) (fun iv jv _=>((intOf jv)-(intOf iv)).toNat)
 case atStart=>exact⟨0,l.length,aM _,ay _,rfl,rfl,(fun k x _ h=>by omega),(fun k x hx h=>by rw[aQ (by omega)]at hx;cases hx),Below.refl _ _⟩
 case round=>
  obtain⟨i,j,N8,Oa,rfl,rfl,H1,H2,CW⟩:=hrel
  by_cases hlt:i<j
  ·obtain⟨h,hh⟩:∃h,(i+j)/2=h:=⟨_,rfl⟩;have Ob:h<l.length:=by omega
   have Oc:i<=h:=by omega
   have hhj:h<j:=by omega
   obtain⟨x,hx⟩:=gx Ob;obtain⟨g,rfl,N3,N7⟩:=HG.out h x hx;obtain⟨c0,c1,c2,c3,c4,c5,c6,c7⟩:=N7 wr (CW.block g N3);obtain⟨o1,o2,o3,o4,o5,o6,o7⟩:=h1 x (aI hx);clear N7;have hw1:IntKind.u64.wrap ((i:Int)+(j:Int))=(i:Int)+(j:Int):=eR (by omega) (by omega);have hdiv:((i:Int)+(j:Int))/2=(h:Int):=by omega
   have hw2:IntKind.i64.wrap (h:Int)=(h:Int):=by simp[IntKind.wrap,IntKind.bits,IntKind.signed];omega
   by_cases hxt:x.n<t
   ·have hd:decide (iS x.n t<0)=true:=by simp[kZ,hxt]
    have HX:Hid (l[h]?=some x):=hx;clear hh hx HG;go_wp2_with fail
    refine(Bi x t _).mono ?_;rintro e w2 ⟨rfl,b2⟩;go_wp2;go_roundw
    case rel=>exact⟨h+1,j,by omega,Oa,rfl,rfl,(fun k y hy hk=>Int.lt_of_le_of_lt (HS.out k h y x hy HX.out (by omega)) hxt),H2,dH CW b2⟩
    case measure=>simp[intOf];omega
   ·have hd:decide (iS x.n t<0)=false:=decide_eq_false (fun q=>hxt ((kZ _ _).1 q));have HX:Hid (l[h]?=some x):=hx;clear hh hx HG;go_wp2_with fail
    refine(Bi x t _).mono ?_;rintro e w2 ⟨rfl,b2⟩;go_wp2;go_roundw
    case rel=>exact⟨i,h,Oc,by omega,rfl,rfl,H1,(fun k y hy hk=>Int.le_trans (by omega) (HS.out h k x y HX.out hy hk)),dH CW b2⟩
    case measure=>simp[intOf];omega
  ·obtain rfl:i=j:=by omega
   have hli:decide ((i:Int)<(i:Int))=false:=by simp
   by_cases hil:i<l.length
   ·obtain⟨x,hx⟩:=gx hil;obtain⟨g,rfl,N3,N7⟩:=HG.out i x hx;obtain⟨c0,c1,c2,c3,c4,c5,c6,c7⟩:=N7 wr (CW.block g N3);obtain⟨o1,o2,o3,o4,o5,o6,o7⟩:=h1 x (aI hx);clear N7;have HX:Hid (l[i]?=some x):=hx;have hti:=H2.out i x hx (ay _)
    have hd:(iS x.n t==0)=decide (x.n=t):=by
     rw[b8];unfold iS
     by_cases q1:x.n<t
     ·simp[q1];omega
     ·by_cases q2:t<x.n
      ·simp[q1,q2];omega
      ·simp[q1,q2];omega
    have hN:decide ((l.map (·.n))[i]?=some t)=decide (x.n=t):=by rw[aO,hx];simp
    have HE:Hid (decide ((l.map (·.n))[i]?=some t)=decide (x.n=t)):=hN;clear hx HG hN hlt N8;go_wp2_with fail
    refine(Bi x t _).mono ?_;rintro e w2 ⟨rfl,b2⟩;go_wp2;go_ret2;refine⟨⟨i,by rw[HE.out];rfl,by simpa using Oa,?_,?_⟩,dH CW b2⟩
    ·intro k y hy hk;rw[aO]at hy;obtain⟨z,hz,rfl⟩:=Option.map_eq_some_iff.1 hy;exact H1.out k z hz hk
    ·intro k y hy hk;rw[aO]at hy;obtain⟨z,hz,rfl⟩:=Option.map_eq_some_iff.1 hy;exact H2.out k z hz hk
   ·have hli2:decide ((i:Int)<(l.length:Int))=false:=by simp;omega
    have HE:Hid (decide ((l.map (·.n))[i]?=some t)=false):=by
     show decide ((l.map (·.n))[i]?=some t)=false;rw[aQ (by rw[aV];omega)];simp
    clear HG hlt N8;go_wp2;go_ret2;refine⟨⟨i,by rw[HE.out];rfl,by simpa using Oa,?_,?_⟩,CW⟩
    ·intro k y hy hk;rw[aO]at hy;obtain⟨z,hz,rfl⟩:=Option.map_eq_some_iff.1 hy;exact H1.out k z hz hk
    ·intro k y hy hk;rw[aO]at hy;obtain⟨z,hz,rfl⟩:=Option.map_eq_some_iff.1 hy;exact H2.out k z hz hk
def JJ (l:List py)(v:Value)(t:Int)(e:Ending):Prop:=
 (∃(i g:Nat) (x:py),l[i]?=some x/\x.n=t/\(∀j y,l[j]?=some y->j<i->y.n≠t)/\v.ownBlock=some g/\e= .returned (.pointer (some (ai g (i*8)))))\/((∀x∈l,x.n≠t)/\e= .returned (.pointer none))
theorem JK (w:an)(pb:Nat)(v:Value)(l:List py)(t:Int)(lo:Nat)(hP:de w pb #[v] 254)(hrow:w.ownsRow lo 268 8 v l.length (l.flatMap gB))(h1:∀x∈l,x.c1.oneCell'=true/\x.c2.oneCell'=true/\x.c3.oneCell'=true/\x.c4.oneCell'=true/\x.c5.oneCell'=true/\x.c6.oneCell'=true/\x.c7.oneCell'=true)
  (hs:l.Pairwise (fun a b=>a.n<=b.n)) (hl:l.length<=4194304):
  Calls Tryz.prog 141 #[ag pb,aa t] w fun e w'=>JJ l v t e/\aj w w':=by
 have hS:=FQ w v l t lo hrow h1 hs hl;obtain⟨a,c,rfl⟩:=gS hrow;obtain⟨k1,k2⟩:=hP.rules;go_enter Tryz.func141,Tryz.ntmps141
 go_wp2_with fail
 refine hS.mono ?_;rintro e w1 ⟨⟨i,rfl,q1,q2,q3⟩,hb⟩;obtain⟨k3,k4⟩:=(hP.below hb hP.lt).rules;clear hS k1 k2
 by_cases hf:(l.map (·.n))[i]?=some t
 ·have hd:decide ((l.map (·.n))[i]?=some t)=true:=by simpa using hf
  rw[hd]
  have N2:i<l.length:=by
   by_cases q:i<l.length
   ·exact q
   ·rw[aQ (by simp;omega)]at hf;cases hf
  rw[aO]at hf;obtain⟨x,hx,Oa⟩:=Option.map_eq_some_iff.1 hf;obtain⟨g,rfl,_,hgl,_⟩:=dE hrow (by omega);have HX:Hid (l[i]?=some x):=hx
  have N7:Hid (∀j y,l[j]?=some y->j<i->y.n≠t):=fun j y hy hj=>by
   have:=q2 j y.n (by rw[aO,hy];rfl) hj;omega
  clear hf hx hd q1 q2 q3;go_wp2;go_ret;exact⟨.inl ⟨i,g,x,HX.out,Oa,N7.out,rfl,by simp⟩,hb⟩
 ·have hd:decide ((l.map (·.n))[i]?=some t)=false:=by simpa using hf
  rw[hd]
  have N8:∀x∈l,x.n≠t:=fun x hx e=>by
   obtain⟨j,hj⟩:=List.mem_iff_getElem?.1 hx;have hm:(l.map (·.n))[j]?=some x.n:=by rw[aO,hj];rfl
   by_cases hji:j<i
   ·have:=q2 j x.n hm hji;omega
   ·by_cases he:j=i
    ·subst he;rw[hm,e]at hf;exact hf rfl
    ·have N3:j<l.length:=by
      by_cases q:j<l.length
      ·exact q
      ·rw[aQ (by omega)]at hj;cases hj
     have N2:i<l.length:=by omega
     rw[bC]at hs;have h3:=hs i j N2 N3 (by omega);have h4:=q3 i (l[i].n) (by rw[aO,aJ N2];rfl) (ay _);rw[aJ N3]at hj;rw[Option.some.inj hj]at h3;have h5:l[i].n=t:=by omega
     exact hf (by rw[aO,aJ N2];simp[h5])
  clear hf hd q1 q2 q3 hs;go_wp2;go_ret;exact⟨.inr ⟨N8,rfl⟩,hb⟩
end
def d6 (w:an)(B b:Nat)(p:Value)(l:List UInt8):Prop:=Lib.BuilderAt 285 5 B b p (Lib.byteCells l) w
abbrev dx (b:Nat):Value:=ag b
theorem vU:(Tryz.prog.info? 5).map (fun i=>(i.zero,i.size,i.bytes))=some (some (.int .u8 0),1,1):=by kernel_rfl
theorem zJ:(Tryz.prog.info? 283).map (·.size)=some 2:=by kernel_rfl
theorem FR:liesAt Tryz.prog Tryz.prog.depth 285 (2/Tryz.prog.cellsOf 285) 0 283 1=true:=by kernel_rfl
structure Wr (B:Nat)(w w':an):Prop where
 bel:Below B w w'
 fr:∀i cs T,T≠5->T≠285->de w i cs T->de w' i cs T
theorem Wr.refl (B:Nat)(w:an):Wr B w w:=⟨Below.refl _ _,fun _ _ _ _ _ h=>h⟩
theorem Wr.trans {B:Nat}{a b c:an}(h:Wr B a b)(k:Wr B b c):Wr B a c:=⟨h.bel.trans k.bel,fun i cs T q1 q2 q=>k.fr i cs T q1 q2 (h.fr i cs T q1 q2 q)⟩
theorem Wr.of {B:Nat}{w w':an}(h:aj w w')(hB:B<=w.heap.size):Wr B w w':=
 ⟨⟨h.os,h.tape,h.output,h.size,fun i hi=>h.block i (by omega)⟩,fun _ _ _ _ _ q=>q.below h q.lt⟩
theorem FS {w:an}{B n k:Nat}{v:Value}{xs:aq}{e T:TypeId}{i:Nat}{cs:Array Value}(h:w.ownsRow B e k v n xs)(hT:T≠e)(hb:de w i cs T):some i≠v.ownBlock:=by
 rcases h.2 with⟨rfl,_⟩|⟨g,cap,Ok,rfl,_,hg,_⟩
 ·intro q;cases q
 ·intro q;obtain rfl:i=g:=Option.some.inj q;unfold de at hb;rw[hg]at hb
  injection hb with hb
  injection hb with _ h2 _
  exact hT h2.symm
theorem FT {w:an}{b i:Nat}{cs cs':Array Value}{T T':TypeId}(h:de w b cs T)(h':de w i cs' T')(hT:T'≠T):b≠i:=by
 rintro rfl;unfold de at h h';rw[h]at h'
 injection h' with h'
 injection h' with _ h2 _
 exact hT h2.symm
theorem tR (b:Nat)(w:an)(h0:w.cell? (ai b 0)=some (dx b)):
  Calls Tryz.prog 228 #[dx b] w fun e w'=>e= .returned (.tuple #[])/\w'=w:=by
 obtain⟨j,hj,_⟩:=Option.map_eq_some_iff.1 zJ;go_enter Tryz.func228,Tryz.ntmps228
 go_wp2;rw[Lib.run_neq_ptr_same w _ Tryz.underlying281 hj];go_wp2;go_end0;exact⟨rfl,rfl⟩
theorem zK (b:Nat)(w:an)(h0:w.cell? (ai b 0)=some (.pointer none))(hsh:w.shape? b=some (285,2))(hfz:w.frozen? (ai b 0)=false):
  Calls Tryz.prog 228 #[dx b] w fun e w'=>e= .returned (.tuple #[])/\w'=w.setCell (ai b 0) (dx b):=by
 obtain⟨j,hj,Ol⟩:=Option.map_eq_some_iff.1 zJ;go_enter Tryz.func228,Tryz.ntmps228
 go_wp2;rw[Lib.run_to_unsafe w (ai b 0) Tryz.underlying281 Tryz.underlying322 hj (by rw[Ol];decide) hsh (Nat.zero_lt_succ 1)];simp only[Result.andThen];rw[Oper.upon_value];go_wp2;rw[run_callFunc_extern Tryz.func313 (by kernel_rfl) (by kernel_rfl) (by kernel_rfl) (e:=Extern.AbiNoEscape.same) (by kernel_rfl)];rw[Lib.run_noEscape];simp only[Result.andThen];rw[Oper.upon_value];go_wp2;rw[Lib.run_from_unsafe w (ai b 0) Tryz.underlying322 Tryz.underlying281 hj hsh FR];simp only[Result.andThen];rw[Oper.upon_value];go_wp2;go_end0;exact⟨rfl,rfl⟩
theorem zL (B b:Nat)(l:List UInt8)(c:UInt8)(w:an)(h:d6 w B b (dx b) l)(hlen:l.length+1<=140737488355328)(hBw:B<=w.heap.size):
  Calls Tryz.prog 391 #[dx b,.int .u8 c.toNat] w fun e w'=>e= .returned .nilIface/\d6 w' B b (dx b) (l++ [c])/\Wr B w w':=by
 obtain⟨i0,hi,Oe,Of,Og⟩:=info_parts vU;obtain⟨hB,v,N7,N8,Oh⟩:=h;have c0:w.cell? (ai b 0)=some (dx b):=by rw[Lib.cell_of_heap N7];rfl
 have c1:w.cell? (ai b 1)=some v:=by rw[Lib.cell_of_heap N7];rfl
 have Od:(Lib.byteCells l).length=l.length:=Lib.byteCells_length l;go_enter Tryz.func391,Tryz.ntmps391
 go_wp2_with fail
 refine(tR b w c0).mono ?_;rintro e w1 ⟨rfl,rfl⟩;go_wp2_with (at_builtin;refine wpList_append_own _ rfl _ _ 140 rfl B 5 i0 (.int .u8 0) 1 1 Tryz.underlying140 hi Oe Of Og rfl (by decide) _ _ _ rfl (N8.alloc _) (ai w1.heap.size 0) 1 1 [.int .u8 c.toNat] rfl rfl ?c1 ?c2 ?c3 ?c4 ?c5 ?_)
 case c1=>
  intro j u hj
  match j,hj with
  |0,hj=>simp at hj;subst hj;simp[Addr.add]
 case c2=>intro u hu;simp at hu;subst hu;rfl
 case c3=>unfold maxLen;omega
 case c4=>omega
 case c5=>simp;omega
 intro v' w2 N3 N2 _;have Ob:b<w1.heap.size:=de.lt N7
 have Oa:w2.heap[b]?=some (.cells #[dx b,v] 285 (0,0)):=by
  rw[N2.block b (by simp;omega) (fun e=>Oh e.symm),Lib.alloc_old w1 _ b Ob];exact N7
 have d0:w2.cell? (ai b 0)=some (dx b):=by rw[Lib.cell_of_heap Oa];rfl
 have d1:w2.cell? (ai b 1)=some v:=by rw[Lib.cell_of_heap Oa];rfl
 have f1:w2.frozen? (ai b 1)=false:=Lib.frozen_of_heap Oa 1
 obtain⟨g,cap,rfl⟩:∃g cap,v'= .slice (some (ai g 0)) (l.length+1) cap:=by
  rcases N3.2 with⟨_,h0⟩|⟨g,cap,Ok,hv,_⟩
  ·omega
  ·exact⟨g,cap,hv⟩
 go_wp2;go_ret;refine⟨rfl,?_,?_⟩
 ·unfold d6;rw[Lib.byteCells_append];exact Lib.BuilderAt.put (T:=285) (e:=5) hB Oa (bs':=Lib.byteCells l++Lib.byteCells [c]) (by simpa [Lib.byteCells,Od]using N3) (by decide)
 ·exact⟨(((Below.refl B _).alloc (by omega) _).grown N2 (by simp;omega) (fun k hk=>(N8.lt k hk).1)).setCell (p:=(ai b 1)) hB _,fun i cs T q1 q2 q=>((q.alloc _).grown N2 (FS N8 q1 q)).other _ _ (FT N7 q q2)⟩
theorem uZ (B b:Nat)(l:List UInt8)(s:am)(w:an)(h:d6 w B b (dx b) l)(hlen:l.length+s.size<=140737488355328)(hBw:B<=w.heap.size):
  Calls Tryz.prog 237 #[dx b,ae s] w fun e w'=>e= .returned (.tuple #[aa s.size,.nilIface])/\d6 w' B b (dx b) (l++s.data.toList)/\Wr B w w':=by
 obtain⟨i0,hi,Oe,Of,Og⟩:=info_parts vU;obtain⟨hB,v,N7,N8,Oh⟩:=h;have c0:w.cell? (ai b 0)=some (dx b):=by rw[Lib.cell_of_heap N7];rfl
 have c1:w.cell? (ai b 1)=some v:=by rw[Lib.cell_of_heap N7];rfl
 have Od:(Lib.byteCells l).length=l.length:=Lib.byteCells_length l;go_enter Tryz.func237,Tryz.ntmps237
 go_wp2_with fail
 refine(tR b w c0).mono ?_;rintro e w1 ⟨rfl,rfl⟩;go_wp2_with (at_builtin;refine Lib.wpList_append_own_string _ rfl _ _ 140 9 rfl B 5 i0 Tryz.underlying140 Tryz.underlying9 hi Oe Of Og _ _ _ rfl N8 s rfl ?c3 ?c4 ?c5 ?_)
 case c3=>unfold maxLen;omega
 case c4=>omega
 case c5=>omega
 intro v' w2 N3 N2 _;have Ob:b<w1.heap.size:=de.lt N7
 have Oa:w2.heap[b]?=some (.cells #[dx b,v] 285 (0,0)):=by
  rw[N2.block b Ob (fun e=>Oh e.symm)];exact N7
 have d0:w2.cell? (ai b 0)=some (dx b):=by rw[Lib.cell_of_heap Oa];rfl
 have d1:w2.cell? (ai b 1)=some v:=by rw[Lib.cell_of_heap Oa];rfl
 have f1:w2.frozen? (ai b 1)=false:=Lib.frozen_of_heap Oa 1
 obtain⟨ao,n',cap,rfl⟩:∃ao n' cap,v'= .slice ao n' cap:=by
  rcases N3.2 with⟨hv,_⟩|⟨g,cap,Ok,hv,_⟩
  ·exact⟨_,_,_,hv⟩
  ·exact⟨_,_,_,hv⟩
 go_wp2;go_ret2;refine⟨rfl,?_,?_⟩
 ·unfold d6;rw[Lib.byteCells_append];exact Lib.BuilderAt.put (T:=285) (e:=5) hB Oa (bs':=Lib.byteCells l++Lib.strCells s) (by simpa [Lib.strCells_length,Od]using N3) (by decide)
 ·exact⟨((Below.refl B _).grown N2 (by omega) (fun k hk=>(N8.lt k hk).1)).setCell (p:=(ai b 1)) hB _,fun i cs T q1 q2 q=>(q.grown N2 (FS N8 q1 q)).other _ _ (FT N7 q q2)⟩
theorem JL (B b n:Nat)(w:an)(hB:B<=b)(N7:de w b #[dx b,ah] 285)(hBw:B<=w.heap.size)(hn:n<=140737488355328):
  Calls Tryz.prog 229 #[dx b,aa n] w fun e w'=>e= .returned (.tuple #[])/\d6 w' B b (dx b) []/\Below B w w':=by
 have mixed:Tryz.prog.follows Departure.mixedOrders=true:=by kernel_rfl
 obtain⟨cs,Oi,hle,Oj⟩:=Lib.run_makeNoZero (P:=Tryz.prog) w.drew #[3] 140 5 Tryz.underlying140 n (by omega)
 have hw:IntKind.i64.wrap (IntKind.i64.wrap 0+(n:Int))=n:=by
  rw[IntKind.wrap_i64,IntKind.wrap_i64];omega
 have hcall:(callFunc 314 #[aa (IntKind.i64.wrap (IntKind.i64.wrap 0+(n:Int)))]).run Tryz.prog w.drew= .ok (.value (.slice (some (ai w.drew.heap.size 0)) n cs.size)) (w.drew.drew.drew.alloc (.cells cs 5)):=by
  rw[hw,run_callFunc_extern Tryz.func314 (by kernel_rfl) (by kernel_rfl) (by kernel_rfl) (e:=Extern.BytealgMakeNoZero.makeNoZero #[3] #[140]) (by kernel_rfl),Oi];rfl
 have Ob:=N7.lt;have c1:w.drew.cell? (ai b 1)=some (ah):=N7.cell 1;have k2:de (w.alloc (.cells cs 5)) b #[dx b,ah] 285:=N7.alloc _;have c2:(w.alloc (.cells cs 5)).cell? (ai b 1)=some (ah):=k2.cell 1;have f2:(w.alloc (.cells cs 5)).frozen? (ai b 1)=false:=k2.rules.2 1
 have hcopy:∀W:an,(Builtin.copy_ #[140,140] 3 #[.slice (some (ai w.heap.size 0)) 0 cs.size,ah]).run Tryz.prog W= .ok (goInt 0) W:=
  fun W=>run_copy_none W 140 140 3 5 _ _ 0 cs.size 0 0 Tryz.underlying140 (by kernel_rfl) rfl
 clear hw;have Oc:=Lib.grown_fresh (T:=285) (e:=5) (cs:=cs) hB N7 hBw (Oj (by unfold maxLen;omega)) (by decide);rw[World.setCell_alloc_past _ _ _ _ Ob]at Oc;go_enter Tryz.func229,Tryz.ntmps229
 go_wp2;go_region_o
 all_goals (go_wp2;go_end0;exact⟨rfl,Oc⟩)
theorem JM (B b n:Nat)(w:an)(hB:B<=b)(N2:de w b #[.pointer none,ah] 285)(hBw:B<=w.heap.size)(hn:n<=140737488355328):
  Calls Tryz.prog 151 #[dx b,aa n] w fun e w'=>e= .returned (.tuple #[])/\d6 w' B b (dx b) []/\Below B w w':=by
 have mixed:Tryz.prog.follows Departure.mixedOrders=true:=by kernel_rfl
 have N3:de (w.setCell (ai b 0) (dx b)) b #[dx b,ah] 285:=N2.set 0 _;have c1:(w.setCell (ai b 0) (dx b)).cell? (ai b 1)=some (ah):=N3.cell 1;have Oc:Below B w (w.setCell (ai b 0) (dx b)):=(Below.refl B w).setCell (p:=(ai b 0)) hB _;have hU:d6 (w.setCell (ai b 0) (dx b)) B b (dx b) []:=⟨hB,ah,N3,aX _ _ _ _,by simp[Value.ownBlock]⟩;have c1':(w.setCell (ai b 0) (dx b)).drew.cell? (ai b 1)=some (ah):=c1;go_enter Tryz.func151,Tryz.ntmps151
 go_wp2_with fail
 refine(zK b w (N2.cell 0) (by simp[World.shape?,show w.heap[b]?=_ from N2]) (N2.rules.2 0)).mono ?_;rintro e w' ⟨rfl,rfl⟩;go_wp2;go_region_o
 all_goals go_wp2_with (go_at_call 229;refine(JL B b n (w.setCell (ai b 0) (dx b)).drew hB N3 (by simpa [World.setCell,World.drew,-World.drew_eq]using hBw) hn).mono ?_;rintro e w' ⟨rfl,h1,h2⟩)
 all_goals first
  |(go_end0;exact⟨rfl,h1,Oc.drew.trans h2⟩)
  |(go_end0;exact⟨rfl,hU.drew,Oc.drew⟩)
theorem FU (B b:Nat)(l:List UInt8)(w:an)(h:d6 w B b (dx b) l)(hBw:B<=w.heap.size):
  Calls Tryz.prog 155 #[dx b] w fun e w'=>e= .returned (ae ⟨l.toArray⟩)/\Below B w w':=by
 have mixed:Tryz.prog.follows Departure.mixedOrders=true:=by kernel_rfl
 obtain⟨hB,v,N2,N7,hne⟩:=h;have Of:∀(W:an) (q:aw),(Builtin.unsafeString_ #[357,3] 9 #[.pointer q,aa 0]).run Tryz.prog W= .ok (.string .empty) W:=fun W q=>Lib.run_unsafeString_none W _ _ _ q
 rw[Lib.byteCells_length]at N7;have hlt:=de.lt N2
 rcases N7.2 with⟨rfl,hz⟩|⟨g,cap,N8,rfl,Oh,hg,Od,Oi,Oe,htake⟩
 ·obtain rfl:=List.length_eq_zero_iff.1 hz;have c1:w.drew.cell? (ai b 1)=some (ah):=de.cell N2 1;have Oa:(Builtin.unsafeSliceData_ #[140] 357 #[ah]).run Tryz.prog w.drew= .ok (.pointer none) w.drew:=rfl;go_enter Tryz.func155,Tryz.ntmps155
  go_wp2;go_region_o
  all_goals (go_wp2;go_ret;exact⟨rfl,Below.drew (Below.refl B w)⟩)
 ·cases l with
  |nil=>
   by_cases hc0:cap=0
   ·subst hc0;have c1:w.drew.cell? (ai b 1)=some (.slice (some (ai g 0)) 0 0):=de.cell N2 1
    have Oa:(Builtin.unsafeSliceData_ #[140] 357 #[.slice (some (ai g 0)) 0 0]).run Tryz.prog w.drew= .ok (ag w.drew.heap.size) (w.drew.alloc (.view (ai g 0) 5)):=
     Lib.run_unsafeSliceData_zero w.drew _ _ 5 Tryz.underlying357 (ai g 0) 0 (5,N8.size) (by have Ob:w.drew.heap[g]?=some (.cells N8 5 (0,0)):=hg;simp[World.shape?,Ob])
    have c2:(w.drew.alloc (.view (ai g 0) 5)).cell? (ai b 1)=some (.slice (some (ai g 0)) 0 0):=(de.alloc (w:=w.drew) N2 _).cell 1;have c3:(w.alloc (.view (ai g 0) 5)).drew.cell? (ai b 1)=some (.slice (some (ai g 0)) 0 0):=c2;have c0:w.cell? (ai b 1)=some (.slice (some (ai g 0)) 0 0):=c1;go_enter Tryz.func155,Tryz.ntmps155
    go_wp2;go_region_o
    all_goals (go_wp2;go_ret;exact⟨rfl,(Below.drew (Below.refl B w)).alloc hBw _⟩)
   ·have c1:w.drew.cell? (ai b 1)=some (.slice (some (ai g 0)) 0 cap):=de.cell N2 1
    have Oa:(Builtin.unsafeSliceData_ #[140] 357 #[.slice (some (ai g 0)) 0 cap]).run Tryz.prog w.drew= .ok (ag g) w.drew:=
     Lib.run_unsafeSliceData_row _ _ _ _ _ _ hc0
    clear hc0 Od Oe;go_enter Tryz.func155,Tryz.ntmps155
    go_wp2;go_region_o
    all_goals (go_wp2;go_ret;exact⟨rfl,Below.drew (Below.refl B w)⟩)
  |cons x r=>
   have h0:x::r≠ []:=by simp
   generalize x::r=l at*;have Og:l.length≠0:=by simpa using h0
   have c1:w.drew.cell? (ai b 1)=some (.slice (some (ai g 0)) l.length cap):=de.cell N2 1
   have Oa:(Builtin.unsafeSliceData_ #[140] 357 #[.slice (some (ai g 0)) l.length cap]).run Tryz.prog w.drew= .ok (ag g) w.drew:=
    Lib.run_unsafeSliceData_row _ _ _ _ _ _ (by omega)
   have Of:(Builtin.unsafeString_ #[357,3] 9 #[ag g,aa l.length]).run Tryz.prog w.drew= .ok (ae ⟨l.toArray⟩) (w.drew.freeze (ai g 0) l.length):=by
    refine Lib.run_unsafeString_row w.drew 357 3 9 5 Tryz.underlying357 (by kernel_rfl) g N8.size (by have Ob:w.drew.heap[g]?=some (.cells N8 5 (0,0)):=hg;simp[World.shape?,Ob]) l h0 (by omega) (by unfold maxLen at Oi;omega) ?_;intro j x hx;exact N7.cells (g:=g) rfl j (.int .u8 x.toNat) (by simp[Lib.byteCells,hx])
   clear Og Od Oe;go_enter Tryz.func155,Tryz.ntmps155
   go_wp2;go_region_o
   all_goals (go_wp2;go_ret;exact⟨rfl,Lib.below_freeze (Below.drew (Below.refl B w)) (p:=(ai g 0)) Oh _⟩)
section
attribute [local go_sem↓] Go.wp_at_zero Go.wp_at_succ
def Du (n:Int):UInt8:=UInt8.ofNat n.toNat
theorem JN {n:Int}(h0:0<=n)(h1:n<256):((Du n).toNat:Int)=n:=by
 unfold Du;rw[UInt8.toNat_ofNat'];omega
def xH:Nat->Int->List UInt8
 |0,v=> [Du v]
 |f+1,v=>if v<128 then [Du v]else Du (v%128+128)::xH f (v/128)
def vi (v:Int):List UInt8:=xH 9 v
def zO:Nat->Int->List UInt8
 |0,_=> []
 |n+1,v=>Du (v%256)::zO n (v/256)
theorem jY:∀(n:Nat) (v:Int),(zO n v).length=n
 |0,_=>rfl
 |n+1,v=>by simp[zO,jY n]
theorem om:∀(f:Nat) (v:Int),(xH f v).length<=f+1/\0<(xH f v).length
 |0,_=>by simp[xH]
 |f+1,v=>by
  rw[xH];have:=om f (v/128)
  split<;>simp<;>omega
theorem JO {v:Int}(h0:0<=v):bits .or .u8 (v%256) 128=v%128+128:=by
 obtain⟨n,rfl⟩:=bf h0;have h:∀k:Fin 256,bits .or .u8 (k.val:Int) 128=((k.val%128+128:Nat):Int):=by decide+kernel
 rw[show(n:Int)%256=((n%256:Nat):Int)by omega,h ⟨n%256,by omega⟩];simp only;omega
def gu (B b:Nat)(l x:List UInt8)(w:an)(e:Ending)(w':an):Prop:=e= .returned (.tuple #[])/\d6 w' B b (dx b) (l++x)/\Wr B w w'
section
variable {B b:Nat} {l:List UInt8} {w:an}
theorem d6.lt (h:d6 w B b (dx b) l):b<w.heap.size:=de.lt h.2.choose_spec.1
theorem FV (c:Int)(h:d6 w B b (dx b) l)(h0:0<=c)(h1:c<256)(hlen:l.length+1<=140737488355328)(hBw:B<=w.heap.size):
  Calls Tryz.prog 391 #[dx b,.int .u8 c] w fun e w'=>e= .returned .nilIface/\d6 w' B b (dx b) (l++ [Du c])/\Wr B w w':=by
 have:=zL B b l (Du c) w h hlen hBw
 rwa [JN h0 h1]at this
theorem lV (v:Int)(h:d6 w B b (dx b) l)(h0:0<=v)(h1:v<18446744073709551616)(hlen:l.length+(vi v).length<=140737488355328)(hBw:B<=w.heap.size):
  Calls Tryz.prog 315 #[dx b,.int .u64 v] w (gu B b l (vi v) w):=by
 have hb0:=h.lt;go_enter Tryz.func315,Tryz.ntmps315
 go_wp2;go_loopw [1] (fun uv wr=>∃(u:Int) (f:Nat) (l1:List UInt8),uv= .int .u64 u/\0<=u/\u<18446744073709551616/\u<128^(f+1)/\Hid (l1++xH f u=l++vi v)/\d6 wr B b (dx b) l1/\Wr B w wr) (fun uv _=>(intOf uv).toNat)
 case atStart=>exact⟨v,9,l,rfl,h0,h1,by omega,rfl,h,Wr.refl _ _⟩
 case round=>
  obtain⟨u,f,l1,rfl,u0,u1,u2,HL,hW,hB⟩:=hrel
  have N2:l1.length+(xH f u).length<=140737488355328:=by
   have:=congrArg List.length HL.out;simp only[aH]at this;omega
  have hsz:=hB.bel.size
  by_cases N3:u<128
  ·have hd:decide (128<=u)=false:=by simpa using N3
   have hn:xH f u= [Du u]:=by cases f<;>simp[xH,N3]
   have hw:u%256=u:=by omega
   rw[hn]at HL N2;rw[List.length_singleton]at N2;go_wp2_with fail
   refine(FV u hW u0 (by omega) N2 (by omega)).mono ?_;rintro e w2 ⟨rfl,q1,q2⟩;go_wp2;go_end0;exact⟨rfl,by rw[<-HL.out];exact q1,hB.trans q2⟩
  ·have hd:decide (128<=u)=true:=by simpa using N3
   obtain⟨f,rfl⟩:∃g,f=g+1:=⟨f-1,by
    cases f with
    |zero=>simp at u2;omega
    |succ f=>rfl⟩
   have hn:xH (f+1) u=Du (u%128+128)::xH f (u/128):=by rw[xH,if_neg N3]
   have hor:=JO u0;rw[hn]at HL N2;simp only[bn]at N2;go_wp2_with fail
   refine(FV (u%128+128) hW (by omega) (by omega) (by omega) (by omega)).mono ?_;rintro e w2 ⟨rfl,q1,q2⟩;go_wp2;refine⟨⟨u/128,f,l1++ [Du (u%128+128)],?_,by omega,by omega,?_,?_,q1,hB.trans q2⟩,?_⟩
   ·rfl
   ·rw[Int.pow_succ]at u2;omega
   ·show l1++ [Du (u%128+128)]++xH f (u/128)=l++vi v;rw[aW];exact HL.out
   ·simp[intOf];omega
theorem zS (v:Int)(n:Nat)(h:d6 w B b (dx b) l)(h0:0<=v)(h1:v<18446744073709551616)(hn:n<=8)(hlen:l.length+n<=140737488355328)(hBw:B<=w.heap.size):
  Calls Tryz.prog 392 #[dx b,.int .u64 v,aa n] w (gu B b l (zO n v) w):=by
 go_enter Tryz.func392,Tryz.ntmps392
 go_wp2;go_loopw [1,7] (fun uv iv wr=>∃(u:Int) (i j:Nat) (l1:List UInt8),uv= .int .u64 u/\iv=aa i/\0<=u/\u<18446744073709551616/\i+j=n/\Hid (l1++zO j u=l++zO n v)/\d6 wr B b (dx b) l1/\Wr B w wr) (fun _ iv _=>n-(intOf iv).toNat)
 case atStart=>exact⟨v,0,n,l,rfl,rfl,h0,h1,by omega,rfl,h,Wr.refl _ _⟩
 case round=>
  obtain⟨u,i,j,l1,rfl,rfl,u0,u1,N7,HL,hW,hB⟩:=hrel
  have N2:l1.length+j<=140737488355328:=by
   have:=congrArg List.length HL.out;simp only[aH,jY]at this;omega
  have hsz:=hB.bel.size
  cases j with
  |zero=>
   obtain rfl:i=n:=by omega
   clear N7;go_wp2;go_end0;exact⟨rfl,by rw[<-HL.out,zO,bT];exact hW,hB⟩
  |succ j=>
   have N3:(i:Int)<n:=by omega
   go_wp2_with fail
   refine(FV (u%256) hW (by omega) (by omega) (by omega) (by omega)).mono ?_;rintro e w2 ⟨rfl,q1,q2⟩;go_wp2;refine⟨⟨u/256,i+1,j,l1++ [Du (u%256)],rfl,rfl,by omega,by omega,by omega,((aW _ _ _).trans HL.out:_=_),q1,hB.trans q2⟩,?_⟩;simp[intOf];omega
theorem FW (v:Int)(h:d6 w B b (dx b) l)(h0:0<=v)(h1:v<18446744073709551616)(hlen:l.length+(zO 4 v).length<=140737488355328)(hBw:B<=w.heap.size):
  Calls Tryz.prog 319 #[dx b,.int .u64 v] w (gu B b l (zO 4 v) w):=by
 rw[jY]at hlen;go_enter Tryz.func319,Tryz.ntmps319
 go_wp2_with fail
 refine(zS v 4 h h0 h1 (by omega) hlen hBw).mono ?_;rintro e w2 ⟨rfl,q⟩;go_wp2;go_end0;exact⟨rfl,q⟩
theorem Cx (v:Int)(h:d6 w B b (dx b) l)(h0:0<=v)(h1:v<18446744073709551616)(hlen:l.length+(zO 8 v).length<=140737488355328)(hBw:B<=w.heap.size):
  Calls Tryz.prog 320 #[dx b,.int .u64 v] w (gu B b l (zO 8 v) w):=by
 rw[jY]at hlen;go_enter Tryz.func320,Tryz.ntmps320
 go_wp2_with fail
 refine(zS v 8 h h0 h1 (by omega) hlen hBw).mono ?_;rintro e w2 ⟨rfl,q⟩;go_wp2;go_end0;exact⟨rfl,q⟩
theorem nI (n:Nat)(h:d6 w B b (dx b) l)(hn:n<=140737488355328)(hlen:l.length+(vi n).length<=140737488355328)(hBw:B<=w.heap.size):
  Calls Tryz.prog 232 #[dx b,aa n] w (gu B b l (vi n) w):=by
 have hw:IntKind.u64.wrap (n:Int)=n:=eR (by omega) (by omega);have hm:(n:Int)%18446744073709551616=n:=by omega
 go_enter Tryz.func232,Tryz.ntmps232
 go_wp2_with fail
 refine(lV (n:Int) h (by omega) (by omega) hlen hBw).mono ?_;rintro e w2 ⟨rfl,q⟩;go_wp2;go_end0;exact⟨rfl,q⟩
theorem qQ (s:am)(h:d6 w B b (dx b) l)(hlen:l.length+s.data.toList.length<=140737488355328)(hBw:B<=w.heap.size):
  Calls Tryz.prog 154 #[dx b,ae s] w (gu B b l s.data.toList w):=by
 go_enter Tryz.func154,Tryz.ntmps154
 go_wp2_with fail
 refine(uZ B b l s w h hlen hBw).mono ?_;rintro e w2 ⟨rfl,q⟩;go_wp2;go_end0;exact⟨rfl,q⟩
def fm (x:List UInt8):List UInt8:=vi x.length++x
theorem Cy (s:am)(h:d6 w B b (dx b) l)(hlen:l.length+(fm s.data.toList).length<=140737488355328)(hBw:B<=w.heap.size):
  Calls Tryz.prog 318 #[dx b,ae s] w (gu B b l (fm s.data.toList) w):=by
 unfold fm at*;have hs:s.data.toList.length=s.size:=by simp
 rw[aH]at hlen;rw[hs]at hlen⊢;go_enter Tryz.func318,Tryz.ntmps318
 go_wp2_with fail
 refine(nI s.size h (by omega) (by omega) hBw).mono ?_;rintro e w2 ⟨rfl,q1,q2⟩;have:=q2.bel.size;go_wp2_with fail
 refine(qQ s q1 (by rw[hs,aH];omega) (by omega)).mono ?_;rintro e w3 ⟨rfl,r1,r2⟩;go_wp2;go_end0;exact⟨rfl,by rw[aW]at r1;exact r1,q2.trans r2⟩
theorem vV (h:d6 w B b (dx b) l)(hBw:B<=w.heap.size):
  Calls Tryz.prog 98 #[dx b] w fun e w'=>e= .returned (ae ⟨l.toArray⟩)/\Below B w w':=by
 go_enter Tryz.func98,Tryz.ntmps98
 go_wp2_with fail
 refine(FU B b l w h hBw).mono ?_;rintro e w2 ⟨rfl,q⟩;go_wp2;go_ret;exact⟨rfl,q⟩
theorem rE (n:Nat)(hn:n<=140737488355328)(hBw:B<=w.heap.size):
  Calls Tryz.prog 96 #[aa n] w fun e w'=>∃b,e= .returned (dx b)/\w.heap.size<=b/\d6 w' B b (dx b) []/\Below B w w':=by
 have K:=de.new w #[.pointer none,ah] 285;have B1:Below B w (w.alloc (.cells #[.pointer none,ah] 285)):=(Below.refl _ _).alloc hBw _;have hs1:w.heap.size+1=(w.alloc (.cells #[.pointer none,ah] 285)).heap.size:=by simp
 go_enter Tryz.func96,Tryz.ntmps96
 go_wp2_with fail
 refine(JM B w.heap.size n _ hBw K (by omega) hn).mono ?_;rintro e w2 ⟨rfl,q1,q2⟩;go_wp2;go_ret;exact⟨_,rfl,ay _,q1,B1.trans q2⟩
end
end
end Go.Proofs.YtfebdimolnobaaaGreatDoor
namespace Go.Proofs
open Go.Shelf
def Tryz.laysLn_ren:Go.Shelf.Ren:=⟨fun|129=>255|n=>n,fun|53=>53|3=>3|4=>4|46=>295|5=>5|9=>9|n=>n,fun|n=>n⟩
theorem Tryz.laysLn:Go.Proofs.Lays.n129 Tryz.prog Tryz.laysLn_ren:={
 mixed:=by kernel_rfl
 f129:=Tryz.func255.trans (congrArg some (by kernel_rfl))
 t3:=Tryz.underlying3
 a3:=Tryz.isAgg3
 z3:=Tryz.sizeOf3
 v3:=Tryz.zeroValue3
 t4:=Tryz.underlying4
 a4:=Tryz.isAgg4
 z4:=Tryz.sizeOf4
 v4:=Tryz.zeroValue4
 t5:=Tryz.underlying5
 a5:=Tryz.isAgg5
 z5:=Tryz.sizeOf5
 v5:=Tryz.zeroValue5
 t9:=Tryz.underlying9
 a9:=Tryz.isAgg9
 z9:=Tryz.sizeOf9
 v9:=Tryz.zeroValue9
 t46:=Tryz.underlying295
 a46:=Tryz.isAgg295
 z46:=Tryz.sizeOf295
 v46:=Tryz.zeroValue295
 t53:=Tryz.underlying53
 a53:=Tryz.isAgg53
 z53:=Tryz.sizeOf53
 v53:=Tryz.zeroValue53}
end Go.Proofs
namespace Go.Proofs.YtfebdimolnobaaaGreatDoor
open Go.RowKit
end Go.Proofs.YtfebdimolnobaaaGreatDoor
