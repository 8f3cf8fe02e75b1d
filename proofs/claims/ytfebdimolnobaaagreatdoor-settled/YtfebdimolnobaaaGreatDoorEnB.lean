import Derived.Test.YtfebdimolnobaaaGreatDoorShelfKy
import Derived.Shelf.Small.Bits
import Derived.Shelf.Strconv.Itoa0
set_option maxRecDepth 100000
set_option maxHeartbeats 8000000
set_option linter.all false
namespace Go.Proofs.YtfebdimolnobaaaGreatDoor
open Go.RowKit Go.Proofs.Tryz
def MJ (B b n:Nat)(w:an)(hB:B<=b)(QP:dK w b #[.pointer none,ah] 285)(hBw:B<=w.heap.size)(hn:n<=140737488355328):
  Calls prog 151 #[d5 b,aa n] w λe w'=>e= .returned (.tuple #[])/\eY w' B b (d5 b) []/\Below B w w':=by
 have mixed:prog.follows Departure.mixedOrders=true:=QI;have QQ:dK (w.setCell (ai b 0) (d5 b)) b #[d5 b,ah] 285:=QP.set 0 _;have c1:(w.setCell (ai b 0) (d5 b)).cell? (ai b 1)=some (ah):=QQ.cell 1;have QV:Below B w (w.setCell (ai b 0) (d5 b)):=(Below.refl B w).setCell (p:=(ai b 0)) hB _;have hU:eY (w.setCell (ai b 0) (d5 b)) B b (d5 b) []:=⟨hB,ah,QQ,bf _ _ _ _,by simp[Value.ownBlock]⟩;have c1':(w.setCell (ai b 0) (d5 b)).drew.cell? (ai b 1)=some (ah):=c1;go_enter func151,ntmps151;go_wp2_with fail;refine(BU b w (QP.cell 0) (by simp[World.shape?,show w.heap[b]?=_ from QP]) (QP.rules.2 0)).mono ?_;rintro e w' ⟨rfl,rfl⟩;go_wp2;go_region_o
 all_goals go_wp2_with (go_at_call 229;refine(MH B b n (w.setCell (ai b 0) (d5 b)).drew hB QQ (by simpa [World.setCell,World.drew,-World.drew_eq]using hBw) hn).mono ?_;rintro e w' ⟨rfl,h1,h2⟩)
 all_goals first
  |(go_end0;exact⟨rfl,h1,QV.drew.trans h2⟩)
  |(go_end0;exact⟨rfl,hU.drew,QV.drew⟩)
def Ii (B b:Nat)(l:List UInt8)(w:an)(h:eY w B b (d5 b) l)(hBw:B<=w.heap.size):
  Calls prog 155 #[d5 b] w λe w'=>e= .returned (ae ⟨l.toArray⟩)/\Below B w w':=by
 have mixed:prog.follows Departure.mixedOrders=true:=QI;obtain⟨hB,v,QP,QR,hne⟩:=h;have QY:∀(W:an) (q:aw),(Builtin.unsafeString_ #[357,3] 9 #[.pointer q,aa 0]).run prog W= .ok (.string .empty) W:=λW q=>Lib.run_unsafeString_none W _ _ _ q
 rw[Lib.byteCells_length]at QR;have hlt:=dK.lt QP
 rcases QR.2 with⟨rfl,hz⟩|⟨g,cap,QS,rfl,Q0,hg,QW,Q1,QX,htake⟩
 ·obtain rfl:=List.length_eq_zero_iff.1 hz;have c1:w.drew.cell? (ai b 1)=some (ah):=dK.cell QP 1;have QT:(Builtin.unsafeSliceData_ #[140] 357 #[ah]).run prog w.drew= .ok (.pointer none) w.drew:=rfl;go_enter func155,ntmps155;go_wp2;go_region_o
  all_goals (go_wp2;go_ret;exact⟨rfl,Below.drew (Below.refl B w)⟩)
 ·cases l with
  |nil=>
   by_cases hc0:cap=0
   ·subst hc0;have c1:w.drew.cell? (ai b 1)=some (.slice (some (ai g 0)) 0 0):=dK.cell QP 1
    have QT:(Builtin.unsafeSliceData_ #[140] 357 #[.slice (some (ai g 0)) 0 0]).run prog w.drew= .ok (ag w.drew.heap.size) (w.drew.alloc (.view (ai g 0) 5)):=
     Lib.run_unsafeSliceData_zero w.drew _ _ 5 underlying357 (ai g 0) 0 (5,QS.size) (by have QU:w.drew.heap[g]?=some (.cells QS 5 (0,0)):=hg;simp[World.shape?,QU])
    have c2:(w.drew.alloc (.view (ai g 0) 5)).cell? (ai b 1)=some (.slice (some (ai g 0)) 0 0):=(dK.alloc (w:=w.drew) QP _).cell 1;have c3:(w.alloc (.view (ai g 0) 5)).drew.cell? (ai b 1)=some (.slice (some (ai g 0)) 0 0):=c2;have c0:w.cell? (ai b 1)=some (.slice (some (ai g 0)) 0 0):=c1;go_enter func155,ntmps155;go_wp2;go_region_o
    all_goals (go_wp2;go_ret;exact⟨rfl,(Below.drew (Below.refl B w)).alloc hBw _⟩)
   ·have c1:w.drew.cell? (ai b 1)=some (.slice (some (ai g 0)) 0 cap):=dK.cell QP 1
    have QT:(Builtin.unsafeSliceData_ #[140] 357 #[.slice (some (ai g 0)) 0 cap]).run prog w.drew= .ok (ag g) w.drew:=
     Lib.run_unsafeSliceData_row _ _ _ _ _ _ hc0
    clear hc0 QW QX;go_enter func155,ntmps155;go_wp2;go_region_o
    all_goals (go_wp2;go_ret;exact⟨rfl,Below.drew (Below.refl B w)⟩)
  |cons x r=>
   have h0:x::r≠ []:=QE;generalize x::r=l at*;have QZ:l.length≠0:=by simpa using h0
   have c1:w.drew.cell? (ai b 1)=some (.slice (some (ai g 0)) l.length cap):=dK.cell QP 1
   have QT:(Builtin.unsafeSliceData_ #[140] 357 #[.slice (some (ai g 0)) l.length cap]).run prog w.drew= .ok (ag g) w.drew:=
    Lib.run_unsafeSliceData_row _ _ _ _ _ _ QD
   have QY:(Builtin.unsafeString_ #[357,3] 9 #[ag g,aa l.length]).run prog w.drew= .ok (ae ⟨l.toArray⟩) (w.drew.freeze (ai g 0) l.length):=by
    refine Lib.run_unsafeString_row w.drew 357 3 9 5 underlying357 QI g QS.size (by have QU:w.drew.heap[g]?=some (.cells QS 5 (0,0)):=hg;simp[World.shape?,QU]) l h0 QD (by unfold maxLen at Q1;omega) ?_;intro j x hx;exact QR.cells (g:=g) rfl j (.int .u8 x.toNat) (by simp[Lib.byteCells,hx])
   clear QZ QW QX;go_enter func155,ntmps155;go_wp2;go_region_o
   all_goals (go_wp2;go_ret;exact⟨rfl,Lib.below_freeze (Below.drew (Below.refl B w)) (p:=(ai g 0)) Q0 _⟩)
section
attribute [local go_sem↓] Go.wp_at_zero Go.wp_at_succ
def AI (n:Int):UInt8:=UInt8.ofNat n.toNat
def vT {n:Int}(h0:0<=n)(h1:n<256):((AI n).toNat:Int)=n:=by
 unfold AI;rw[UInt8.toNat_ofNat'];omega
def sL:Nat->Int->List UInt8
 |0,v=> [AI v]
 |f+1,v=>if v<128 then [AI v]else AI (v%128+128)::sL f (v/128)
def vi (v:Int):List UInt8:=sL 9 v
def nP:Nat->Int->List UInt8
 |0,_=> []
 |n+1,v=>AI (v%256)::nP n (v/256)
def gY:∀(n:Nat) (v:Int),(nP n v).length=n
 |0,_=>rfl
 |n+1,v=>by simp[nP,gY n]
def mK:∀(f:Nat) (v:Int),(sL f v).length<=f+1/\0<(sL f v).length
 |0,_=>by simp[sL]
 |f+1,v=>by
  rw[sL];have:=mK f (v/128)
  split<;>simp<;>omega
def ML {v:Int}(h0:0<=v):bits .or .u8 (v%256) 128=v%128+128:=by
 obtain⟨n,rfl⟩:=bo h0;have h:∀k:Fin 256,bits .or .u8 (k.val:Int) 128=((k.val%128+128:Nat):Int):=QH;rw[show(n:Int)%256=((n%256:Nat):Int)by omega,h ⟨n%256,QD⟩];simp only;omega
def ix (B b:Nat)(l x:List UInt8)(w:an)(e:Ending)(w':an):Prop:=e= .returned (.tuple #[])/\eY w' B b (d5 b) (l++x)/\Wr B w w'
section
variable {B b:Nat} {l:List UInt8} {w:an}
def eY.lt (h:eY w B b (d5 b) l):b<w.heap.size:=dK.lt h.2.choose_spec.1
def Ij (c:Int)(h:eY w B b (d5 b) l)(h0:0<=c)(h1:c<256)(hlen:l.length+1<=140737488355328)(hBw:B<=w.heap.size):
  Calls prog 391 #[d5 b,.int .u8 c] w λe w'=>e= .returned .nilIface/\eY w' B b (d5 b) (l++ [AI c])/\Wr B w w':=by
 have:=BX B b l (AI c) w h hlen hBw
 rwa [vT h0 h1]at this
def nH (v:Int)(h:eY w B b (d5 b) l)(h0:0<=v)(h1:v<18446744073709551616)(hlen:l.length+(vi v).length<=140737488355328)(hBw:B<=w.heap.size):
  Calls prog 315 #[d5 b,.int .u64 v] w (ix B b l (vi v) w):=by
 have hb0:=h.lt;go_enter func315,ntmps315;go_wp2;go_loopw [1] (λuv wr=>∃(u:Int) (f:Nat) (l1:List UInt8),uv= .int .u64 u/\0<=u/\u<18446744073709551616/\u<128^(f+1)/\Hid (l1++sL f u=l++vi v)/\eY wr B b (d5 b) l1/\Wr B w wr) (λuv _=>(intOf uv).toNat)
 case atStart=>exact⟨v,9,l,rfl,h0,h1,QD,rfl,h,Wr.refl _ _⟩
 case round=>
  obtain⟨u,f,l1,rfl,u0,u1,u2,HL,hW,hB⟩:=hrel
  have QP:l1.length+(sL f u).length<=140737488355328:=by
   have:=dF List.length HL.out;simp only[aG]at this;omega
  have hsz:=hB.bel.size
  by_cases QQ:u<128
  ·have hd:decide (128<=u)=false:=by simpa using QQ
   have hn:sL f u= [AI u]:=by cases f<;>simp[sL,QQ]
   have hw:u%256=u:=QD;rw[hn]at HL QP;rw[List.length_singleton]at QP;go_wp2_with fail;refine(Ij u hW u0 QD QP QD).mono ?_;rintro e w2 ⟨rfl,q1,q2⟩;go_wp2;go_end0;exact⟨rfl,by rw[<-HL.out];exact q1,hB.trans q2⟩
  ·have hd:decide (128<=u)=true:=by simpa using QQ
   obtain⟨f,rfl⟩:∃g,f=g+1:=⟨f-1,by
    cases f with
    |zero=>simp at u2;omega
    |succ f=>rfl⟩
   have hn:sL (f+1) u=AI (u%128+128)::sL f (u/128):=by rw[sL,dA QQ]
   have hor:=ML u0;rw[hn]at HL QP;simp only[bE]at QP;go_wp2_with fail;refine(Ij (u%128+128) hW QD QD QD QD).mono ?_;rintro e w2 ⟨rfl,q1,q2⟩;go_wp2;refine⟨⟨u/128,f,l1++ [AI (u%128+128)],?_,QD,QD,?_,?_,q1,hB.trans q2⟩,?_⟩
   ·rfl
   ·rw[Int.pow_succ]at u2;omega
   ·show l1++ [AI (u%128+128)]++sL f (u/128)=l++vi v;rw[aW];exact HL.out
   ·simp[intOf];omega
def BY (v:Int)(n:Nat)(h:eY w B b (d5 b) l)(h0:0<=v)(h1:v<18446744073709551616)(hn:n<=8)(hlen:l.length+n<=140737488355328)(hBw:B<=w.heap.size):
  Calls prog 392 #[d5 b,.int .u64 v,aa n] w (ix B b l (nP n v) w):=by
 go_enter func392,ntmps392;go_wp2;go_loopw [1,7] (λuv iv wr=>∃(u:Int) (i j:Nat) (l1:List UInt8),uv= .int .u64 u/\iv=aa i/\0<=u/\u<18446744073709551616/\i+j=n/\Hid (l1++nP j u=l++nP n v)/\eY wr B b (d5 b) l1/\Wr B w wr) (λ_ iv _=>n-(intOf iv).toNat)
 case atStart=>exact⟨v,0,n,l,rfl,rfl,h0,h1,QD,rfl,h,Wr.refl _ _⟩
 case round=>
  obtain⟨u,i,j,l1,rfl,rfl,u0,u1,QR,HL,hW,hB⟩:=hrel
  have QP:l1.length+j<=140737488355328:=by
   have:=dF List.length HL.out;simp only[aG,gY]at this;omega
  have hsz:=hB.bel.size
  cases j with
  |zero=>
   obtain rfl:i=n:=QD;clear QR;go_wp2;go_end0;exact⟨rfl,by rw[<-HL.out,nP,bK];exact hW,hB⟩
  |succ j=>
   have QQ:(i:Int)<n:=QD;go_wp2_with fail;refine(Ij (u%256) hW QD QD QD QD).mono ?_;rintro e w2 ⟨rfl,q1,q2⟩;go_wp2;refine⟨⟨u/256,i+1,j,l1++ [AI (u%256)],rfl,rfl,QD,QD,QD,((aW _ _ _).trans HL.out:_=_),q1,hB.trans q2⟩,?_⟩;simp[intOf];omega
def Ik (v:Int)(h:eY w B b (d5 b) l)(h0:0<=v)(h1:v<18446744073709551616)(hlen:l.length+(nP 4 v).length<=140737488355328)(hBw:B<=w.heap.size):
  Calls prog 319 #[d5 b,.int .u64 v] w (ix B b l (nP 4 v) w):=by
 rw[gY]at hlen;go_enter func319,ntmps319;go_wp2_with fail;refine(BY v 4 h h0 h1 QD hlen hBw).mono ?_;rintro e w2 ⟨rfl,q⟩;go_wp2;go_end0;exact⟨rfl,q⟩
def Ew (v:Int)(h:eY w B b (d5 b) l)(h0:0<=v)(h1:v<18446744073709551616)(hlen:l.length+(nP 8 v).length<=140737488355328)(hBw:B<=w.heap.size):
  Calls prog 320 #[d5 b,.int .u64 v] w (ix B b l (nP 8 v) w):=by
 rw[gY]at hlen;go_enter func320,ntmps320;go_wp2_with fail;refine(BY v 8 h h0 h1 QD hlen hBw).mono ?_;rintro e w2 ⟨rfl,q⟩;go_wp2;go_end0;exact⟨rfl,q⟩
def ph (n:Nat)(h:eY w B b (d5 b) l)(hn:n<=140737488355328)(hlen:l.length+(vi n).length<=140737488355328)(hBw:B<=w.heap.size):
  Calls prog 232 #[d5 b,aa n] w (ix B b l (vi n) w):=by
 have hw:IntKind.u64.wrap (n:Int)=n:=gh QD QD;have hm:(n:Int)%18446744073709551616=n:=QD;go_enter func232,ntmps232;go_wp2_with fail;refine(nH (n:Int) h QD QD hlen hBw).mono ?_;rintro e w2 ⟨rfl,q⟩;go_wp2;go_end0;exact⟨rfl,q⟩
def sM (s:am)(h:eY w B b (d5 b) l)(hlen:l.length+s.data.toList.length<=140737488355328)(hBw:B<=w.heap.size):
  Calls prog 154 #[d5 b,ae s] w (ix B b l s.data.toList w):=by
 go_enter func154,ntmps154;go_wp2_with fail;refine(xq B b l s w h hlen hBw).mono ?_;rintro e w2 ⟨rfl,q⟩;go_wp2;go_end0;exact⟨rfl,q⟩
def eX (x:List UInt8):List UInt8:=vi x.length++x
def Ex (s:am)(h:eY w B b (d5 b) l)(hlen:l.length+(eX s.data.toList).length<=140737488355328)(hBw:B<=w.heap.size):
  Calls prog 318 #[d5 b,ae s] w (ix B b l (eX s.data.toList) w):=by
 unfold eX at*;have hs:s.data.toList.length=s.size:=QE;rw[aG]at hlen;rw[hs]at hlen⊢;go_enter func318,ntmps318;go_wp2_with fail;refine(ph s.size h QD QD hBw).mono ?_;rintro e w2 ⟨rfl,q1,q2⟩;have:=q2.bel.size;go_wp2_with fail;refine(sM s q1 (by rw[hs,aG];omega) QD).mono ?_;rintro e w3 ⟨rfl,r1,r2⟩;go_wp2;go_end0;exact⟨rfl,by rw[aW]at r1;exact r1,q2.trans r2⟩
def yg (h:eY w B b (d5 b) l)(hBw:B<=w.heap.size):
  Calls prog 98 #[d5 b] w λe w'=>e= .returned (ae ⟨l.toArray⟩)/\Below B w w':=by
 go_enter func98,ntmps98;go_wp2_with fail;refine(Ii B b l w h hBw).mono ?_;rintro e w2 ⟨rfl,q⟩;go_wp2;go_ret;exact⟨rfl,q⟩
def tF (n:Nat)(hn:n<=140737488355328)(hBw:B<=w.heap.size):
  Calls prog 96 #[aa n] w λe w'=>∃b,e= .returned (d5 b)/\w.heap.size<=b/\eY w' B b (d5 b) []/\Below B w w':=by
 have K:=dK.new w #[.pointer none,ah] 285;have B1:Below B w (w.alloc (.cells #[.pointer none,ah] 285)):=(Below.refl _ _).alloc hBw _;have hs1:w.heap.size+1=(w.alloc (.cells #[.pointer none,ah] 285)).heap.size:=QE;go_enter func96,ntmps96;go_wp2_with fail;refine(MJ B w.heap.size n _ hBw K QD hn).mono ?_;rintro e w2 ⟨rfl,q1,q2⟩;go_wp2;go_ret;exact⟨_,rfl,ay _,q1,B1.trans q2⟩
end
end
end Go.Proofs.YtfebdimolnobaaaGreatDoor
namespace Go.Proofs
open Go.Shelf
def Tryz.laysLn_ren:Go.Shelf.Ren:=⟨fun|129=>255|n=>n,fun|53=>53|3=>3|4=>4|46=>295|5=>5|9=>9|n=>n,fun|n=>n⟩
theorem Tryz.laysLn:Go.Proofs.Lays.n129 Tryz.prog Tryz.laysLn_ren:={
 mixed:=by kernel_rfl
 f129:=Tryz.func255.trans (congrArg some (by kernel_rfl))
 t3:=Tryz.underlying3
 a3:=Tryz.isAgg3
 z3:=Tryz.sizeOf3
 v3:=Tryz.zeroValue3
 t4:=Tryz.underlying4
 a4:=Tryz.isAgg4
 z4:=Tryz.sizeOf4
 v4:=Tryz.zeroValue4
 t5:=Tryz.underlying5
 a5:=Tryz.isAgg5
 z5:=Tryz.sizeOf5
 v5:=Tryz.zeroValue5
 t9:=Tryz.underlying9
 a9:=Tryz.isAgg9
 z9:=Tryz.sizeOf9
 v9:=Tryz.zeroValue9
 t46:=Tryz.underlying295
 a46:=Tryz.isAgg295
 z46:=Tryz.sizeOf295
 v46:=Tryz.zeroValue295
 t53:=Tryz.underlying53
 a53:=Tryz.isAgg53
 z53:=Tryz.sizeOf53
 v53:=Tryz.zeroValue53}
end Go.Proofs
namespace Go.Proofs.YtfebdimolnobaaaGreatDoor
open Go.RowKit Go.Proofs.Tryz
section
attribute [local go_sem↓] Go.wp_at_zero Go.wp_at_succ
def tG (x:Nat):(x|||1)/2=x/2:=by
 have h1:=Nat.shiftRight_or_distrib (a:=x) (b:=1) (i:=1);simpa [Nat.shiftRight_succ]using h1
def zY (x:Nat):(x|||1)=x\/(x|||1)=x+1:=by
 have h:=tG x
 have h2:(x|||1)%2=1:=by
  have:=Nat.and_one_is_mod (x|||1);rw[<-this,Nat.and_or_distrib_right];simp
  rcases Nat.mod_two_eq_zero_or_one x with q|q<;>rw[q]<;>rfl
 omega
def yh {x:Nat}(h:x≠0)(h1:x<18446744073709551616):Lib.bitLen (x|||1)=Lib.bitLen x:=by
 have:=zY x;have hh:=tG x;have QS:x|||1<2^64:=Nat.or_lt_two_pow h1 QG
 rw[Lib.bitLen_half x h h1,Lib.bitLen_half (x|||1) QD QS,hh]
def BZ:∀(f x:Nat),x<128^(f+1)->x<18446744073709551616->(sL f x).length=(Lib.bitLen (x|||1)+6)/7
 |f,x,h,h1=>by
  by_cases hx:x<128
  ·have e:(sL f (x:Int)).length=1:=by
    have:(x:Int)<128:=QD
    cases f<;>simp[sL,this]
   have:∀k:Fin 128,1=(Lib.bitLen (k.val|||1)+6)/7:=QH;rw[e];exact this ⟨x,hx⟩
  ·cases f with
   |zero=>simp at h;omega
   |succ f=>
    have hb:Lib.bitLen (x|||1)=7+Lib.bitLen (x/128):=by
     rw[yh QD h1];exact Lib.bitLen_shift 7 x QD h1
    have ih:=BZ f (x/128) (by rw[Nat.pow_succ]at h;omega) QD;rw[yh QD QD]at ih;rw[sL,dA QD,bE,show((x:Int)/128)=((x/128:Nat):Int)by omega,ih,hb];omega
def Ca (x:Int)(w:an)(h0:0<=x)(h1:x<=18446744073709551615):Calls prog 255 #[.int .u64 x] w λe w'=>e= .returned (aa (Lib.bitLen x.toNat))/\w'=w:=Any.bits_Len64 Tryz.laysLn x w h0 h1
def Ol {w:an}{fb:Nat}{a b c d e:Value}{T:TypeId}(h:dK w fb #[a,b,c,d,e] T):w.cell? (ai fb 0)=some a/\w.cell? (ai fb 2)=some c/\w.cell? (ai fb 3)=some d:=⟨h.cell 0,h.cell 2,h.cell 3⟩
section
variable (w:an)
def nI (x:Int)(h0:0<=x)(h1:x<18446744073709551616):Calls prog 328 #[.int .u64 x] w λe w'=>e= .returned (aa (vi x).length)/\w'=w:=by
 obtain⟨n,rfl⟩:=bo h0;have hor:bits .or .u64 (n:Int) 1=((n|||1:Nat):Int):=bits_or_u64_nat n 1 QD QD;have QS:n|||1<2^64:=Nat.or_lt_two_pow QD QG
 have hl:=Ca ((n|||1:Nat):Int) w QD QD;have hs:(vi (n:Int)).length=(Lib.bitLen (n|||1)+6)/7:=BZ 9 n QD QD;have QT:=(mK 9 (n:Int)).1;rw[Int.toNat_natCast]at hl;rw[hs];have hle2:(Lib.bitLen (n|||1)+6)/7<=10:=by rw[<-hs];exact QT
 clear hs QT;generalize Lib.bitLen (n|||1)=y at*;generalize n|||1=o at*
 go_enter func328,ntmps328;go_wp2_with fail;refine hl.mono ?_;rintro e w2 ⟨rfl,rfl⟩;go_wp2;go_ret;exact⟨by rw[show(((y+6)/7:Nat):Int)=((y:Int)+6)/7 by omega];rfl,rfl⟩
def MM {n k:Int}(h0:0<=n)(h1:n<=536870911)(k0:0<=k)(k1:k<8):bits .or .u64 (n*8) k=n*8+k:=by
 obtain⟨a,rfl⟩:=bo h0;obtain⟨c,rfl⟩:=bo k0;rw[show(a:Int)*8=((a*8:Nat):Int)by omega,bits_or_u64_nat (a*8) c QD QD,show a*8=a<<<3 by rw[de],<-cW (by omega:c<2^3),de];omega
def Il (n k:Int)(h0:0<=n)(h1:n<=536870911)(k0:0<=k)(k1:k<8):Calls prog 316 #[.agg #[aa n,aa k]] w λe w'=>e= .returned (.int .u64 (n*8+k))/\aj w w':=by
 have ho:=MM h0 h1 k0 k1;have m1:n%18446744073709551616=n:=QD;have m2:k%18446744073709551616=k:=QD;have m3:n*8%18446744073709551616=n*8:=QD;obtain⟨k1,k2⟩:=(dK.new w #[aa n,aa k] 237).rules;go_enter func316,ntmps316;go_wp2;go_ret;exact⟨rfl,(Below.refl _ _).alloc (ay _) _⟩
def eW (n k:Int):List UInt8:=vi (n*8+k)
def LS (n k:Int)(h0:0<=n)(h1:n<=536870911)(k0:0<=k)(k1:k<8):Calls prog 242 #[.agg #[aa n,aa k]] w λe w'=>e= .returned (aa (eW n k).length)/\aj w w':=by
 obtain⟨r1,r2⟩:=(dK.new w #[aa n,aa k] 237).rules;have B1:aj w (w.alloc (ak #[aa n,aa k] 237)):=(Below.refl _ _).alloc (ay _) _;go_enter func242,ntmps242;go_wp2_with fail;refine(Il _ n k h0 h1 k0 k1).mono ?_;rintro e w2 ⟨rfl,b2⟩;go_wp2_with fail;refine(nI _ (n*8+k) QD QD).mono ?_;rintro e w3 ⟨rfl,rfl⟩;go_wp2;go_ret;exact⟨rfl,er B1 b2⟩
def sN (x:List UInt8)(h:x.length<=140737488355328):Calls prog 243 #[aa x.length] w λe w'=>e= .returned (aa (eX x).length)/\w'=w:=by
 have m1:(x.length:Int)%18446744073709551616=x.length:=QD;have hl:=(mK 9 (x.length:Int)).1;have hL:(eX x).length=(vi x.length).length+x.length:=by rw[eX,aG]
 have hz:=nI w x.length QD QD;rw[hL];rw[show(sL 9 (x.length:Int))=vi x.length from rfl]at hl;generalize(vi (x.length:Int)).length=y at*;generalize x.length=n at*;go_enter func243,ntmps243;go_wp2_with fail;refine hz.mono ?_;rintro e w2 ⟨rfl,rfl⟩;go_wp2;go_ret;exact⟨by rw[cJ];rfl,rfl⟩
def zZ (v:Int):Int:=if v<9223372036854775808 then 2*v else 36893488147419103231-2*v
def rH (v:Int)(h0:0<=v)(h1:v<18446744073709551616):Calls prog 321 #[.int .u64 v] w λe w'=>e= .returned (.int .u64 (zZ v))/\w'=w:=by
 unfold zZ
 by_cases h:v<9223372036854775808
 ·rw[dB h];have hd:v/9223372036854775808=0:=QD;have hx:=qp (n:=v*2) QD QD;have hm:v*2%18446744073709551616=v*2:=QD;go_enter func321,ntmps321;go_wp2;go_ret;exact⟨by rw[Int.mul_comm 2 v];rfl,rfl⟩
 ·rw[dA h];have hd:v/9223372036854775808=1:=QD;have hm:IntKind.u64.wrap (v*2)=v*2-18446744073709551616:=by simp[IntKind.wrap,IntKind.bits,IntKind.signed];omega
  have hw:IntKind.u64.wrap (-1)=18446744073709551615:=QG;have hx:=qo (n:=v*2-18446744073709551616) QD QD;go_enter func321,ntmps321;go_wp2;go_ret;exact⟨by rw[show(36893488147419103231:Int)-2*v=18446744073709551615-(v*2-18446744073709551616)by omega];rfl,rfl⟩
end
def yi (mp:am->Option Nat)(g:GF):Int:=if gN mp g then 2 else ei (ee mp g)
def Im (k:Nat):ei k<8:=by
 unfold ei
 repeat' split
 all_goals omega
def rI (mp:am->Option Nat)(g:GF):0<=yi mp g/\yi mp g<8:=by
 have:=Im (ee mp g);unfold yi
 split<;>omega
def eY.on {B b:Nat}{l:List UInt8}{w w':an}(h:eY w B b (d5 b) l)(hb:aj w w'):eY w' B b (d5 b) l:=by
 obtain⟨h1,v,h2,h3,h4⟩:=h;exact⟨h1,v,dK.below h2 hb (dK.lt h2),eF hb h3,h4⟩
def dQ {n m:Nat}{a b:an}(h:Below n a b)(hm:m<=n):Below m a b:=⟨h.os,h.tape,h.output,h.size,λi hi=>h.block i QD⟩
section
variable {B b:Nat} {l:List UInt8} {w:an}
def In (n k:Int)(h0:0<=n)(h1:n<=536870911)(k0:0<=k)(k1:k<8)(h:eY w B b (d5 b) l)(hlen:l.length+(eW n k).length<=140737488355328)(hBw:B<=w.heap.size):
  Calls prog 230 #[d5 b,.agg #[aa n,aa k]] w (ix B b l (eW n k) w):=by
 obtain⟨r1,r2⟩:=(dK.new w #[aa n,aa k] 237).rules;have B1:aj w (w.alloc (ak #[aa n,aa k] 237)):=(Below.refl _ _).alloc (ay _) _;go_enter func230,ntmps230;go_wp2_with fail;refine(Il _ n k h0 h1 k0 k1).mono ?_;rintro e w2 ⟨rfl,b2⟩;have b3:=er B1 b2;have hs:=b3.size;go_wp2_with fail;refine(nH (n*8+k) (h.on b3) QD QD hlen QD).mono ?_;rintro e w3 ⟨rfl,q1,q2⟩;go_wp2;go_end0;exact⟨rfl,q1,(Wr.of b3 hBw).trans q2⟩
end
section
variable (w:an) (P:ap) (mp:am->Option Nat) (g:GF) (fb:Nat)
def vU (h:eG w P mp g fb):Calls prog 231 #[ag fb] w λe w'=>e= .returned (.agg #[aa g.f.num,aa (yi mp g)])/\aj w w':=by
 obtain⟨pv,rv,h1,_,QQ,QV⟩:=h.blk;obtain⟨pq,rfl⟩:=gi QV;obtain⟨ra,rn,rc,rfl⟩:=dL QQ.1;obtain⟨B1,KR⟩:=dR w #[aa 0,aa 0] 237;have QR:=lH _ P mp g fb (h.keep (λb _ hl=>B1.block b hl));have QW:=kT mp g;have hW:=λW=>oM W (ee mp g) (.pointer pq) QW
 clear QV QQ h;unfold yi
 cases hpk:gN mp g with
 |true=>
  rw[hpk]at QR;go_enter func231,ntmps231;go_wp2_with fail;refine QR.mono ?_;rintro e w2 ⟨rfl,b2⟩;have b3:=er B1 b2;obtain⟨k3,k4⟩:=(dK.below h1 b3 h1.lt).rules;have QP:=KR.below b2 KR.lt;obtain⟨k5,k6⟩:=QP.rules;go_wp2;refine dE (dZ results231 _ _ rfl ((QP.set 0 _).set 1 _) underlying237 QI) rfl ?_;exact⟨rfl,(b3.setCell (p:=(ai w.heap.size 0)) (ay _) _).setCell (p:=(ai w.heap.size 1)) (ay _) _⟩
 |false=>
  rw[hpk]at QR;generalize ei (ee mp g)=wb at*;go_enter func231,ntmps231;go_wp2_with fail;refine QR.mono ?_;rintro e w2 ⟨rfl,b2⟩;have b3:=er B1 b2;have K2:=dK.below h1 b3 h1.lt;have QP:=KR.below b2 KR.lt;have hf2:=K2.lt;have hr2:=QP.lt;have hfw:=h1.lt;go_upto_region 3 with fail
  go_region_held2 (λW=>W.cell? (ai fb 0)=some (aa g.f.num)/\W.cell? (ai fb 2)=some (aa (ee mp g))/\W.cell? (ai fb 3)=some (.pointer pq))
   ((refine Ol (b:=aa g.form) (e:= .slice ra rn rc) (T:=220) ?_;repeat (first|exact K3|exact K2|refine dK.drew ?_|refine dK.other ?_ _ _ (by first|exact of_eq_false QN|omega))))
   (first|(go_at_call 208;refine(hW _).mono ?_;rintro e w3 ⟨rfl,b4⟩;have b5:aj w2 w3:=er (Below.refl _ _).drew b4;have K3:=K2.below b5 K2.lt;have QU:=QP.below b5 QP.lt;obtain⟨k5,k6⟩:=QU.rules))
  all_goals
   go_wp2;refine dE (dZ results231 _ _ rfl ((QU.set 0 _).set 1 _) underlying237 QI) rfl ?_;exact⟨rfl,((er b3 b5).setCell (p:=(ai w.heap.size 0)) (ay _) _).setCell (p:=(ai w.heap.size 1)) (ay _) _⟩
end
end
section
variable {a:aw} {w w':an} {n c k:Nat} {m:PM} {P:Value->PM->Prop} {Z:ap} {vv v:Value} {l:List PV}
theorem MN (a:Addr):a.add 0=a:=by unfold Addr.add;simp
theorem lf {a:Addr}{j:Nat}{x:Option Value}(h:w.cell? (a.add (n+(j+1)))=x):w.cell? (ai ((a.add n).block) ((a.add n).off+(j+1)))=x:=by
 rw[show((ai ((a.add n).block) ((a.add n).off+(j+1))):Addr)=a.add (n+(j+1))by unfold Addr.add;by_cases h:n=0<;>simp[h,cV]];exact h
def lD (w:an)(Z:ap)(v:Value)(n:Nat)(xs:aq):Prop:=
 ∃a c,v= .slice a n c/\n<=c/\(0<n->∃ad:Addr,a=some ad/\Z ad.block/\ad.block<w.heap.size/\∀w':an,w'.heap[ad.block]?=w.heap[ad.block]?->∀p u,xs[p]?=some u->w'.cell? (ad.add p)=some u)
section
variable {w w':an} {Z Y:ap} {v:Value} {n:Nat} {xs:aq}
theorem lD.form (h:lD w Z v n xs):∃a c,v= .slice a n c:=by
 obtain⟨a,c,h,_⟩:=h;exact⟨a,c,h⟩
theorem lD.cap (h:lD w Z (.slice a n c) n xs):n<=c:=by
 obtain⟨a',c',h,h2,_⟩:=h
 cases h
 exact h2
theorem lD.at {m:Nat}(h:lD w Z (.slice a m c) n xs)(hn:0<n):∃ad:Addr,a=some ad/\Z ad.block/\ad.block<w.heap.size/\∀w':an,w'.heap[ad.block]?=w.heap[ad.block]?->∀p u,xs[p]?=some u->w'.cell? (ad.add p)=some u:=by
 obtain⟨a',c',h,_,h3⟩:=h
 cases h
 exact h3 hn
theorem lD.keep (h:lD w Z v n xs)(hk:∀b,Z b->b<w.heap.size->w'.heap[b]?=w.heap[b]?):lD w' Z v n xs:=by
 obtain⟨a,c,h1,h2,h3⟩:=h;refine⟨a,c,h1,h2,λhn=> ?_⟩;obtain⟨ad,q1,q2,q3,q4⟩:=h3 hn;have e:=hk _ q2 q3;refine⟨ad,q1,q2,?_,λw2 h2=>q4 w2 (h2.trans e)⟩;rw[bz q3]at e;exact(bu.1 e).1
theorem lD.mono (h:lD w Z v n xs)(hz:∀b,Z b->b<w.heap.size->Y b):lD w Y v n xs:=by
 obtain⟨a,c,h1,h2,h3⟩:=h;refine⟨a,c,h1,h2,λhn=> ?_⟩;obtain⟨ad,q1,q2,q3,q4⟩:=h3 hn;exact⟨ad,q1,hz _ q2 q3,q3,q4⟩
theorem et.rd {T:TypeId}(h:et w Z T k v n xs):lD w Z v n xs:=by
 obtain⟨a,c,rfl⟩:=iW h.1;refine⟨a,c,rfl,?_,λhn=> ?_⟩
 ·rcases h.1.2 with⟨h1,h2⟩|⟨g,cap,cur,h1,h2,h3,h4,h5,h6,h7⟩
  ·cases h1;omega
  ·cases h1;omega
 ·obtain⟨g,rfl,_,QQ,hc⟩:=eh h.1 hn;refine⟨(ai g 0),rfl,h.2 g rfl,QQ,λw' hw p u hp=> ?_⟩;have:=hc w' hw p u hp
  rwa [show((ai g 0):Addr).add p=(ai g p)by unfold Addr.add;by_cases h:p=0<;>simp[h]]
end
def pi (P:Value->PM->Prop)(w:an)(Z:ap)(vv:Value)(l:List PV):Prop:=∃QP,lD w Z vv l.length QP/\nx P QP l
def yj (P:Value->PM->Prop)(w:an)(Z:ap):aq->List PF->Prop
 |cs,[]=>cs= []
 |cs,f::fs=>∃vv rest,cs=aa f.1::vv::rest/\pi P w Z vv f.2/\yj P w Z rest fs
def iy:Nat->an->(ap)->Value->PM->Prop
 |0,_,_,_,_=>False
 |k+1,w,Z,v,m=>∃cs,lD w Z v m.fs.length cs/\yj (iy k w Z) w Z cs m.fs
theorem pi.keep {Q:Value->PM->Prop}(hP:∀v m,P v m->Q v m)(hk:∀b,Z b->b<w.heap.size->w'.heap[b]?=w.heap[b]?)(h:pi P w Z vv l):pi Q w' Z vv l:=by
 obtain⟨QP,h1,h2⟩:=h;exact⟨QP,h1.keep hk,h2.imp hP⟩
theorem yj.keep {Q:Value->PM->Prop}(hP:∀v m,P v m->Q v m)(hk:∀b,Z b->b<w.heap.size->w'.heap[b]?=w.heap[b]?):∀{fs:List PF} {cs:aq},yj P w Z cs fs->yj Q w' Z cs fs
 | [],_,h=>h
 |_::_,_,⟨vv,rest,h1,h2,h3⟩=>⟨vv,rest,h1,h2.keep hP hk,yj.keep hP hk h3⟩
theorem iy.keep (hk:∀b,Z b->b<w.heap.size->w'.heap[b]?=w.heap[b]?):∀{k:Nat} {v:Value} {m:PM},iy k w Z v m->iy k w' Z v m
 |0,_,_,h=>h
 |_+1,_,_,⟨cs,h1,h2⟩=>⟨cs,h1.keep hk,h2.keep (λ_ _ h=>iy.keep hk h) hk⟩
theorem iy.below (hb:Below n w w')(hn:w.heap.size<=n)(h:iy k w Z v m):iy k w' Z v m:=
 h.keep (λb _ hl=>hb.block b (aC hl hn))
theorem pi.below (hb:Below n w w')(hn:w.heap.size<=n)(h:pi (iy k w Z) w Z v l):pi (iy k w' Z) w' Z v l:=
 h.keep (λ_ _ h=>h.below hb hn) (λb _ hl=>hb.block b (aC hl hn))
theorem yj.below (hb:Below n w w')(hn:w.heap.size<=n){cs:aq}{l:List PF}(h:yj (iy k w Z) w Z cs l):yj (iy k w' Z) w' Z cs l:=
 h.keep (λ_ _ h=>h.below hb hn) (λb _ hl=>hb.block b (aC hl hn))
theorem yj.mono {Q:Value->PM->Prop}{Y:ap}(hP:∀v m,P v m->Q v m)(hz:∀b,Z b->b<w.heap.size->Y b):∀{fs:List PF} {cs:aq},yj P w Z cs fs->yj Q w Y cs fs
 | [],_,h=>h
 |_::_,_,⟨vv,rest,h1,⟨QP,h2,h4⟩,h3⟩=>⟨vv,rest,h1,⟨QP,h2.mono hz,h4.imp hP⟩,yj.mono hP hz h3⟩
theorem iy.mono {Y:ap}(hz:∀b,Z b->b<w.heap.size->Y b):∀{k:Nat} {v:Value} {m:PM},iy k w Z v m->iy k w Y v m
 |0,_,_,h=>h
 |_+1,_,_,⟨cs,h1,h2⟩=>⟨cs,h1.mono hz,h2.mono (λ_ _ h=>iy.mono hz h) hz⟩
theorem yj.get:∀{l:List PF} {cs:aq},yj P w Z cs l->∀{i:Nat} {f:PF},l[i]?=some f->
  ∃vv,pi P w Z vv f.2/\cs[i*2]?=some (aa f.1)/\cs[i*2+1]?=some vv
 | [],_,_,i,v,h=>by simp at h
 |x::l,_,⟨vv,rest,h1,h2,h3⟩,0,v,h=>by
  subst h1;simp at h;subst h;exact⟨vv,h2,rfl,rfl⟩
 |x::l,_,⟨vv,rest,h1,h2,h3⟩,i+1,v,h=>by
  subst h1;obtain⟨vv,q1,q2,q3⟩:=yj.get h3 (i:=i) (f:=v) (by simpa using h);exact⟨vv,q1,by rw[show(i+1)*2=i*2+1+1 by omega];simpa using q2,by rw[show(i+1)*2+1=i*2+1+1+1 by omega];simpa using q3⟩
theorem pi.form (h:pi P w Z vv l):∃a c,vv= .slice a l.length c:=by
 obtain⟨QP,h1,_⟩:=h;exact h1.form
theorem iy.form (h:iy k w Z v m):∃a c,v= .slice a m.fs.length c:=by
 cases k with
 |zero=>exact h.elim
 |succ k=>
  obtain⟨cs,h1,_⟩:=h;exact h1.form
theorem lp.rn {Q:Value->PM->Prop}(hP:∀v m,P v m->Q v m):∀{fs:List PF} {cs:aq},lp P w Z cs fs->yj Q w Z cs fs
 | [],_,h=>h
 |_::_,_,⟨vv,rest,h1,⟨QP,h2,h4⟩,h3⟩=>⟨vv,rest,h1,⟨QP,h2.rd,h4.imp hP⟩,lp.rn hP h3⟩
theorem pM.rn:∀{k:Nat} {v:Value} {m:PM},pM k w Z v m->iy k w Z v m
 |0,_,_,h=>h
 |_+1,_,_,⟨cs,h1,h2⟩=>⟨cs,h1.rd,h2.rn (λ_ _ h=>pM.rn h)⟩
end
section
attribute [local go_sem↓] Go.wp_at_zero Go.wp_at_succ
def fF (x:PV)(mv:Value):Value:= .agg #[.int .u64 x.1,ae x.2.1,mv,ae x.2.2.unk]
abbrev Nz:={x:Int//x≠0}
def Nz.ne (x:Nz):x.1≠0:=x.2
def ec (ok:Bool)(w:an)(e:Ending)(w':an):Prop:=aj w w'/\if ok=true then e= .returned (.tuple #[])else∃(x:Nz) (y:Int),e=dI x.1 y
def ec.ok {w w':an}(b:aj w w'):ec true w (.returned (.tuple #[])) w':=⟨b,rfl⟩
def ec.no {w w':an}{x y:Int}(b:aj w w')(hx:x≠0:=by first|decide|exact Nz.ne _):ec false w (dI x y) w':=⟨b,⟨x,hx⟩,_,rfl⟩
def ec.part {ok:Bool}{w:an}{e:Ending}{w':an}(h:ec ok w e w'):(ok=true/\e= .returned (.tuple #[])/\aj w w')\/(ok=false/\∃(x:Nz) (y:Int),e=dI x.1 y/\aj w w'):=by
 obtain⟨h1,h2⟩:=h
 cases ok
 ·simp_all
 simp_all
section
variable (w:an)
def gT:Calls prog 157 #[.bool true] w λe w'=>e= .returned (.tuple #[])/\w'=w:=by
 go_enter func157,ntmps157;go_wp2;go_end0;simp
def gJ:Calls prog 157 #[.bool false] w λe w'=>e=dI 12 0/\w'=w:=by
 go_enter func157,ntmps157;go_wp2_with fail;refine(Gg 12 0 _).mono ?_;rintro e w' ⟨rfl,rfl⟩;go_wp2;exact⟨rfl,rfl,rfl⟩
def nQ (s:am):Bool:=s.toList.isEmpty
def wT (m:PM):Bool:=m.fs.isEmpty&&nQ m.unk
def Ey {α:Type}(l:List α):(((l.length:Nat):Int)==0)=l.isEmpty:=by cases l<;>simp;omega
def yk (x:PV)(mv:Value):Calls prog 241 #[fF x mv] w (ec (!(decide (x.1=0)&&nQ x.2.1)) w):=by
 obtain⟨n,s,m⟩:=x;unfold fF nQ;simp only
 by_cases h0:n=0
 ·subst h0;simp only[decide_true];obtain⟨B,K⟩:=dR w #[.int .u64 0,ae s,mv,ae m.unk] 55;obtain⟨k1,k2⟩:=K.rules
  cases h1:s.toList.isEmpty
  all_goals
   go_enter func241,ntmps241;go_wp2_with fail
   first|refine(gT _).mono ?_|refine(gJ _).mono ?_
   rintro e w' ⟨rfl,rfl⟩
   try unfold dI
   go_wp2
   first|(go_end0;exact⟨B,rfl⟩)|exact⟨rfl,ec.no B⟩
 ·rw[decide_eq_false h0];obtain⟨B,K⟩:=dR w #[.int .u64 n,ae s,mv,ae m.unk] 55;obtain⟨k1,k2⟩:=K.rules;go_enter func241,ntmps241;go_wp2_with fail
  first|refine(gT _).mono ?_|refine(gJ _).mono ?_
  rintro e w' ⟨rfl,rfl⟩
  try unfold dI
  go_wp2
  first|(go_end0;exact⟨B,rfl⟩)|exact⟨rfl,ec.no B⟩
def Cb (x:PV)(ma:aw)(mc:Nat):Calls prog 326 #[fF x (.slice ma x.2.2.fs.length mc)] w (ec (nQ x.2.1&&wT x.2.2) w):=by
 obtain⟨n,s,m⟩:=x;have h3:=Ey m.fs;unfold fF wT nQ;simp only;generalize m.fs.isEmpty=p3 at*;generalize m.fs.length=q3 at*;obtain⟨B,K⟩:=dR w #[.int .u64 n,ae s,.slice ma q3 mc,ae m.unk] 55;obtain⟨k1,k2⟩:=K.rules
 cases h1:s.toList.isEmpty<;>cases p3<;>cases h4:m.unk.toList.isEmpty
 all_goals
  go_enter func326,ntmps326;go_wp2_with fail
  first|refine(gT _).mono ?_|refine(gJ _).mono ?_
  rintro e w' ⟨rfl,rfl⟩
  try unfold dI
  go_wp2
  first|(go_end0;exact⟨B,rfl⟩)|exact⟨rfl,ec.no B⟩
def Dv (x:PV)(ma:aw)(mc:Nat):Calls prog 324 #[fF x (.slice ma x.2.2.fs.length mc)] w (ec (decide (x.1=0)&&wT x.2.2) w):=by
 obtain⟨n,s,m⟩:=x;have h3:=Ey m.fs;unfold fF wT nQ;simp only;generalize m.fs.isEmpty=p3 at*;generalize m.fs.length=q3 at*
 by_cases h0:n=0
 ·subst h0;simp only[decide_true];obtain⟨B,K⟩:=dR w #[.int .u64 0,ae s,.slice ma q3 mc,ae m.unk] 55;obtain⟨k1,k2⟩:=K.rules
  cases p3<;>cases h4:m.unk.toList.isEmpty
  all_goals
   go_enter func324,ntmps324;go_wp2_with fail
   first|refine(gT _).mono ?_|refine(gJ _).mono ?_
   rintro e w' ⟨rfl,rfl⟩
   try unfold dI
   go_wp2
   first|(go_end0;exact⟨B,rfl⟩)|exact⟨rfl,ec.no B⟩
 ·rw[decide_eq_false h0];clear h3;obtain⟨B,K⟩:=dR w #[.int .u64 n,ae s,.slice ma q3 mc,ae m.unk] 55;obtain⟨k1,k2⟩:=K.rules;go_enter func324,ntmps324;go_wp2_with fail
  first|refine(gT _).mono ?_|refine(gJ _).mono ?_
  rintro e w' ⟨rfl,rfl⟩
  try unfold dI
  go_wp2
  first|(go_end0;exact⟨B,rfl⟩)|exact⟨rfl,ec.no B⟩
def LT (x:PV)(mv:Value):Calls prog 323 #[fF x mv] w (ec (decide (x.1=0)&&nQ x.2.1) w):=by
 obtain⟨n,s,m⟩:=x;unfold fF nQ;simp only
 by_cases h0:n=0
 ·subst h0;simp only[decide_true];obtain⟨B,K⟩:=dR w #[.int .u64 0,ae s,mv,ae m.unk] 55;obtain⟨k1,k2⟩:=K.rules
  cases h1:s.toList.isEmpty
  all_goals
   go_enter func323,ntmps323;go_wp2_with fail
   first|refine(gT _).mono ?_|refine(gJ _).mono ?_
   rintro e w' ⟨rfl,rfl⟩
   try unfold dI
   go_wp2
   first|(go_end0;exact⟨B,rfl⟩)|exact⟨rfl,ec.no B⟩
 ·rw[decide_eq_false h0];obtain⟨B,K⟩:=dR w #[.int .u64 n,ae s,mv,ae m.unk] 55;obtain⟨k1,k2⟩:=K.rules;go_enter func323,ntmps323;go_wp2_with fail
  first|refine(gT _).mono ?_|refine(gJ _).mono ?_
  rintro e w' ⟨rfl,rfl⟩
  try unfold dI
  go_wp2
  first|(go_end0;exact⟨B,rfl⟩)|exact⟨rfl,ec.no B⟩
end
def AJ (k:Nat)(n:Int):Bool:=
 if k=0\/k=4\/k=9\/k=15 then n==lQ n else if k=2\/k=7\/k=11 then n==n%4294967296 else if k=6 then n==(if 0<n then 1 else 0)else true
def yn {k:Nat}(hk:k<=16):k=0\/k=1\/k=2\/k=3\/k=4\/k=5\/k=6\/k=7\/k=8\/k=9\/k=10\/k=11\/k=12\/k=13\/k=14\/k=15\/k=16:=QD
def Dw (w:an)(k:Nat)(n:Int)(hk:k<=16)(h0:0<=n):Calls prog 327 #[aa k,.int .u64 n] w λe w'=>e= .returned (.bool (AJ k n))/\w'=w:=by
 have H1:=kD w n;have H2:=rj w n;have H3:=ui w n h0;unfold AJ;generalize lQ n=a at*;generalize n%4294967296=b at*;generalize(if 0<n then(1:Int)else 0)=c at*
 rcases yn hk with rfl|rfl|rfl|rfl|rfl|rfl|rfl|rfl|rfl|rfl|rfl|rfl|rfl|rfl|rfl|rfl|rfl
 all_goals
  go_enter func327,ntmps327;go_wp2_with (first|(go_at_call 347;refine H1.mono ?_;rintro e w2 ⟨rfl,rfl⟩)|(go_at_call 348;refine H2.mono ?_;rintro e w2 ⟨rfl,rfl⟩)|(go_at_call 351;refine H3.mono ?_;rintro e w2 ⟨rfl,rfl⟩))
  go_ret;simp
def fB (S:d8)(f:eP):Nat:=if f.isMap then 16 else S.base f.ty
def g9 (S:d8)(f:eP):Bool:=f.isRep&&eK (fB S f)
def nJ (S:d8)(f:eP):Int:=if g9 S f then 2 else ei (fB S f)
def pj (S:d8)(d:MT)(num kind:Int):Bool:=
 match dP d.fs num with
 |none=>false
 |some f=>(kind==(ei (fB S f):Int))||((kind==2)&&g9 S f)
def fP (S:d8)(R:MT->PM->List UInt8)(f:eP)(v:PV):List UInt8:=
 if fB S f=16 then eX (match eR S f with|some t=>R t v.2.2|none=> [])
 else if fB S f=13\/fB S f=14 then eX v.2.1.data.toList
 else if fB S f=7\/fB S f=9\/fB S f=11 then nP 4 v.1
 else if fB S f=8\/fB S f=10\/fB S f=12 then nP 8 v.1
 else if fB S f=4\/fB S f=5 then vi (zZ v.1)else vi v.1
def mo (S:d8)(R:MT->PM->List UInt8)(f:eP)(l:List PV):List UInt8:=l.flatMap (fP S R f)
def jM (S:d8)(R:MT->PM->List UInt8)(f:eP)(l:List PV):List UInt8:=
 if g9 S f then eW f.num (nJ S f)++eX (mo S R f l)else l.flatMap λv=>eW f.num (nJ S f)++fP S R f v
def jy (S:d8)(R:MT->PM->List UInt8)(d:MT)(x:PF):List UInt8:=
 match dP d.fs x.1 with
 |none=> []
 |some f=>jM S R f x.2
def d9 (S:d8):Nat->MT->PM->List UInt8
 |0,_,_=> []
 |n+1,d,m=>m.fs.flatMap (jy S (d9 S n) d)++m.unk.data.toList
def ek (S:d8)(R:MT->PM->Bool)(f:eP)(v:PV):Bool:=
 if fB S f=16 then(decide (v.1=0)&&nQ v.2.1)&&(match eR S f with|some t=>R t v.2.2|none=>false)
 else if fB S f=13 then(decide (v.1=0)&&wT v.2.2)&&Lib.validD v.2.1.data.toList
 else if fB S f=14 then decide (v.1=0)&&wT v.2.2
 else(nQ v.2.1&&wT v.2.2)&&AJ (fB S f) v.1
def MO (e:PV):PV:=
 match e.2.2.fs with
 |(_,k::_)::_=>k
 |_=>PV.none
def rV (sg:Bool)(e:PV):LV:=Gh sg ((MO e).1,(MO e).2.1)
def i8 (sg:Bool):Option LV->List PV->Bool
 |_,[]=>true
 |last,e::l=>((e.2.2.fs.length==2)&&nQ e.2.2.unk)&&(match last with|none=>true|some k=>decide (vN k (rV sg e)<0))&&i8 sg (some (rV sg e)) l
def og (f:eP)(l:List PV):Bool:=(l.length==1)||((f.isRep||f.isMap)&&decide (1<l.length))
def jY (S:d8)(f:eP)(l:List PV):Bool:=
 if f.isMap then i8 (jD (S.base f.key)) none l else if gE f.how eS=true/\fB S f≠16 then(match l with|x::_=> !(decide (x.1=0)&&nQ x.2.1)| []=>true)else true
def fk (S:d8)(R:MT->PM->Bool)(f:eP)(l:List PV):Bool:=og f l&&l.all (ek S R f)&&jY S f l
def jG (riv:List Int)(n:Int)(ahead:List PF):Bool:=ahead.all λy=>decide (y.1<n)&& !decide (y.1∈riv)
def gw (S:d8)(R:MT->PM->Bool)(d:MT):List PF->List PF->Bool
 |_,[]=>true
 |ahead,x::l=>(match dP d.fs x.1 with|none=>false|some f=>jG (kC d f) x.1 ahead&&fk S R f x.2)&&gw S R d (ahead++ [x]) l
def Io (G:Nat->Bool):Fx (Unit×Nat)->Bool
 | .error _=>false
 | .ok y=>G y.2
def Ku (fit:Int->Int->Bool)(s:am)(G:Nat->Bool):Fx ((Int×Int)×Nat)->Bool
 | .error _=>false
 | .ok x=> !(fit x.1.1 x.1.2)&&Io G (kS s x.2 x.1.2)
def mF (fit:Int->Int->Bool)(s:am):Nat->Nat->Bool
 |0,_=>false
 |F+1,a=>if a<s.size then Ku fit s (mF fit s F) (jo s a)else true
def qN (fit:Int->Int->Bool)(s:am):Bool:=mF fit s (s.size+1) 0
def dN (S:d8):Nat->MT->PM->Bool
 |0,_,_=>false
 |n+1,d,m=>gw S (dN S n) d [] m.fs&&qN (pj S d) m.unk
def nR:Nat->PM->Prop
 |0,_=>False
 |k+1,m=>m.fs.length<=1099511627776/\m.unk.size<=1099511627776/\∀x∈m.fs,x.2.length<=1099511627776/\∀v∈x.2,0<=v.1/\v.1<18446744073709551616/\v.2.1.size<=1099511627776/\nR k v.2.2
end
section
variable (w:an) {s:am} {a i:Nat} {x:Int×Int} {riv:List Int} {n:Int} {fs:List PF}
attribute [local go_sem↓] Go.wp_at_zero Go.wp_at_succ
theorem oh {b:Nat}{w w1 w2:an}(h:aj w w1)(k:dS [b] w1 w2)(hb:w.heap.size<=b):aj w w2:=
 h.trans ⟨k.os,k.tape,k.output,k.size,λi hi=>k.block i (aC hi h.size) QF⟩
theorem z8 {e:Nat}:∀{f i:Nat} {n:Int},lz s a e f i n= .error x->x.1≠0
 |0,_,_,h=>by
  obtain rfl:=Except.error.inj h;simp
 |f+1,i,n,h=>by
  rw[lz]at h
  split at h
  ·split at h
   ·obtain rfl:=Except.error.inj h;simp
   ·split at h
    ·cases h
    ·exact z8 h
  ·obtain rfl:=Except.error.inj h;simp
theorem Kv (h:jo s a= .error x):x.1≠0:=by
 unfold jo at h
 split at h
 ·rename_i h1
  obtain rfl:=Except.error.inj h;exact z8 h1
 ·split at h
  ·obtain rfl:=Except.error.inj h;simp
  ·split at h
   ·cases h
   ·obtain rfl:=Except.error.inj h;simp
theorem Ez {k:Nat}(h:gD s a k= .error x):x.1≠0:=by
 unfold gD at h
 split at h
 ·cases h
 ·obtain rfl:=Except.error.inj h;simp
theorem Ip {k:Int}(h:kS s a k= .error x):x.1≠0:=by
 unfold kS at h
 split at h
 ·split at h
  ·rename_i h1
   obtain rfl:=Except.error.inj h;exact z8 h1
  ·cases h
 ·split at h
  ·split at h
   ·rename_i h1
    obtain rfl:=Except.error.inj h;exact Ez h1
   ·cases h
  ·split at h
   ·split at h
    ·rename_i h1
     obtain rfl:=Except.error.inj h;exact Ez h1
    ·cases h
   ·split at h
    ·rename_i h1
     obtain rfl:=Except.error.inj h;unfold eJ at h1
     split at h1
     ·rename_i h2
      obtain rfl:=Except.error.inj h1;exact z8 h2
     ·split at h1
      ·cases h1
      ·obtain rfl:=Except.error.inj h1;simp
    ·cases h
theorem Dx {x:PF}(hx:fs[i]?=some x):jG riv n (fs.take (i+1))=(jG riv n (fs.take i)&&(decide (x.1<n)&& !decide (x.1∈riv))):=by
 unfold jG;rw[bB,hx];simp
theorem Cc {j:Nat}(h:i<=j)(hn:jG riv n (fs.take i)=false):jG riv n (fs.take j)=false:=by
 unfold jG at*;rw[List.all_eq_false]at hn⊢;obtain⟨y,h1,h2⟩:=hn;exact⟨y,(List.take_subset_take_left fs h) h1,h2⟩
theorem Iq {Q:Value->PM->Prop}{Z P:ap}(a:aw)(c c':Nat)(fs:List PF)(cs:aq)(i:Nat)(n:Int)(rv:Value)(riv:List Int)(hr:lD w Z (.slice a fs.length c) fs.length cs)(hf:yj Q w Z cs fs)(hi:i<=fs.length)(hl:fs.length<=1099511627776)
  (hrv:et w P 3 1 rv riv.length (fV riv)) (hrl:riv.length<=1073741824):
  Calls prog 158 #[.slice a i c',aa n,rv] w (ec (jG riv n (fs.take i)) w):=by
 obtain⟨ra,rc,rfl⟩:=iW hrv.1;go_enter func158,ntmps158;go_wp2;go_loopw [7,10] (λ_ jv wr=>∃j:Nat,jv=aa j/\j<=i/\Hid (jG riv n (fs.take j)=true)/\aj w wr) (λ_ jv _=>i-(intOf jv).toNat)
 case atStart=>exact⟨0,rfl,aM _,rfl,Below.refl _ _⟩
 case round=>
  obtain⟨j,rfl,hji,HN,B⟩:=hrel
  by_cases hlt:j<i
  ·obtain⟨x,hx⟩:=gx (l:=fs) (i:=j) QD;obtain⟨vv,p1,p2,p3⟩:=hf.get hx;obtain⟨va,vc,rfl⟩:=p1.form;obtain⟨g,rfl,hzg,QZ,QP⟩:=hr.at QD;have t0:=QP wr (B.block _ QZ) _ _ p2;have t1:=lf (QP wr (B.block _ QZ) _ _ p3);have hlj:(j:Int)<(i:Int):=QD;obtain⟨B1,K1⟩:=dR wr #[aa x.1,.slice va x.2.length vc] 58;have B2:=dG B B1;have HC:=vz _ (.slice ra riv.length rc) riv x.1 (eF B2 hrv.1) hrl
   have HT:Hid (jG riv n (fs.take (j+1))=(decide (x.1<n)&& !decide (x.1∈riv))):=by
    show jG riv n (fs.take (j+1))=_;rw[Dx hx,HN.out,cq]
   obtain⟨k1,k2⟩:=K1.rules;clear QP p2 p3 hx;generalize decide (x.1∈riv)=q at*
   by_cases h1:x.1<n
   ·cases q
    ·go_wp2_with (first|(go_at_call 238;refine HC.mono ?_;rintro e w2 ⟨rfl,rfl⟩)|(go_at_call 157;refine(gT _).mono ?_;rintro e w2 ⟨rfl,rfl⟩))
     go_roundw
     case rel=>exact⟨j+1,by go_num,QD,HT.out.trans (by simp[h1]),B2⟩
     case measure=>simp[intOf];omega
    ·go_wp2_with (first|(go_at_call 238;refine HC.mono ?_;rintro e w2 ⟨rfl,rfl⟩)|(go_at_call 157;refine(gJ _).mono ?_;rintro e w2 ⟨rfl,rfl⟩;unfold dI))
     exact⟨rfl,by rw[Cc QD (HT.out.trans QE)];exact ec.no B2⟩
   ·go_wp2_with (first|(go_at_call 157;refine(gJ _).mono ?_;rintro e w2 ⟨rfl,rfl⟩;unfold dI))
    exact⟨rfl,by rw[Cc QD (HT.out.trans (by rw[decide_eq_false QD];rfl))];exact ec.no B2⟩
  ·obtain rfl:j=i:=QD;go_wp2;go_end0;exact⟨B,by rw[dB HN.out]⟩
theorem Kw (x:PV)(mv:Value)(sg:Bool)(h0:0<=x.1)(h1:x.1<18446744073709551616):
  Calls prog 267 #[fF x mv,.bool sg] w λe w'=>e= .returned (kV (Gh sg (x.1,x.2.1)))/\aj w w':=by
 have hx:=rA h0 h1;have K0:=dK.new w #[.int .u64 x.1,ae x.2.1,mv,ae x.2.2.unk] 55;have K1:=K0.alloc (ak #[.int .u64 0,ae ⟨#[]⟩] 386);obtain⟨k1,k2⟩:=K1.rules;unfold fF kV Gh
 cases sg with
 |true=>
  rw[dB rfl];go_enter func267,ntmps267;go_wp2;refine dE (dZ results267 _ _ rfl (dK.new1 w _ _ _) underlying386 QI) rfl ?_;exact⟨rfl,((Below.refl _ _).alloc (ay _) _).alloc QE _⟩
 |false=>
  rw[dA QE];go_enter func267,ntmps267;go_wp2;refine dE (dZ results267 _ _ rfl (dK.new1 w _ _ _) underlying386 QI) rfl ?_;exact⟨rfl,((Below.refl _ _).alloc (ay _) _).alloc QE _⟩
theorem yo (s:am)(ff:Nat)(cap:aq)(fit:Int->Int->Bool)(hs:s.size<=1099511627776)(hen:∀args w,(callFunc ff args).run prog w= .ok (.enter ff args) w)
  (hf:∀(W:an) (n k:Int),aj w W->Calls prog ff ((Value.agg #[aa n,aa k]::cap).toArray) W λe w'=>e= .returned (.bool (fit n k))/\Below W.heap.size W w'):
  Calls prog 160 #[ae s,.func (.func ff) #[] cap.toArray] w (ec (qN fit s) w):=by
 obtain⟨P,HP⟩:∃P,Hid (qN fit s=P):=⟨_,rfl⟩;rw[HP.out];have K0:=dK.new w #[ae s,aa 0,aa 1] 244;have B0:aj w (w.alloc (.cells #[ae s,aa 0,aa 1] 244)):=(Below.refl _ _).alloc (ay _) _;go_enter func160,ntmps160;go_wp2_with fail;refine(GJ w s).mono ?_;rintro e w1 ⟨rfl,rfl⟩;generalize w.alloc (.cells #[ae s,aa 0,aa 1] 244)=w1 at*;go_wp2;go_loopw [5] (λ_ wr=>∃(a F:Nat),a<=s.size/\s.size-a<F/\Hid (mF fit s F a=P)/\dU wr w.heap.size s a 1/\aj w wr) (λ_ wr=>lr wr w.heap.size s.size)
 case atStart=>exact⟨0,s.size+1,aM _,QD,HP,K0,B0⟩
 case round=>
  obtain⟨a,F,ha,hF,HU,hr,B⟩:=hrel;have Q3:=qC wr w.heap.size s a 1 hr;have HM:Hid (lr wr w.heap.size s.size=s.size-a):=gU hr;go_wp2_with fail;refine Q3.mono ?_;rintro e w4 ⟨rfl,q,rfl⟩;obtain⟨F,rfl⟩:∃g,F=g+1:=⟨F-1,QD⟩;have Q4:dU (wr.drewN q) w.heap.size s a 1:=hr;have B4:aj w (wr.drewN q):=iE B q;generalize wr.drewN q=w4 at*
  by_cases hlt:a<s.size
  ·have hd:decide (a<s.size)=true:=decide_eq_true hlt;have QW:=GM w4 w.heap.size s a 1 Q4 QD;obtain⟨T,hT⟩:∃T,jo s a=T:=⟨_,rfl⟩;rw[hT]at QW;have HT:Hid (jo s a=T):=hT;clear hT
   have QS:Hid (P=Ku fit s (mF fit s F) T):=by
    show P=_;rw[<-HU.out,mF,dB hlt,HT.out]
   go_wp2_with fail;refine QW.mono ?_;intro en w6 Q8
   rcases Q8.part with⟨x,rfl,rfl,QU⟩|⟨x,rfl,rfl,QU,Q0⟩
   ·have QQ:Hid (P=false):=QS.out;have B6:aj w w6:=oh B4 QU (ay _);unfold dI;go_wp2;exact⟨rfl,by rw[QQ.out];exact ec.no B6 (Kv HT.out)⟩
   ·obtain⟨⟨num,kind⟩,z⟩:=x;obtain⟨kn,Q1,hk4,Q9,Ra⟩:=Dh HT.out;simp only at Q1 Q9 Ra Q0;subst Q1;have B6:aj w w6:=oh B4 QU (ay _);obtain⟨B7,KT⟩:=dR w6 #[aa num,aa kn] 237;have QX:dU (w6.alloc (ak #[aa num,aa kn] 237)) w.heap.size s z 1:=dK.alloc Q0 _;have B8:=dG B6 B7;have HF:=hf _ num kn B8;have QR:Hid (P=(!(fit num kn)&&Io (mF fit s F) (kS s z kn))):=QS.out;obtain⟨k1,k2⟩:=KT.rules;clear QS HU HT;obtain⟨fv,Rb⟩:∃fv,fit num kn=fv:=⟨_,rfl⟩;rw[Rb]at HF QR;go_wp2_with fail;generalize w6.alloc (ak #[aa num,aa kn] 237)=w7 at*;generalize w6.heap.size=tb at*;refine HF.mono ?_;rintro e w8 ⟨rfl,B9⟩;have Q5:dU w8 w.heap.size s z 1:=dK.below QX B9 (dK.lt QX);have QT:=dG B8 B9;have Q6:=KT.below B9 KT.lt;clear k1 k2;obtain⟨k1,k2⟩:=Q6.rules
    cases fv
    ·have QY:=zq w8 w.heap.size s z 1 kn Q5 QD QD QD;obtain⟨R,hR⟩:∃R,kS s z kn=R:=⟨_,rfl⟩;have HW:Hid (∀y,R= .ok y->z<y.2/\y.2<=s.size):=λy hy=>uz (hR.trans hy)
     have HE:Hid (∀x,R= .error x->x.1≠0):=λy hy=>Ip (hR.trans hy)
     have HL:Hid (P=Io (mF fit s F) R):=by
      show P=_;rw[QR.out,hR];rfl
     rw[hR]at QY;clear hR QR;go_wp2_with (go_at_call 157;refine(gT _).mono ?_;rintro e w2 ⟨rfl,rfl⟩)
     refine QY.mono ?_;intro en w9 Rc
     rcases Rc.part with⟨x,rfl,rfl,QV⟩|⟨y,rfl,rfl,QV,Q2⟩
     ·have QQ:Hid (P=false):=HL.out;unfold dI;go_wp2;exact⟨rfl,by rw[QQ.out];exact ec.no (oh QT QV (ay _)) (HE.out x rfl)⟩
     ·obtain⟨hy1,Re⟩:=HW.out y rfl;go_wp2;go_roundw
      case rel=>exact⟨y.2,F,Re,QD,HL.out.symm,Q2,oh QT QV (ay _)⟩
      case measure=>rw[HM.out,gU Q2];omega
    ·have QQ:Hid (P=false):=QR.out;go_wp2_with (go_at_call 157;refine(gJ _).mono ?_;rintro e w2 ⟨rfl,rfl⟩;unfold dI)
     exact⟨rfl,by rw[QQ.out];exact ec.no QT⟩
  ·have hd:decide (a<s.size)=false:=decide_eq_false hlt
   have Q7:Hid (P=true):=by
    show P=true;rw[<-HU.out,mF,dA hlt]
   go_wp2;go_end0;exact⟨B4,by rw[Q7.out];rfl⟩
end
section
open Go.Sort
attribute [local go_sem↓] Go.wp_at_zero Go.wp_at_succ
def Fw (w:an)(k:Nat)(os:Array Obj):aj w (grow (w.drewN k) os):=
 ⟨rfl,rfl,rfl,by show w.heap.size<=(w.heap++os).size;rw[Array.size_append];omega,λj hj=>by show(w.heap++os)[j]?=_;rw[Array.getElem?_append,dB hj]⟩
def MP (x y:LV)(w:an):Calls prog 275 #[.agg #[.int .u64 x.1,ae x.2],.agg #[.int .u64 y.1,ae y.2]] w λe w'=>e= .returned (aa (vN x y))/\aj w w':=
 (vO x y w).mono λ_ _ ⟨h1,q,os,h2⟩=>⟨h1,by rw[h2];exact Fw w q os⟩
def Cd (e:PV):Prop:=e.2.2.fs.length=2->∃n k r rest,e.2.2.fs=(n,k::r)::rest/\0<=k.1/\k.1<18446744073709551616
def Kx:Option LV->LV
 |none=>(0,⟨#[]⟩)
 |some k=>k
def yq (last:Option LV)(k:LV):Bool:=
 match last with
 |none=>true
 |some l=>decide (vN l k<0)
def Dy (sg:Bool)(last:Option LV)(e:PV)(l:List PV):i8 sg last (e::l)=(((e.2.2.fs.length==2)&&nQ e.2.2.unk)&&yq last (rV sg e)&&i8 sg (some (rV sg e)) l):=by
 cases last<;>rfl
def yr {k:Nat}{Z:ap}(w:an)(v:Value)(l:List PV)(sg:Bool)(hv:pi (iy (k+1) w Z) w Z v l)(hE:∀e∈l,Cd e)(hl:l.length<=1099511627776):
  Calls prog 240 #[v,.bool sg] w (ec (i8 sg none l) w):=by
 obtain⟨a,c,rfl⟩:=hv.form;obtain⟨P,HP⟩:∃P,Hid (i8 sg none l=P):=⟨_,rfl⟩;rw[HP.out];obtain⟨cs,hr,hv⟩:=hv;obtain⟨B0,K0⟩:=dR w #[.int .u64 0,ae ⟨#[]⟩] 386;go_enter func240,ntmps240;go_wp2;go_loopw [5,6,7,10] (λ_ _ _ jv wr=>∃(j:Nat) (last:Option LV),jv=aa j/\j<=l.length/\(j=0<->last=none)/\Hid (i8 sg last (l.drop j)=P)/\dK wr w.heap.size #[.int .u64 (Kx last).1,ae (Kx last).2] 386/\aj w wr) (λ_ _ _ jv _=>l.length-(intOf jv).toNat)
 case atStart=>exact⟨0,none,rfl,aM _,QE,HP,K0,B0⟩
 case round=>
  obtain⟨j,last,rfl,hj,hz,HU,K,B⟩:=hrel
  by_cases hlt:j<l.length
  ·obtain⟨e,he⟩:=gx hlt;obtain⟨mv,p1,p2,p3,p4,p5⟩:=hv.get he;obtain⟨ma,mc,rfl⟩:=p1.form;obtain⟨g,rfl,hzg,QW,QQ⟩:=hr.at QD;have t0:=QQ wr (B.block _ QW) _ _ p2;have t1:=lf (QQ wr (B.block _ QW) _ _ p3);have t2:=lf (QQ wr (B.block _ QW) _ _ p4);have t3:=lf (QQ wr (B.block _ QW) _ _ p5);have hlj:(j:Int)<(l.length:Int):=QD;have hdr:l.drop j=e::l.drop (j+1):=by rw[aZ hlt];rw[aK hlt]at he;rw[Option.some.inj he]
   have QV:Hid ((((e.2.2.fs.length==2)&&nQ e.2.2.unk)&&yq last (rV sg e)&&i8 sg (some (rV sg e)) (l.drop (j+1)))=P):=by
    show _=P;rw[<-HU.out,hdr,Dy]
   have QY:=hE e (aI he);have Ra:=p1.form;unfold Cd at QY;generalize hfl:e.2.2.fs.length=fl at*;obtain⟨B1,K1⟩:=dR wr #[.int .u64 e.1,ae e.2.1,.slice ma fl mc,ae e.2.2.unk] 55;have B2:=dG B B1;clear QQ p2 p3 p4 p5 he hdr HU Ra;unfold nQ at QV
   by_cases h2:fl=2
   ·subst h2;obtain⟨n,ke,r,rest,QX,q0,q1⟩:=QY rfl;have QZ:Hid ((e.2.2.unk.toList.isEmpty&&yq last (rV sg e)&&i8 sg (some (rV sg e)) (l.drop (j+1)))=P):=QV.out;clear QV QY
    cases h3:e.2.2.unk.toList.isEmpty with
    |false=>
     have QU:Hid (P=false):=by
      show P=false;rw[<-QZ.out,h3];rfl
     obtain⟨k1,k2⟩:=K1.rules;clear QX hfl;go_wp2_with (go_at_call 157;refine(gJ _).mono ?_;rintro e w2 ⟨rfl,rfl⟩;unfold dI)
     exact⟨rfl,by rw[QU.out];exact ec.no B2⟩
    |true=>
     obtain⟨fcs,Q1,Q5⟩:=p1;rw[hfl]at Q1;obtain⟨vv,Q6,f0,f1⟩:=Q5.get (i:=0) (f:=(n,ke::r)) (by rw[QX];rfl);obtain⟨va,vc,rfl⟩:=Q6.form;obtain⟨gf,rfl,hzgf,Q2,QR⟩:=Q1.at QD;obtain⟨vcs,Q7,Q8⟩:=Q6;obtain⟨kmv,Q9,g2,g3,g4,g5⟩:=Q8.get (i:=0) (v:=ke) rfl;obtain⟨gv,rfl,hzgv,QS,QP⟩:=Q7.at QE;obtain⟨Re,Rf,rfl⟩:=Q9.form;have s1:=lf (QR _ (B2.block _ Q2) _ _ f1);have s2:=QP _ (B2.block _ QS) _ _ g2;have s3:=lf (QP _ (B2.block _ QS) _ _ g3);have s4:=lf (QP _ (B2.block _ QS) _ _ g4);have s5:=lf (QP _ (B2.block _ QS) _ _ g5);have Q4:rV sg e=Gh sg (ke.1,ke.2.1):=by unfold rV MO;rw[QX]
     have QT:Hid ((yq last (Gh sg (ke.1,ke.2.1))&&i8 sg (some (Gh sg (ke.1,ke.2.1))) (l.drop (j+1)))=P):=by
      show _=P;rw[<-QZ.out,h3,Q4];rfl
     have HK:=Kw (wr.alloc (ak #[.int .u64 e.1,ae e.2.1,.slice (some gf) 2 mc,ae e.2.2.unk] 55)) ke (.slice Re ke.2.2.fs.length Rf) sg q0 q1;unfold fF kV at HK;clear QZ Q4 QX hfl QR QP f0 f1 g2 g3 g4 g5 Q5 Q1 Q7 Q8 Q9;generalize Gh sg (ke.1,ke.2.1)=kk at*;generalize ke.2.2.fs.length=kl at*;have K2:=K.below B1 K.lt;obtain⟨k1,k2⟩:=K1.rules;simp only[Nat.zero_mul,MN,bE]at s1 s2 s3 s4 s5;go_wp2_with (first|(go_at_call 157;refine(gT _).mono ?_;rintro e w2 ⟨rfl,rfl⟩))
     generalize(wr.alloc (ak #[.int .u64 e.1,ae e.2.1,.slice (some gf) 2 mc,ae e.2.2.unk] 55))=w2 at*;generalize wr.heap.size=eb at*;refine HK.mono ?_;rintro en w3 ⟨rfl,B3⟩;have B4:=dG B2 B3;have K3:=K2.below B3 K2.lt;obtain⟨B5,K5⟩:=dR w3 #[.int .u64 kk.1,ae kk.2] 386;have B6:=dG B4 B5;have K6:=K3.below B5 K3.lt;have hne:w.heap.size<w3.heap.size:=K3.lt;have hk5:=K5.lt;clear k1 k2 K0 B0 K K1 K2 K3 B1 B2 B3 B4 s1 s2 s3 s4 s5 t0 t1 t2 t3;obtain⟨k1,k2⟩:=K5.rules;obtain⟨k3,k4⟩:=K6.rules
     by_cases hj0:j=0
     ·obtain rfl:=hz.1 hj0;subst hj0;have Q0:Hid (i8 sg (some kk) (l.drop (0+1))=P):=QT.out;simp only[Kx]at K6 k3;clear QT hz;go_wp2_with fail;generalize(w3.alloc (ak #[.int .u64 kk.1,ae kk.2] 386))=w4 at*;refine(gT _).mono ?_;rintro en w5 ⟨rfl,rfl⟩;go_wp2;go_roundw
      case rel=>exact⟨1,some kk,rfl,QD,QE,Q0,(K6.set 0 _).set 1 _,(B6.setCell (p:=(ai w.heap.size 0)) (ay _) _).setCell (p:=(ai w.heap.size 1)) (ay _) _⟩
      case measure=>simp[intOf];omega
     ·cases last with
      |none=>exact absurd (hz.2 rfl) hj0
      |some lk=>
       have hj1:((j:Int)==0)=false:=QF;have HC:=MP lk kk (w3.alloc (ak #[.int .u64 kk.1,ae kk.2] 386));simp only[Kx]at K6 k3;obtain⟨cv,Q3⟩:∃cv,vN lk kk=cv:=⟨_,rfl⟩;rw[Q3]at HC
       by_cases hc0:cv<0
       ·have Q0:Hid (i8 sg (some kk) (l.drop (j+1))=P):=by
         show _=P;rw[<-QT.out,yq,Q3,decide_eq_true hc0];rfl
        have Rb:decide (cv<0)=true:=decide_eq_true hc0;clear QT hz;go_wp2_with fail;generalize(w3.alloc (ak #[.int .u64 kk.1,ae kk.2] 386))=w4 at*;refine HC.mono ?_;rintro en w5 ⟨rfl,B7⟩;have B8:=dG B6 B7;have K7:=K5.below B7 K5.lt;have K8:=K6.below B7 K6.lt;clear k1 k2 k3 k4;obtain⟨k1,k2⟩:=K7.rules;obtain⟨k3,k4⟩:=K8.rules;go_wp2_with (first|(go_at_call 157;refine(gT _).mono ?_;rintro e w2 ⟨rfl,rfl⟩))
        go_roundw
        case rel=>exact⟨j+1,some kk,by go_num,QD,QE,Q0,(K8.set 0 _).set 1 _,(B8.setCell (p:=(ai w.heap.size 0)) (ay _) _).setCell (p:=(ai w.heap.size 1)) (ay _) _⟩
        case measure=>simp[intOf];omega
       ·have QU:Hid (P=false):=by
         show P=false;rw[<-QT.out,yq,Q3,decide_eq_false hc0];rfl
        have Rb:decide (cv<0)=false:=decide_eq_false hc0;clear QT hz;go_wp2_with fail;refine HC.mono ?_;rintro en w5 ⟨rfl,B7⟩;have B8:=dG B6 B7;go_wp2_with (go_at_call 157;refine(gJ _).mono ?_;rintro e w2 ⟨rfl,rfl⟩;unfold dI)
        exact⟨rfl,by rw[QU.out];exact ec.no B8⟩
   ·have QU:Hid (P=false):=by
     show P=false;rw[<-QV.out,show(fl==2)=false by simpa using h2];rfl
    have h2':((fl:Int)==2)=false:=QF;obtain⟨k1,k2⟩:=K1.rules;clear hfl;go_wp2_with (go_at_call 157;refine(gJ _).mono ?_;rintro e w2 ⟨rfl,rfl⟩;unfold dI)
    exact⟨rfl,by rw[QU.out];exact ec.no B2⟩
  ·obtain rfl:j=l.length:=QD
   have Rc:Hid (P=true):=by
    show P=true;rw[<-HU.out,co];rfl
   go_wp2;go_end0;exact⟨B,by rw[Rc.out];rfl⟩
end
section
attribute [local go_sem↓] Go.wp_at_zero Go.wp_at_succ
section
variable {S:d8} {mp:am->Option Nat} {d:MT} {f:eP} {g:GF}
def FG.gb (fg:FG S mp d f g):ee mp g=fB S f:=by
 unfold ee fB;rw[fg.map,fg.eq,fg.base]
 by_cases h:g.form=4<;>simp[h]
def FG.pk (fg:FG S mp d f g):gN mp g=g9 S f:=by
 unfold gN g9;rw[fg.gb,fg.rep]
 by_cases h:g.form=2<;>simp[h]
def FG.tk (fg:FG S mp d f g):yi mp g=nJ S f:=by
 unfold yi nJ;rw[fg.pk,fg.gb]
def Ir (fg:FG S mp d f g):fB S f<=16:=by rw[<-fg.gb];exact kT mp g
def Is {gs:List GF}(hG:kc S mp d gs)(num kind:Int):(rl mp gs num kind).isSome=pj S d num kind:=by
 unfold rl pj
 cases h:dP d.fs num with
 |none=>rw[hG.no num h];rfl
 |some f=>
  obtain⟨g,h1,fg⟩:=hG.yes num f h;rw[h1];simp only;unfold kj;rw[fg.gb,fg.pk]
  split<;>simp_all
def Dz {w:an}{B fb:Nat}(cx:rC w B S mp)(hf:eG w (λb=>b<B) mp g fb)(fg:FG S mp d f g)(h:fB S f=16):
  ∃t mb gs nm rv,eR S f=some t/\dK w fb #[aa g.f.num,aa g.form,aa (ee mp g),ag mb,rv] 220/\iF w (λb=>b<B) mp mb nm gs/\kc S mp t gs:=by
 obtain⟨pv,rv,h1,_,_,QQ⟩:=hf.blk
 by_cases h4:g.form=4
 ·rw[dB h4]at QQ;obtain⟨eb,rfl,hE⟩:=QQ;rw[fg.eq]at hE;exact⟨eo f,eb,_,_,rv,by unfold eR;rw[dB (by rw[fg.map,h4];rfl)],h1,hE.msg,zO fg h4⟩
 ·rw[dA h4]at QQ;have hm:f.isMap=false:=by rw[fg.map];simp[h4]
  have hb:S.base f.ty=16:=by unfold fB at h;rw[hm]at h;exact h
  obtain⟨t,ht⟩:=bV.1 (fg.nest.1 hb);obtain⟨mb,gs,q1,q2,q3⟩:=cx.md f.ty t ht;rw[fg.eq,q1]at QQ;subst QQ;exact⟨t,mb,gs,_,rv,by unfold eR;rw[hm];exact ht,h1,q2,q3⟩
end
def MQ (S:d8)(mp:am->Option Nat)(B n:Nat):Prop:=
 ∀(w:an) (Z:ap) (v:Value) (m:PM) (d:MT) (mb:Nat) (gs:List GF) (nm:am) (deep k:Nat),rC w B S mp->iF w (λb=>b<B) mp mb nm gs->kc S mp d gs->iy k w Z v m->nR k m->n+deep=9->
  Calls prog 101 #[ag mb,.agg #[v,ae m.unk],aa deep] w (ec (dN S n d m) w)
def Aa {S:d8}{mp:am->Option Nat}{B n:Nat}(H:MQ S mp B n)(w:an)(Z:ap)(mv:Value)(x:PV)(d:MT)(f:eP)(g:GF)(fb:Nat)(pv:Value)(deep k:Nat)(cx:rC w B S mp)(hf:eG w (λb=>b<B) mp g fb)(fg:FG S mp d f g)(hM:iy k w Z mv x.2.2)(hO:nR k x.2.2)(h0:0<=x.1)(hs:x.2.1.size<=1099511627776)
  (QQ:∃rv,dK w fb #[aa g.f.num,aa g.form,aa (ee mp g),pv,rv] 220) (hd:n+1+deep=9):
  Calls prog 239 #[.agg #[aa (ee mp g),pv],fF x mv,aa deep] w (ec (ek S (dN S n) f x) w):=by
 obtain⟨ma,mc,rfl⟩:=hM.form;have QY:=Ir fg;obtain⟨B0,KT,KV⟩:=fK w #[aa (fB S f),pv] #[.int .u64 x.1,ae x.2.1,.slice ma x.2.2.fs.length mc,ae x.2.2.unk] 216 55;have QS:=Cb ((w.alloc (ak #[aa (fB S f),pv] 216)).alloc (ak #[.int .u64 x.1,ae x.2.1,.slice ma x.2.2.fs.length mc,ae x.2.2.unk] 55)) x ma mc;have QP:=Dv ((w.alloc (ak #[aa (fB S f),pv] 216)).alloc (ak #[.int .u64 x.1,ae x.2.1,.slice ma x.2.2.fs.length mc,ae x.2.2.unk] 55)) x ma mc;have QR:=LT ((w.alloc (ak #[aa (fB S f),pv] 216)).alloc (ak #[.int .u64 x.1,ae x.2.1,.slice ma x.2.2.fs.length mc,ae x.2.2.unk] 55)) x (.slice ma x.2.2.fs.length mc);unfold fF at*;rw[fg.gb];unfold ek;obtain⟨k1,k2⟩:=KT.rules;obtain⟨k3,k4⟩:=KV.rules
 by_cases h16:fB S f=16
 ·rw[dB h16];rw[h16]at B0 KT KV QR k1 k2 k3 k4;obtain⟨t,mb,gs,nm,rv,QV,QW,Q1,Q2⟩:=Dz cx hf fg h16;obtain⟨rv2,QX⟩:=QQ
  obtain rfl:pv=ag mb:=by
   have:=(dK.cell QW 3).symm.trans (dK.cell QX 3);simpa using this.symm
  clear QS QP;rw[QV,h16];simp only
  have HC:∀W,aj w W->Calls prog 101 #[ag mb,.agg #[.slice ma x.2.2.fs.length mc,ae x.2.2.unk],aa ((deep:Int)+1)] W (ec (dN S n t x.2.2) W):=λW hW=>by
   have:=H W Z _ x.2.2 t mb gs nm (deep+1) k (cx.on (dQ hW cx.le)) (Q1.keep λb q _=>hW.block b (by have:=cx.le;omega)) Q2 (hM.below hW (ay _)) hO QD
   rwa [show(((deep+1:Nat):Int))=(deep:Int)+1 by omega]at this
  have hd9:(deep:Int)<=9:=QD;obtain⟨q,hq⟩:∃q,(decide (x.1=0)&&nQ x.2.1)=q:=⟨_,rfl⟩;obtain⟨r,hr⟩:∃r,dN S n t x.2.2=r:=⟨_,rfl⟩;rw[hq]at QR⊢;rw[hr]at HC⊢;clear hq hr H QW QX;have QZ:Hid (∀W,aj w W->Calls prog 101 #[ag mb,.agg #[.slice ma x.2.2.fs.length mc,ae x.2.2.unk],aa ((deep:Int)+1)] W (ec r W)):=HC;clear HC;go_enter func239,ntmps239;go_wp2_with fail;generalize(w.alloc (ak #[aa 16,ag mb] 216)).alloc (ak #[.int .u64 x.1,ae x.2.1,.slice ma x.2.2.fs.length mc,ae x.2.2.unk] 55)=w1 at*;refine QR.mono ?_;intro e w2 hr
  rcases hr.part with⟨rfl,rfl,b2⟩|⟨rfl,y,z,rfl,b2⟩
  ·have QU:=KT.below b2 KT.lt;have QT:=KV.below b2 KV.lt;clear k1 k2 k3 k4;obtain⟨k1,k2⟩:=QU.rules;obtain⟨k3,k4⟩:=QT.rules;have B2:=dG B0 b2;go_wp2_with fail;refine(QZ.out w2 B2).mono ?_;intro e w3 Q3
   rcases Q3.part with⟨rfl,rfl,b3⟩|⟨rfl,y,z,rfl,b3⟩
   ·go_wp2;go_end0;exact ec.ok (dG B2 b3)
   ·unfold dI;go_wp2;exact⟨rfl,ec.no (dG B2 b3)⟩
  ·unfold dI;go_wp2;exact⟨rfl,ec.no (dG B0 b2)⟩
 ·by_cases h13:fB S f=13
  ·rw[dA h16,dB h13];rw[h13]at B0 KT KV QP k1 k2 k3 k4;rw[h13];clear QS QR;have HV:∀W,aj w W->Calls prog 325 #[ae x.2.1] W λe w'=>e= .returned (.bool (Lib.validD x.2.1.data.toList))/\Below W.heap.size W w':=λW hW=>zp W x.2.1 QD (cx.on (dQ hW cx.le)).u
   obtain⟨q,hq⟩:∃q,(decide (x.1=0)&&wT x.2.2)=q:=⟨_,rfl⟩;obtain⟨r,hr⟩:∃r,Lib.validD x.2.1.data.toList=r:=⟨_,rfl⟩;rw[hq]at QP⊢;rw[hr]at HV⊢;clear hq hr;have Q0:Hid (∀W,aj w W->Calls prog 325 #[ae x.2.1] W λe w'=>e= .returned (.bool r)/\Below W.heap.size W w'):=HV;clear HV;go_enter func239,ntmps239;go_wp2_with fail;generalize(w.alloc (ak #[aa 13,pv] 216)).alloc (ak #[.int .u64 x.1,ae x.2.1,.slice ma x.2.2.fs.length mc,ae x.2.2.unk] 55)=w1 at*;refine QP.mono ?_;intro e w2 hr
   rcases hr.part with⟨rfl,rfl,b2⟩|⟨rfl,y,z,rfl,b2⟩
   ·have QT:=KV.below b2 KV.lt;clear k1 k2 k3 k4;obtain⟨k3,k4⟩:=QT.rules;have B2:=dG B0 b2;go_wp2_with fail;refine(Q0.out w2 B2).mono ?_;rintro e w3 ⟨rfl,b3⟩
    cases r
    ·go_wp2_with (go_at_call 157;refine(gJ _).mono ?_;rintro e w2 ⟨rfl,rfl⟩;unfold dI)
     exact⟨rfl,ec.no (dG B2 b3)⟩
    ·go_wp2_with (go_at_call 157;refine(gT _).mono ?_;rintro e w2 ⟨rfl,rfl⟩)
     go_end0;exact ec.ok (dG B2 b3)
   ·unfold dI;go_wp2;exact⟨rfl,ec.no (dG B0 b2)⟩
  ·by_cases h14:fB S f=14
   ·rw[dA h16,dA h13,dB h14];rw[h14]at B0 KT KV QP k1 k2 k3 k4;rw[h14];clear QS QR;obtain⟨q,hq⟩:∃q,(decide (x.1=0)&&wT x.2.2)=q:=⟨_,rfl⟩;rw[hq]at QP⊢;clear hq;go_enter func239,ntmps239;go_wp2_with fail;generalize(w.alloc (ak #[aa 14,pv] 216)).alloc (ak #[.int .u64 x.1,ae x.2.1,.slice ma x.2.2.fs.length mc,ae x.2.2.unk] 55)=w1 at*;refine QP.mono ?_;intro e w2 hr
    rcases hr.part with⟨rfl,rfl,b2⟩|⟨rfl,y,z,rfl,b2⟩
    ·go_wp2;go_end0;exact ec.ok (dG B0 b2)
    ·unfold dI;go_wp2;exact⟨rfl,ec.no (dG B0 b2)⟩
   ·rw[dA h16,dA h13,dA h14];have e1:((fB S f:Int)==16)=false:=QF;have e2:((fB S f:Int)==13)=false:=QF;have e3:((fB S f:Int)==14)=false:=QF;clear QP QR;have hN:=λW=>Dw W (fB S f) x.1 QY h0
    generalize AJ (fB S f) x.1=ob at*;generalize fB S f=fb at*;obtain⟨q,hq⟩:∃q,(nQ x.2.1&&wT x.2.2)=q:=⟨_,rfl⟩;rw[hq]at QS⊢;go_enter func239,ntmps239;go_wp2_with fail;refine QS.mono ?_;intro e w2 hr;generalize(w.alloc (ak #[aa fb,pv] 216)).alloc (ak #[.int .u64 x.1,ae x.2.1,.slice ma x.2.2.fs.length mc,ae x.2.2.unk] 55)=w1 at*
    rcases hr.part with⟨rfl,rfl,b2⟩|⟨rfl,y,z,rfl,b2⟩
    ·have QU:=KT.below b2 KT.lt;have QT:=KV.below b2 KV.lt;clear k1 k2 k3 k4;obtain⟨k1,k2⟩:=QU.rules;obtain⟨k3,k4⟩:=QT.rules;go_wp2_with fail;refine(hN _).mono ?_;rintro e w3 ⟨rfl,rfl⟩
     cases ob
     ·go_wp2_with (go_at_call 157;refine(gJ _).mono ?_;rintro e w2 ⟨rfl,rfl⟩;unfold dI)
      exact⟨rfl,ec.no (dG B0 b2)⟩
     ·go_wp2_with (go_at_call 157;refine(gT _).mono ?_;rintro e w2 ⟨rfl,rfl⟩)
      go_end0;exact ec.ok (dG B0 b2)
    ·unfold dI;go_wp2;exact⟨rfl,ec.no (dG B0 b2)⟩
def LU (k:Nat)(l:List PV):Prop:=l.length<=1099511627776/\∀v∈l,0<=v.1/\v.1<18446744073709551616/\v.2.1.size<=1099511627776/\nR k v.2.2
def Ce {α:Type}{p:α->Bool}{l:List α}{i:Nat}{x:α}(hx:l[i]?=some x):(l.take (i+1)).all p=((l.take i).all p&&p x):=by
 rw[bB,hx];simp
def EA {α:Type}{p:α->Bool}{l:List α}{i:Nat}(h:(l.take i).all p=false):l.all p=false:=by
 rw[List.all_eq_false]at h⊢;obtain⟨y,h1,h2⟩:=h;exact⟨y,List.mem_of_mem_take h1,h2⟩
def EB {S:d8}{n k:Nat}{f:eP}{e:PV}(h:dN S n (eo f) e.2.2=true)(hO:nR k e.2.2):Cd e:=by
 intro hl
 cases n with
 |zero=>simp[dN]at h
 |succ n=>
  rw[dN,aJ]at h;have h1:=h.1
  cases hfs:e.2.2.fs with
  |nil=>rw[hfs]at hl;simp at hl
  |cons x rest=>
   rw[hfs,gw]at h1
   cases hf:dP (eo f).fs x.1 with
   |none=>rw[hf]at h1;simp at h1
   |some fl=>
    rw[hf]at h1;simp only[fk,og,aJ,cj]at h1;obtain⟨nn,vs⟩:=x
    cases vs with
    |nil=>simp at h1
    |cons ke r=>
     cases k with
     |zero=>exact hO.elim
     |succ k=>
      have:=(hO.2.2 (nn,ke::r) (by rw[hfs];exact aT)).2 ke aT;exact⟨nn,ke,r,rest,rfl,this.1,this.2.1⟩
def Ab {S:d8}{mp:am->Option Nat}{B n:Nat}(H:MQ S mp B n)(w:an)(Z:ap)(v:Value)(l:List PV)(d:MT)(f:eP)(g:GF)(fb:Nat)(deep k:Nat)(cx:rC w B S mp)(hf:eG w (λb=>b<B) mp g fb)(fg:FG S mp d f g)(hv:pi (iy k w Z) w Z v l)(hO:LU k l)(hd:n+1+deep=9):
  Calls prog 159 #[ag fb,v,aa deep] w (ec (fk S (dN S n) f l) w):=by
 obtain⟨a,c,rfl⟩:=hv.form;obtain⟨pv,rv,h1,_,QX,Rb⟩:=hf.blk;obtain⟨pq,rfl⟩:=gi Rb;obtain⟨ra,rc,rfl⟩:=iW QX.1;obtain⟨k1,k2⟩:=h1.rules;have Q5:=hO.1;go_enter func159,ntmps159;go_upto_region 0 with fail
 go_cut [6]from 9 to 20 (λx wx=>x= .bool (f.isRep||f.isMap)/\wx=w)
 case first=>
  rcases fg.form with q|q|q|q|q<;>rw[q]at k1
  all_goals
   go_wp2;go_meet
   case rel=>exact⟨by rw[fg.rep,fg.map,q];rfl,rfl⟩
 case rest=>
  obtain⟨rfl,rfl⟩:=hcut;obtain⟨mn,QY⟩:∃mn,(f.isRep||f.isMap)=mn:=⟨_,rfl⟩;have HH:Hid (og f l=((l.length==1)||(mn&&decide (1<l.length)))):=by rw[<-QY];rfl
  rw[QY];clear QY;go_upto_region 1 with fail
  go_cut []from 21 to 32 (λwx=>Hid (og f l=true)/\wx=wc)
  case first=>
   by_cases q1:l.length=1
   ·have e1:((l.length:Int)==1)=true:=QF;have e2:(l.length==1)=true:=by simpa using q1
    clear q1;go_wp2_with (go_at_call 157;refine(gT _).mono ?_;rintro e w2 ⟨rfl,rfl⟩)
    go_meet
    case rel=>exact⟨HH.out.trans (by rw[e2];rfl),rfl⟩
   ·have e1:((l.length:Int)==1)=false:=QF;have e2:(l.length==1)=false:=by simpa using q1
    cases mn
    ·go_wp2_with (go_at_call 157;refine(gJ _).mono ?_;rintro e w2 ⟨rfl,rfl⟩;unfold dI)
     exact⟨rfl,by rw[show fk S (dN S n) f l=false by unfold fk;rw[HH.out,e2];rfl];exact ec.no (Below.refl _ _)⟩
    ·by_cases q2:1<l.length
     ·have e3:decide (1<(l.length:Int))=true:=QF;go_wp2_with (go_at_call 157;refine(gT _).mono ?_;rintro e w2 ⟨rfl,rfl⟩)
      go_meet
      case rel=>exact⟨HH.out.trans (by rw[decide_eq_true q2];simp),rfl⟩
     ·have e3:decide (1<(l.length:Int))=false:=QF;go_wp2_with (go_at_call 157;refine(gJ _).mono ?_;rintro e w2 ⟨rfl,rfl⟩;unfold dI)
      exact⟨rfl,by rw[show fk S (dN S n) f l=false by unfold fk;rw[HH.out,e2,decide_eq_false q2];rfl];exact ec.no (Below.refl _ _)⟩
  case rest=>
   obtain⟨HW,rfl⟩:=hcut;obtain⟨Q,HQ⟩:∃Q,Hid (l.all (ek S (dN S n) f)=Q):=⟨_,rfl⟩;obtain⟨Rc,QZ,Q0⟩:=hv;have hfw:=h1.lt
   have HC:Hid (∀(W:an) (x:PV) (mv:Value),aj wc W->x∈l->iy k wc Z mv x.2.2->Calls prog 239 #[.agg #[aa (ee mp g),.pointer pq],fF x mv,aa deep] W (ec (ek S (dN S n) f x) W)):=λW x mv hW hx hm=>
    Aa H W Z mv x d f g fb (.pointer pq) deep k (cx.on (dQ hW cx.le)) (hf.keep λb _ q=>hW.block b q) fg (hm.below hW (ay _)) (hO.2 x hx).2.2.2 (hO.2 x hx).1 (hO.2 x hx).2.2.1 ⟨_,h1.below hW h1.lt⟩ hd
   clear k1 k2;go_upto_region 2 with fail
   go_wp2;go_loopw [8,35] (λ_ jv wr=>∃j:Nat,jv=aa j/\j<=l.length/\Hid ((l.take j).all (ek S (dN S n) f)=true)/\aj wc wr) (λ_ jv _=>l.length-(intOf jv).toNat)
   case atStart=>exact⟨0,rfl,aM _,rfl,Below.refl _ _⟩
   case round=>
    obtain⟨j,rfl,hj,HA,B⟩:=hrel
    by_cases hlt:j<l.length
    ·obtain⟨x,hx⟩:=gx hlt;obtain⟨mv,p1,p2,p3,p4,p5⟩:=Q0.get hx;obtain⟨ma,mc,rfl⟩:=p1.form;obtain⟨gv,rfl,Q1,QS,QP⟩:=QZ.at QD;have t0:=QP wr (B.block _ QS) _ _ p2;have t1:=lf (QP wr (B.block _ QS) _ _ p3);have t2:=lf (QP wr (B.block _ QS) _ _ p4);have t3:=lf (QP wr (B.block _ QS) _ _ p5);have hlj:(j:Int)<(l.length:Int):=QD;obtain⟨B1,K1⟩:=dR wr #[.int .u64 x.1,ae x.2.1,.slice ma x.2.2.fs.length mc,ae x.2.2.unk] 55;have B2:=dG B B1;have HX:=HC.out _ x _ B2.drew (aI hx) p1
     have HT:Hid ((l.take (j+1)).all (ek S (dN S n) f)=ek S (dN S n) f x):=by
      show(l.take (j+1)).all (ek S (dN S n) f)=_;rw[Ce hx,HA.out,cq]
     have h2:=h1.below B2 h1.lt;obtain⟨q,hq⟩:∃q,ek S (dN S n) f x=q:=⟨_,rfl⟩;rw[hq]at HX HT;unfold fF at HX;clear QP p2 p3 p4 p5 hx hq;go_upto_region 5 with fail
     generalize wr.alloc (ak #[.int .u64 x.1,ae x.2.1,.slice ma x.2.2.fs.length mc,ae x.2.2.unk] 55)=w1 at*;generalize wr.heap.size=vb at*
     have hW:w1.drew.cell? (ai fb 2)=some (aa (ee mp g))/\w1.drew.cell? (ai fb 3)=some (.pointer pq)/\w1.drew.cell? (ai vb 0)=some (.int .u64 x.1)/\w1.drew.cell? (ai vb 1)=some (ae x.2.1)/\w1.drew.cell? (ai vb 2)=some (.slice ma x.2.2.fs.length mc)/\w1.drew.cell? (ai vb 3)=some (ae x.2.2.unk):=
      ⟨h2.drew.cell 2,h2.drew.cell 3,K1.drew.cell 0,K1.drew.cell 1,K1.drew.cell 2,K1.drew.cell 3⟩
     go_region_held2 (λW=>W.cell? (ai fb 2)=some (aa (ee mp g))/\W.cell? (ai fb 3)=some (.pointer pq)/\W.cell? (ai vb 0)=some (.int .u64 x.1)/\W.cell? (ai vb 1)=some (ae x.2.1)/\W.cell? (ai vb 2)=some (.slice ma x.2.2.fs.length mc)/\W.cell? (ai vb 3)=some (ae x.2.2.unk))
      (first|exact hW|exact⟨h3.cell 2,h3.cell 3,K3.cell 0,K3.cell 1,K3.cell 2,K3.cell 3⟩)
      (first
       |(
         go_at_call 239;refine HX.mono ?_;intro e w3 hr
         rcases hr.part with⟨rfl,rfl,b3⟩|⟨rfl,y,z,rfl,b3⟩
         rotate_left
         ·have B4:=dG B2.drew b3;unfold dI;go_wp2;exact⟨rfl,by rw[show fk S (dN S n) f l=false by unfold fk;rw[EA HT.out,cr];rfl];exact ec.no B4⟩
         have h3:=h2.below (w:=w1.drew) b3 h2.lt
         have K3:=K1.below (w:=w1.drew) b3 K1.lt))
     have B4:=dG B2.drew b3;go_wp2;go_roundw
     case rel=>exact⟨j+1,by go_num,QD,HT.out,B4⟩
     case measure=>simp[intOf];omega
    ·obtain rfl:j=l.length:=QD
     have Q2:Hid (l.all (ek S (dN S n) f)=true):=by
      show l.all (ek S (dN S n) f)=true;have:=HA.out
      rwa [bg]at this
     have HF:Hid (fk S (dN S n) f l=jY S f l):=by
      show fk S (dN S n) f l=_;unfold fk;rw[HW.out,Q2.out];rfl
     have h2:=h1.below B h1.lt;have Q6:=hf.keep (w':=wr) (λb _ q=>B.block b q)
     have QT:0<l.length:=by
      cases l with
      |nil=>have:=HW.out;simp[og]at this
      |cons x r=>simp
     obtain⟨k1,k2⟩:=h2.rules
     by_cases h4:g.form=4
     ·have hm:f.isMap=true:=by rw[fg.map,h4];rfl
      have e4:(g.form==4)=true:=by simpa using h4
      have Q3:jY S f l=i8 (jD (S.base f.key)) none l:=by unfold jY;rw[dB hm]
      have QR:Hid (fk S (dN S n) f l=i8 (jD (S.base f.key)) none l):=HF.out.trans Q3;clear Q3 HF;have QV:=(fg.key h4).1;have Q7:S.base f.key<=16:=by rw[<-QV];exact sj mp _
      have Q4:=Ei wr _ mp g fb Q6 h4;rw[fg.eq,QV]at Q4
      cases k with
      |zero=>
       cases l with
       |nil=>simp at QT
       |cons x r=>exact(hO.2 x aT).2.2.2.elim
      |succ k=>
       have Q8:∀e∈l,Cd e:=λe he=>by
        have:=bO.1 Q2.out e he;unfold ek fB at this;rw[hm]at this;simp only[if_true,aJ]at this;unfold eR at this;rw[dB hm]at this;exact EB this.2 (hO.2 e he).2.2.2
       have HE:Hid (∀W,aj wc W->Calls prog 240 #[.slice a l.length c,.bool (jD (S.base f.key))] W (ec (i8 (jD (S.base f.key)) none l) W)):=λW hW=>
        yr W _ l _ (pi.below hW (ay _) ⟨Rc,QZ,Q0⟩) Q8 Q5
       have Q9:=λW pv=>nZ W (S.base f.key) pv Q7
       clear QV;generalize jD (S.base f.key)=sg at*;generalize S.base f.key=kb at*;generalize i8 sg none l=r at*;go_wp2_with fail;refine Q4.mono ?_;rintro e w2 ⟨Re,rfl,b2⟩;go_wp2_with fail;refine(Q9 w2 Re).mono ?_;rintro e w3 ⟨rfl,b3⟩;have B3:=dG B (dG b2 b3);go_wp2_with fail;refine(HE.out w3 B3).mono ?_;intro e w4 hr
       rcases hr.part with⟨rfl,rfl,b4⟩|⟨rfl,y,z,rfl,b4⟩
       ·go_wp2;go_end0;rw[QR.out];exact ec.ok (dG B3 b4)
       ·unfold dI;go_wp2;rw[QR.out];exact⟨rfl,ec.no (dG B3 b4)⟩
     ·have hm:f.isMap=false:=by rw[fg.map];simp[h4]
      have e4:(g.form==4)=false:=by simpa using h4
      have QQ:=fg.sin;have QU:=fg.gb
      by_cases h0:g.form=0/\fB S f≠16
      ·have e0:(g.form==0)=true:=by simpa using h0.1
       have e16:((ee mp g:Int) !=16)=true:=by rw[QU];simp;exact_mod_cast h0.2
       have Ra:gE f.how eS=true:=by rw[QQ,h0.1];rfl
       obtain⟨x,hx⟩:=gx QT
       have QR:Hid (fk S (dN S n) f l= !(decide (x.1=0)&&nQ x.2.1)):=by
        refine HF.out.trans ?_;unfold jY;rw[hm,dA QE,dB ⟨Ra,h0.2⟩]
        cases l with
        |nil=>simp at QT
        |cons y r=>simp at hx;rw[hx]
       obtain⟨mv,p1,p2,p3,p4,p5⟩:=Q0.get hx;obtain⟨ma,mc,rfl⟩:=p1.form;obtain⟨gv,rfl,Q1,QS,QP⟩:=QZ.at QD;have t0:=QP wr (B.block _ QS) _ _ p2;have t1:=lf (QP wr (B.block _ QS) _ _ p3);have t2:=lf (QP wr (B.block _ QS) _ _ p4);have t3:=lf (QP wr (B.block _ QS) _ _ p5);simp only[Nat.zero_mul,MN]at t0 t1 t2 t3;have QW:=yk wr x (.slice ma x.2.2.fs.length mc);unfold fF at QW;obtain⟨r,hr⟩:∃r,(!(decide (x.1=0)&&nQ x.2.1))=r:=⟨_,rfl⟩;rw[hr]at QW QR;clear hr hx HF QQ QU;have hl0:(0:Int)<(l.length:Int):=QD;go_wp2_with fail;refine QW.mono ?_;intro e w4 hr
       rcases hr.part with⟨rfl,rfl,b4⟩|⟨rfl,y,z,rfl,b4⟩
       ·go_wp2;go_end0;rw[QR.out];exact ec.ok (dG B b4)
       ·unfold dI;go_wp2;rw[QR.out];exact⟨rfl,ec.no (dG B b4)⟩
      ·have QR:Hid (fk S (dN S n) f l=true):=by
        refine HF.out.trans ?_;unfold jY;rw[hm,dA QE,dA (λq=>h0 ⟨by have:=QQ▸q.1;simpa using this,q.2⟩)]
       by_cases h00:g.form=0
       ·have e0:(g.form==0)=true:=by simpa using h00
        have e16:((ee mp g:Int) !=16)=false:=by rw[QU];simp;exact_mod_cast (Decidable.not_not.1 λq=>h0 ⟨h00,q⟩)
        clear HF QQ QU h0 h00;go_wp2;go_end0;rw[QR.out];exact ec.ok B
       ·have e0:(g.form==0)=false:=by simpa using h00
        clear HF QQ QU h0;go_wp2;go_end0;rw[QR.out];exact ec.ok B
end
section
variable {S:d8} {d:MT} {f:eP}
def vV {R:MT->PM->Bool}{x:PF}:∀{fs a:List PF},gw S R d a fs=true->x∈fs->∃f,dP d.fs x.1=some f/\fk S R f x.2=true
 | [],_,_,hx=>by simp at hx
 |y::l,a,h,hx=>by
  rw[gw,aJ]at h
  rcases aN.1 hx with rfl|hx
  ·grind
  ·exact vV h.2 hx
def vW {R:MT->PM->Bool}{l:List PV}{v:PV}(h:fk S R f l=true)(hv:v∈l):ek S R f v=true:=by
 unfold fk at h
 simp_all
def sO {R:MT->PM->Bool}{v:PV}{t:MT}(h:ek S R f v=true)(hb:fB S f=16)(ht:eR S f=some t):R t v.2.2=true:=by
 unfold ek at h
 simp_all
def Jq (d:MT):Prop:=∀n f,dP d.fs n=some f->0<=f.num/\f.num<=536870911
def Cf (S:d8):Prop:=∀t d,S.msg t=some d->Jq d
def sP {t:MT}(h:Cf S)(hs:eR S f=some t):Jq t:=by
 unfold eR at hs
 split at hs
 ·obtain rfl:=Option.some.inj hs;intro n g hg;obtain⟨_,hg⟩:=eT hg;simp[eo]at hg
  rcases hg with rfl|rfl<;>simp
 ·exact h _ _ hs
end
section
variable {α:Type} {g:α->List UInt8} {l:List α}
def uA {x:α}(h:x∈l):(g x).length<=(l.flatMap g).length:=by
 induction l with
 |nil=>grind
 |cons y l ih=>
  grind
def fD {i:Nat}{x:α}(h:l[i]?=some x):(l.take (i+1)).flatMap g=(l.take i).flatMap g++g x:=by
 rw[bB,h];simp
def io (i:Nat):((l.take i).flatMap g).length<=(l.flatMap g).length:=by
 conv=>rhs;rw[<-bX i l]
 grind
def rJ (t:List UInt8):(l.flatMap λv=>t++g v).length=t.length*l.length+(l.flatMap g).length:=by
 induction l with
 |nil=>simp
 |cons y l ih=>
  grind
end
def pQ (x:List UInt8):x.length<=(eX x).length:=by unfold eX;simp
def gK (x:List UInt8)(w:an)(e:Ending)(w':an):Prop:=e= .returned (aa x.length)/\aj w w'
section
attribute [local go_sem↓] Go.wp_at_zero Go.wp_at_succ
structure It (v:Value)(f:Nat)(cap:aq):Prop where
 eq:v= .func (.func f) #[] cap.toArray
 en:∀args w,(callFunc f args).run prog w= .ok (.enter f args) w
def Kp (Q:ap)(w W:an):Prop:=∀b,Q b->b<w.heap.size->W.heap[b]?=w.heap[b]?
def Kp.bx {Q:ap}{w W:an}(h:Kp Q w W){b:Nat}{cs:Array Value}{T:TypeId}(q:Q b)(hb:dK w b cs T):dK W b cs T:=(h b q hb.lt).trans hb
def Jr (p:PV->Bool)(n:Nat)(f:Nat)(cap:aq)(W:an):Prop:=
 ∀(W':an) (Z:ap) (x:PV) (mv:Value) (k deep:Nat),Below W.heap.size W W'->iy k W' Z mv x.2.2->nR k x.2.2->0<=x.1->x.1<18446744073709551616->x.2.1.size<=1099511627776->n+1+deep=9->
  Calls prog f (fF x mv::aa deep::cap).toArray W' (ec (p x) W')
def Ky (q:List PV->Bool)(n:Nat)(f:Nat)(cap:aq)(W:an):Prop:=
 ∀(W':an) (Z:ap) (vv:Value) (l:List PV) (k deep:Nat),Below W.heap.size W W'->pi (iy k W' Z) W' Z vv l->LU k l->n+1+deep=9->
  Calls prog f (vv::aa deep::cap).toArray W' (ec (q l) W')
def Fy (S:d8)(iq:aw)(n:Nat)(t:MT)(W:an):Prop:=
 ∀(W':an) (Z:ap) (v:Value) (m:PM) (k deep:Nat),Below W.heap.size W W'->iy k W' Z v m->nR k m->n+deep=9->
  Calls prog 103 #[.pointer iq,.agg #[v,ae m.unk],aa deep] W' (ec (dN S n t m) W')
def yt (w:an):Calls prog 157 #[.bool true] w λe w'=>e= .returned (.tuple #[])/\w=w':=(gT w).mono λ_ _ h=>⟨h.1,h.2.symm⟩
def yv (w:an):Calls prog 157 #[.bool false] w λe w'=>e=dI 12 0/\w=w':=(gJ w).mono λ_ _ h=>⟨h.1,h.2.symm⟩
section
variable {p:PV->Bool} {n:Nat} {W:an}
def Iu (vb vf:Nat)(vcap:aq)(hb:dK W vb #[.func (.func vf) #[] vcap.toArray] 398)(hen:∀args w,(callFunc vf args).run prog w= .ok (.enter vf args) w)(H:Jr p n vf vcap W):
  Ky (λl=>(l.length==1)&&l.all p) n 367 [ag vb] W:=by
 intro W' Z vv l k deep B hv hO hd;show Calls prog 367 #[vv,aa deep,ag vb] W' (ec ((l.length==1)&&l.all p) W');obtain⟨R,HR⟩:∃R,Hid (((l.length==1)&&l.all p)=R):=⟨_,rfl⟩;rw[HR.out];obtain⟨a,c,rfl⟩:=hv.form;have QQ:=hb.below B hb.lt
 by_cases h1:l.length=1
 ·have e1:((l.length:Int)==1)=true:=QF;obtain⟨x,rfl⟩:=List.length_eq_one_iff.1 h1;obtain⟨QU,QV,QW⟩:=hv;obtain⟨mv,p1,p2,p3,p4,p5⟩:=QW.get (i:=0) (v:=x) rfl;obtain⟨ma,mc,rfl⟩:=p1.form;obtain⟨gv,rfl,QX,QR,QP⟩:=QV.at QE;have t0:=QP W'.drew rfl _ _ p2;have t1:=lf (QP W'.drew rfl _ _ p3);have t2:=lf (QP W'.drew rfl _ _ p4);have t3:=lf (QP W'.drew rfl _ _ p5);simp only[Nat.zero_mul,MN]at t0 t1 t2 t3;have QS:=hO.2 x aT;have HX:=H W'.drew Z x _ k deep B.drew (p1.below (Below.refl _ _).drew (ay _)) QS.2.2.2 QS.1 QS.2.1 QS.2.2.1 hd;unfold fF at HX
  have HP:Hid (R=p x):=by
   show R=p x;rw[<-HR.out];simp
  generalize p x=r at*;have b0:Below W'.heap.size W' W'.drew:=(Below.refl _ _).drew;have hW:W'.drew.cell? (ai vb 0)=some (.func (.func vf) #[] vcap.toArray)/\W'.drew.cell? gv=some (.int .u64 x.1)/\W'.drew.cell? (ai gv.block (gv.off+1))=some (ae x.2.1)/\W'.drew.cell? (ai gv.block (gv.off+2))=some (.slice ma x.2.2.fs.length mc)/\W'.drew.cell? (ai gv.block (gv.off+3))=some (ae x.2.2.unk):=⟨QQ.drew.cell 0,t0,t1,t2,t3⟩;clear h1;go_enter func367,ntmps367;go_upto_region 1 with(go_at_call 157;refine(yt _).mono ?_;rintro e w2 ⟨rfl,rfl⟩)
  go_region_held2 (λW=>W.cell? (ai vb 0)=some (.func (.func vf) #[] vcap.toArray)/\W.cell? gv=some (.int .u64 x.1)/\W.cell? (ai gv.block (gv.off+1))=some (ae x.2.1)/\W.cell? (ai gv.block (gv.off+2))=some (.slice ma x.2.2.fs.length mc)/\W.cell? (ai gv.block (gv.off+3))=some (ae x.2.2.unk))
   (first|exact hW|exact Q0)
   (first
    |(
      refine HX.mono ?_;intro e w3 hr
      rcases hr.part with⟨rfl,rfl,b3⟩|⟨rfl,y,z,rfl,b3⟩
      rotate_left
      ·have b4:=dG b0 b3;unfold dI;go_wp2;rw[HP.out];exact⟨rfl,ec.no b4⟩
      have Q0:w3.cell? (ai vb 0)=some (.func (.func vf) #[] vcap.toArray)/\w3.cell? gv=some (.int .u64 x.1)/\w3.cell? (ai gv.block (gv.off+1))=some (ae x.2.1)/\w3.cell? (ai gv.block (gv.off+2))=some (.slice ma x.2.2.fs.length mc)/\w3.cell? (ai gv.block (gv.off+3))=some (ae x.2.2.unk):=⟨(QQ.drew.below b3 QQ.drew.lt).cell 0,(b3.cell (p:=gv) QR).trans t0,(b3.cell (p:=(ai gv.block (gv.off+1))) QR).trans t1,(b3.cell (p:=(ai gv.block (gv.off+2))) QR).trans t2,(b3.cell (p:=(ai gv.block (gv.off+3))) QR).trans t3⟩))
  go_wp2;go_end0;rw[HP.out];exact ec.ok (dG b0 b3)
 ·have e1:((l.length:Int)==1)=false:=QF
  have HP:Hid (R=false):=by
   show R=false;rw[<-HR.out];simp[h1]
  go_enter func367,ntmps367;go_wp2_with (go_at_call 157;refine(yv _).mono ?_;rintro e w2 ⟨rfl,rfl⟩;unfold dI)
  rw[HP.out];exact⟨rfl,ec.no (Below.refl _ _)⟩
def Iv (vb vf:Nat)(vcap:aq)(hb:dK W vb #[.func (.func vf) #[] vcap.toArray] 398)(hen:∀args w,(callFunc vf args).run prog w= .ok (.enter vf args) w)(H:Jr p n vf vcap W):
  Ky (λl=>decide (0<l.length)&&l.all p) n 366 [ag vb] W:=by
 intro W' Z vv l k deep B hv hO hd;show Calls prog 366 #[vv,aa deep,ag vb] W' (ec (decide (0<l.length)&&l.all p) W');obtain⟨R,HR⟩:∃R,Hid ((decide (0<l.length)&&l.all p)=R):=⟨_,rfl⟩;rw[HR.out];obtain⟨a,c,rfl⟩:=hv.form;have QQ:=hb.below B hb.lt;have hll:=hO.1
 by_cases h1:0<l.length
 ·have e1:decide (0<(l.length:Int))=true:=QF;obtain⟨QU,QV,QW⟩:=hv
  have HP:Hid (R=l.all p):=by
   show R=l.all p;rw[<-HR.out,decide_eq_true h1,cq]
  have HC:Hid (∀(W2:an) (x:PV) (mv:Value),Below W'.heap.size W' W2->x∈l->iy k W' Z mv x.2.2->Calls prog vf (fF x mv::aa deep::vcap).toArray W2 (ec (p x) W2)):=λW2 x mv h2 hx hm=>
   H W2 Z x mv k deep (dG B h2) (hm.below h2 (ay _)) (hO.2 x hx).2.2.2 (hO.2 x hx).1 (hO.2 x hx).2.1 (hO.2 x hx).2.2.1 hd
  go_enter func366,ntmps366;go_wp2_with (go_at_call 157;refine(yt _).mono ?_;rintro e w2 ⟨rfl,rfl⟩)
  go_loopw [6,13] (λ_ jv wr=>∃j:Nat,jv=aa j/\j<=l.length/\Hid ((l.take j).all p=true)/\Below W'.heap.size W' wr) (λ_ jv _=>l.length-(intOf jv).toNat)
  case atStart=>exact⟨0,rfl,aM _,rfl,Below.refl _ _⟩
  case round=>
   obtain⟨j,rfl,hj,HA,Bj⟩:=hrel
   by_cases hlt:j<l.length
   ·obtain⟨x,hx⟩:=gx hlt;obtain⟨mv,p1,p2,p3,p4,p5⟩:=QW.get hx;obtain⟨ma,mc,rfl⟩:=p1.form;obtain⟨gv,rfl,QX,QR,QP⟩:=QV.at QD;have t0:=QP wr (Bj.block _ QR) _ _ p2;have t1:=lf (QP wr (Bj.block _ QR) _ _ p3);have t2:=lf (QP wr (Bj.block _ QR) _ _ p4);have t3:=lf (QP wr (Bj.block _ QR) _ _ p5);have hlj:(j:Int)<(l.length:Int):=QD;obtain⟨B1,K1⟩:=dR wr #[.int .u64 x.1,ae x.2.1,.slice ma x.2.2.fs.length mc,ae x.2.2.unk] 55;have B2:=dG Bj B1;have HX:=HC.out _ x _ B2 (aI hx) p1;unfold fF at HX;have QT:=QQ.below B2 QQ.lt
    have HT:Hid ((l.take (j+1)).all p=p x):=by
     show(l.take (j+1)).all p=_;rw[Ce hx,HA.out,cq]
    generalize p x=r at*;obtain⟨k1,k2⟩:=K1.rules;obtain⟨k3,k4⟩:=QT.rules;clear QP p2 p3 p4 p5 hx;go_wp2_with fail;refine HX.mono ?_;intro e w3 hr
    rcases hr.part with⟨rfl,rfl,b3⟩|⟨rfl,y,z,rfl,b3⟩
    ·go_wp2;go_roundw
     case rel=>exact⟨j+1,by go_num,QD,HT.out,dG B2 b3⟩
     case measure=>simp[intOf];omega
    ·unfold dI;go_wp2;rw[HP.out,EA HT.out];exact⟨rfl,ec.no (dG B2 b3)⟩
   ·obtain rfl:j=l.length:=QD
    have Q1:Hid (l.all p=true):=by
     show l.all p=true;have:=HA.out
     rwa [bg]at this
    go_wp2;go_end0;rw[HP.out,Q1.out];exact ec.ok Bj
 ·have e1:decide (0<(l.length:Int))=false:=decide_eq_false QD
  have HP:Hid (R=false):=by
   show R=false;rw[<-HR.out,decide_eq_false h1,cl]
  go_enter func366,ntmps366;go_wp2_with (go_at_call 157;refine(yv _).mono ?_;rintro e w2 ⟨rfl,rfl⟩;unfold dI)
  rw[HP.out];exact⟨rfl,ec.no (Below.refl _ _)⟩
def Fz {q:List PV->Bool}(eb ef sb:Nat)(ecap:aq)(sg:Bool)(hb:dK W eb #[.func (.func ef) #[] ecap.toArray] 260)(hsb:dK W sb #[.bool sg] 4)(hen:∀args w,(callFunc ef args).run prog w= .ok (.enter ef args) w)(H:Ky q n ef ecap W)
  (hq:∀l k,LU k l->q l=true->∀e∈l,Cd e):
  Ky (λl=>q l&&i8 sg none l) n 365 [ag eb,ag sb] W:=by
 intro W' Z vv l k deep B hv hO hd;show Calls prog 365 #[vv,aa deep,ag eb,ag sb] W' (ec (q l&&i8 sg none l) W');obtain⟨a,c,rfl⟩:=hv.form;have QQ:=hb.below B hb.lt;have QZ:=hsb.below B hsb.lt
 have Q2:∀W2,Below W'.heap.size W' W2->pi (iy (k-1+1) W2 Z) W2 Z (.slice a l.length c) l:=λW2 h2=>by
  have:=pi.below h2 (ay _) hv
  cases k with
  |zero=>
   obtain⟨QU,q1,q2⟩:=this;refine⟨QU,q1,?_⟩
   cases l with
   |nil=>exact q2
   |cons x r=>exact(hO.2 x aT).2.2.2.elim
  |succ k=>exact this
 have HE:Hid (q l=true->∀W2,Below W'.heap.size W' W2->Calls prog 240 #[.slice a l.length c,.bool sg] W2 (ec (i8 sg none l) W2)):=λhl W2 h2=>
  yr W2 _ l sg (Q2 W2 h2) (hq l k hO hl) hO.1
 have HX:=H W' Z _ l k deep B hv hO hd;generalize q l=ql at*;generalize i8 sg none l=r at*;obtain⟨k1,k2⟩:=QQ.rules;go_enter func365,ntmps365;go_wp2_with fail;refine HX.mono ?_;intro e w2 hr
 rcases hr.part with⟨rfl,rfl,b2⟩|⟨rfl,y,z,rfl,b2⟩
 ·have Q3:=QZ.below b2 QZ.lt;clear k1 k2;obtain⟨k1,k2⟩:=Q3.rules;go_wp2_with fail;refine(HE.out trivial w2 b2).mono ?_;intro e w3 QY
  rcases QY.part with⟨rfl,rfl,b3⟩|⟨rfl,y,z,rfl,b3⟩
  ·go_wp2;go_end0;exact ec.ok (dG b2 b3)
  ·unfold dI;go_wp2;exact⟨rfl,ec.no (dG b2 b3)⟩
 ·unfold dI;go_wp2;exact⟨rfl,ec.no b2⟩
def FA (vb vf:Nat)(vcap:aq)(hb:dK W vb #[.func (.func vf) #[] vcap.toArray] 398)(hen:∀args w,(callFunc vf args).run prog w= .ok (.enter vf args) w)(H:Jr p n vf vcap W):
  Jr (λx=> !(decide (x.1=0)&&nQ x.2.1)&&p x) n 288 [ag vb] W:=by
 intro W' Z x mv k deep B hm hO h0 h1 h2 hd;show Calls prog 288 #[fF x mv,aa deep,ag vb] W' (ec (!(decide (x.1=0)&&nQ x.2.1)&&p x) W');obtain⟨ma,mc,rfl⟩:=hm.form;have QQ:=hb.below B hb.lt;obtain⟨B1,K1⟩:=dR W' #[.int .u64 x.1,ae x.2.1,.slice ma x.2.2.fs.length mc,ae x.2.2.unk] 55;have HN:=yk (W'.alloc (ak #[.int .u64 x.1,ae x.2.1,.slice ma x.2.2.fs.length mc,ae x.2.2.unk] 55)) x (.slice ma x.2.2.fs.length mc);have HX:Hid (∀W2,Below W'.heap.size W' W2->Calls prog vf (fF x (.slice ma x.2.2.fs.length mc)::aa deep::vcap).toArray W2 (ec (p x) W2)):=λW2 h3=>H W2 Z x _ k deep (dG B h3) (hm.below h3 (ay _)) hO h0 h1 h2 hd
 unfold fF at*;generalize p x=r at*;generalize(!(decide (x.1=0)&&nQ x.2.1))=s at*;obtain⟨k1,k2⟩:=K1.rules;go_enter func288,ntmps288;go_wp2_with fail;refine HN.mono ?_;intro e w2 hr;generalize W'.alloc (ak #[.int .u64 x.1,ae x.2.1,.slice ma x.2.2.fs.length mc,ae x.2.2.unk] 55)=w1 at*
 rcases hr.part with⟨rfl,rfl,b2⟩|⟨rfl,y,z,rfl,b2⟩
 ·have B2:=dG B1 b2;have QT:=QQ.below B2 QQ.lt;have K2:=K1.below b2 K1.lt;clear k1 k2;obtain⟨k1,k2⟩:=K2.rules;obtain⟨k3,k4⟩:=QT.rules;go_wp2_with fail;refine(HX.out w2 B2).mono ?_;intro e w3 QY
  rcases QY.part with⟨rfl,rfl,b3⟩|⟨rfl,y,z,rfl,b3⟩
  ·go_wp2;go_end0;exact ec.ok (dG B2 b3)
  ·unfold dI;go_wp2;exact⟨rfl,ec.no (dG B2 b3)⟩
 ·unfold dI;go_wp2;exact⟨rfl,ec.no (dG B1 b2)⟩
end
end
section
variable {w w':an} {Q Q':ap}
attribute [local go_sem↓] Go.wp_at_zero Go.wp_at_succ
theorem MR (r:Bool)(w:an):Calls prog 157 #[.bool r] w (ec r w):=by
 cases r
 ·exact(yv w).mono λ_ _ h=>by obtain⟨rfl,rfl⟩:=h;exact ec.no (Below.refl _ _)
 ·exact(yt w).mono λ_ _ h=>by obtain⟨rfl,rfl⟩:=h;exact ec.ok (Below.refl _ _)
section
variable {S:d8} {fl:eP} {n:Nat} {W:an}
theorem Pb (ib:Nat)(iq:aw)(t:MT)(hb:dK W ib #[.pointer iq] 116)(H:Fy S iq n t W)(h16:fB S fl=16)(hsub:eR S fl=some t):
  Jr (ek S (dN S n) fl) n 360 [ag ib] W:=by
 intro W' Z x mv k deep B hm hO h0 h1 h2 hd;show Calls prog 360 #[fF x mv,aa deep,ag ib] W' (ec (ek S (dN S n) fl x) W');have hp:ek S (dN S n) fl x=((decide (x.1=0)&&nQ x.2.1)&&dN S n t x.2.2):=by unfold ek;rw[dB h16,hsub]
 rw[hp];obtain⟨ma,mc,rfl⟩:=hm.form;have QP:=hb.below B hb.lt;obtain⟨B1,K1⟩:=dR W' #[.int .u64 x.1,ae x.2.1,.slice ma x.2.2.fs.length mc,ae x.2.2.unk] 55;have HN:=LT (W'.alloc (ak #[.int .u64 x.1,ae x.2.1,.slice ma x.2.2.fs.length mc,ae x.2.2.unk] 55)) x (.slice ma x.2.2.fs.length mc)
 have HX:Hid (∀W2,Below W'.heap.size W' W2->Calls prog 103 #[.pointer iq,.agg #[.slice ma x.2.2.fs.length mc,ae x.2.2.unk],aa ((deep:Int)+1)] W2 (ec (dN S n t x.2.2) W2)):=λW2 h3=>by
  have:=H W2 Z _ x.2.2 k (deep+1) (dG B h3) (hm.below h3 (ay _)) hO QD
  rwa [show(((deep+1:Nat):Int))=(deep:Int)+1 by omega]at this
 have hd9:(deep:Int)<=9:=QD;unfold fF at*;clear hp;generalize dN S n t x.2.2=r at*;generalize(decide (x.1=0)&&nQ x.2.1)=s at*;obtain⟨k1,k2⟩:=K1.rules;go_enter func360,ntmps360;go_wp2_with fail;refine HN.mono ?_;intro e w2 hr;generalize W'.alloc (ak #[.int .u64 x.1,ae x.2.1,.slice ma x.2.2.fs.length mc,ae x.2.2.unk] 55)=w1 at*
 rcases hr.part with⟨rfl,rfl,b2⟩|⟨rfl,y,z,rfl,b2⟩
 ·have B2:=dG B1 b2;have QQ:=QP.below B2 QP.lt;have K2:=K1.below b2 K1.lt;clear k1 k2;obtain⟨k1,k2⟩:=K2.rules;obtain⟨k3,k4⟩:=QQ.rules;go_wp2_with fail;refine(HX.out w2 B2).mono ?_;intro e w3 QR
  rcases QR.part with⟨rfl,rfl,b3⟩|⟨rfl,y,z,rfl,b3⟩
  ·go_wp2;go_end0;exact ec.ok (dG B2 b3)
  ·unfold dI;go_wp2;exact⟨rfl,ec.no (dG B2 b3)⟩
 ·unfold dI;go_wp2;exact⟨rfl,ec.no (dG B1 b2)⟩
theorem Pc (hu:∀W',Below W.heap.size W W'->UOK W')(h13:fB S fl=13):Jr (ek S (dN S n) fl) n 361 [] W:=by
 intro W' Z x mv k deep B hm hO h0 h1 h2 hd;show Calls prog 361 #[fF x mv,aa deep] W' (ec (ek S (dN S n) fl x) W');have hp:ek S (dN S n) fl x=((decide (x.1=0)&&wT x.2.2)&&Lib.validD x.2.1.data.toList):=by unfold ek;rw[h13];rfl
 rw[hp];obtain⟨ma,mc,rfl⟩:=hm.form;obtain⟨B1,K1⟩:=dR W' #[.int .u64 x.1,ae x.2.1,.slice ma x.2.2.fs.length mc,ae x.2.2.unk] 55;have HN:=Dv (W'.alloc (ak #[.int .u64 x.1,ae x.2.1,.slice ma x.2.2.fs.length mc,ae x.2.2.unk] 55)) x ma mc;have HV:Hid (∀W2,Below W'.heap.size W' W2->Calls prog 325 #[ae x.2.1] W2 λe w'=>e= .returned (.bool (Lib.validD x.2.1.data.toList))/\Below W2.heap.size W2 w'):=λW2 h3=>zp W2 x.2.1 QD (hu W2 (dG B h3))
 unfold fF at*;clear hp;generalize Lib.validD x.2.1.data.toList=r at*;generalize(decide (x.1=0)&&wT x.2.2)=s at*;obtain⟨k1,k2⟩:=K1.rules;go_enter func361,ntmps361;go_wp2_with fail;refine HN.mono ?_;intro e w2 hr;generalize W'.alloc (ak #[.int .u64 x.1,ae x.2.1,.slice ma x.2.2.fs.length mc,ae x.2.2.unk] 55)=w1 at*
 rcases hr.part with⟨rfl,rfl,b2⟩|⟨rfl,y,z,rfl,b2⟩
 ·have B2:=dG B1 b2;have K2:=K1.below b2 K1.lt;clear k1 k2;obtain⟨k1,k2⟩:=K2.rules;go_wp2_with fail;refine(HV.out w2 B2).mono ?_;rintro e w3 ⟨rfl,b3⟩
  cases r
  ·go_wp2_with (go_at_call 157;refine(yv _).mono ?_;rintro e w2 ⟨rfl,rfl⟩;unfold dI)
   exact⟨rfl,ec.no (dG B2 b3)⟩
  ·go_wp2_with (go_at_call 157;refine(yt _).mono ?_;rintro e w2 ⟨rfl,rfl⟩)
   go_end0;exact ec.ok (dG B2 b3)
 ·unfold dI;go_wp2;exact⟨rfl,ec.no (dG B1 b2)⟩
theorem Pd (h14:fB S fl=14):Jr (ek S (dN S n) fl) n 362 [] W:=by
 intro W' Z x mv k deep B hm hO h0 h1 h2 hd;show Calls prog 362 #[fF x mv,aa deep] W' (ec (ek S (dN S n) fl x) W');have hp:ek S (dN S n) fl x=(decide (x.1=0)&&wT x.2.2):=by unfold ek;rw[h14];rfl
 rw[hp];obtain⟨ma,mc,rfl⟩:=hm.form;obtain⟨B1,K1⟩:=dR W' #[.int .u64 x.1,ae x.2.1,.slice ma x.2.2.fs.length mc,ae x.2.2.unk] 55;have HN:=Dv (W'.alloc (ak #[.int .u64 x.1,ae x.2.1,.slice ma x.2.2.fs.length mc,ae x.2.2.unk] 55)) x ma mc;unfold fF at*;clear hp;generalize(decide (x.1=0)&&wT x.2.2)=s at*;obtain⟨k1,k2⟩:=K1.rules;go_enter func362,ntmps362;go_wp2_with fail;refine HN.mono ?_;intro e w2 hr
 rcases hr.part with⟨rfl,rfl,b2⟩|⟨rfl,y,z,rfl,b2⟩
 ·go_wp2;go_end0;exact ec.ok (dG B1 b2)
 ·unfold dI;go_wp2;exact⟨rfl,ec.no (dG B1 b2)⟩
theorem Pe (cb cf:Nat)(cut:Int->Int)(hb:dK W cb #[.func (.func cf) #[] #[]] 423)(hen:∀args w,(callFunc cf args).run prog w= .ok (.enter cf args) w)(hc:∀(W:an) (x:Int),0<=x->x<18446744073709551616->Calls prog cf #[.int .u64 x] W λe w'=>e= .returned (.int .u64 (cut x))/\W=w')
  (he:∀x,(cut x==x)=AJ (fB S fl) x) (h16:fB S fl≠16) (h13:fB S fl≠13) (h14:fB S fl≠14):Jr (ek S (dN S n) fl) n 364 [ag cb] W:=by
 intro W' Z x mv k deep B hm hO h0 h1 h2 hd;show Calls prog 364 #[fF x mv,aa deep,ag cb] W' (ec (ek S (dN S n) fl x) W');have hp:ek S (dN S n) fl x=((nQ x.2.1&&wT x.2.2)&&AJ (fB S fl) x.1):=by unfold ek;rw[dA h16,dA h13,dA h14]
 rw[hp];obtain⟨ma,mc,rfl⟩:=hm.form;have QP:=hb.below B hb.lt;obtain⟨B1,K1⟩:=dR W' #[.int .u64 x.1,ae x.2.1,.slice ma x.2.2.fs.length mc,ae x.2.2.unk] 55;have HN:=Cb (W'.alloc (ak #[.int .u64 x.1,ae x.2.1,.slice ma x.2.2.fs.length mc,ae x.2.2.unk] 55)) x ma mc;have HC:=λW=>hc W x.1 h0 h1
 have hx:=he x.1;unfold fF at*;clear hp hc he;generalize AJ (fB S fl) x.1=r at*;generalize cut x.1=cx at*;generalize(nQ x.2.1&&wT x.2.2)=s at*;obtain⟨k1,k2⟩:=K1.rules;go_enter func364,ntmps364;go_wp2_with fail;refine HN.mono ?_;intro e w2 hr;generalize W'.alloc (ak #[.int .u64 x.1,ae x.2.1,.slice ma x.2.2.fs.length mc,ae x.2.2.unk] 55)=w1 at*
 rcases hr.part with⟨rfl,rfl,b2⟩|⟨rfl,y,z,rfl,b2⟩
 ·have B2:=dG B1 b2;have QQ:=QP.below B2 QP.lt;have K2:=K1.below b2 K1.lt;have b0:aj w2 w2.drew:=(Below.refl _ _).drew;have B3:=dG B2 b0;clear k1 k2;have hW:w2.drew.cell? (ai cb 0)=some (.func (.func cf) #[] #[])/\w2.drew.cell? (ai W'.heap.size 0)=some (.int .u64 x.1):=⟨QQ.drew.cell 0,K2.drew.cell 0⟩;have QS:=HC w2.drew;go_upto_region 2 with fail
  go_region_held2 (λW=>W.cell? (ai cb 0)=some (.func (.func cf) #[] #[])/\W.cell? (ai W'.heap.size 0)=some (.int .u64 x.1))
   (first|exact QT|exact hW)
   (first
    |(
      go_at_call 157;refine(MR r _).mono ?_;intro e w3 QR
      rcases QR.part with⟨rfl,rfl,b3⟩|⟨rfl,y,z,rfl,b3⟩
      rotate_left
      ·have B4:=dG B3 b3;unfold dI;go_wp2;exact⟨rfl,ec.no B4⟩
      have QT:w3.cell? (ai cb 0)=some (.func (.func cf) #[] #[])/\w3.cell? (ai W'.heap.size 0)=some (.int .u64 x.1):=⟨(QQ.drew.below b3 QQ.drew.lt).cell 0,(K2.drew.below b3 K2.drew.lt).cell 0⟩)
    |(
      refine QS.mono ?_
      rintro e w3 ⟨rfl,rfl⟩))
  all_goals
   go_wp2;go_end0;exact ec.ok (dG B3 b3)
 ·unfold dI;go_wp2;exact⟨rfl,ec.no (dG B1 b2)⟩
end
def Om (w:an)(Q:ap)(b:Nat)(iq:aw)(v:Value):Prop:=
 ∃f cap,It v f cap/\∀(S:d8) (fl:eP) (n:Nat) (W:an),Kp Q w W->fB S fl=b->(∀W',Below W.heap.size W W'->UOK W')->(fB S fl=16->∃t,eR S fl=some t/\Fy S iq n t W)->Jr (ek S (dN S n) fl) n f cap W
def FB (w:an)(Q:ap)(mp:am->Option Nat)(g:GF)(iq:aw)(v:Value):Prop:=
 ∃f cap,It v f cap/\∀(S:d8) (d:MT) (fl:eP) (n:Nat) (W:an),Kp Q w W->FG S mp d fl g->(∀W',Below W.heap.size W W'->UOK W')->(fB S fl=16->∃t,eR S fl=some t/\Fy S iq n t W)->Ky (fk S (dN S n) fl) n f cap W
def Mv (w:an)(Q:ap)(w':an)(Q':ap):Prop:=∀b,Q b->b<w.heap.size->Q' b/\w'.heap[b]?=w.heap[b]?
theorem Mv.keep (hk:∀b,Q b->b<w.heap.size->w'.heap[b]?=w.heap[b]?):Mv w Q w' Q:=λb q l=>⟨q,hk b q l⟩
theorem Mv.mono (hk:∀b,Q b->b<w.heap.size->Q' b):Mv w Q w Q':=λb q l=>⟨hk b q l,rfl⟩
theorem Mv.lt (h:Mv w Q w' Q'){b:Nat}(q:Q b)(l:b<w.heap.size):b<w'.heap.size:=by
 have:=(h b q l).2;rw[bz l]at this;exact(bu.1 this).1
theorem Kp.mv {W:an}(hk:Kp Q' w' W)(h:Mv w Q w' Q'):Kp Q w W:=λb q l=>(hk b (h b q l).1 (h.lt q l)).trans (h b q l).2
theorem FB.move {mp:am->Option Nat}{g:GF}{iq:aw}{v:Value}(hk:Mv w Q w' Q')(h:FB w Q mp g iq v):FB w' Q' mp g iq v:=by
 obtain⟨f,cap,h1,h2⟩:=h;exact⟨f,cap,h1,λS d fl n W q=>h2 S d fl n W (q.mv hk)⟩
end
section
variable {S:d8} {mp:am->Option Nat}
attribute [local go_sem↓] Go.wp_at_zero Go.wp_at_succ
theorem uB {v:Int}(h0:0<=v)(h1:v<18446744073709551616):0<=zZ v/\zZ v<18446744073709551616:=by
 unfold zZ
 split<;>omega
def Kz (S:d8)(mp:am->Option Nat)(B n:Nat):Prop:=
 ∀(w:an) (Z:ap) (v:Value) (m:PM) (d:MT) (mb:Nat) (gs:List GF) (nm:am) (k:Nat),rC w B S mp->iF w (λb=>b<B) mp mb nm gs->kc S mp d gs->Jq d->iy k w Z v m->nR k m->dN S n d m=true->(d9 S n d m).length<=140737488355328->
  Calls prog 102 #[ag mb,.agg #[v,ae m.unk]] w (gK (d9 S n d m) w)
theorem KG {B n:Nat}(H:Kz S mp B n)(hN:Cf S)(w:an)(Z:ap)(mv:Value)(x:PV)(d:MT)(f:eP)(g:GF)(fb:Nat)(pv:Value)(k:Nat)(cx:rC w B S mp)(hf:eG w (λb=>b<B) mp g fb)(fg:FG S mp d f g)(hM:iy k w Z mv x.2.2)(hO:nR k x.2.2)(h0:0<=x.1)(h1:x.1<18446744073709551616)
  (hpv:∃rv,dK w fb #[aa g.f.num,aa g.form,aa (ee mp g),pv,rv] 220) (hs:ek S (dN S n) f x=true) (hl:(fP S (d9 S n) f x).length<=140737488355328):
  Calls prog 317 #[.agg #[aa (ee mp g),pv],fF x mv] w (gK (fP S (d9 S n) f x) w):=by
 obtain⟨ma,mc,rfl⟩:=hM.form;have QX:=Ir fg;unfold fF;rw[fg.gb]
 by_cases h16:fB S f=16
 ·obtain⟨t,mb,gs,nm,rv,QQ,QT,QY,QZ⟩:=Dz cx hf fg h16;obtain⟨rv2,QU⟩:=hpv
  obtain rfl:pv=ag mb:=by
   have:=(dK.cell QT 3).symm.trans (dK.cell QU 3);simpa using this.symm
  have hb:fP S (d9 S n) f x=eX (d9 S n t x.2.2):=by unfold fP;rw[dB h16,QQ]
  have hR:=sO hs h16 QQ;rw[hb]at hl;have QR:=aH (pQ _) hl;rw[hb,h16];obtain⟨B0,KT,KV⟩:=fK w #[aa 16,ag mb] #[.int .u64 x.1,ae x.2.1,.slice ma x.2.2.fs.length mc,ae x.2.2.unk] 216 55;have HC:=H _ Z _ x.2.2 t mb gs nm k (cx.on (dQ B0 cx.le)) (QY.keep λb q _=>B0.block b (by have:=cx.le;omega)) QZ (sP hN QQ) (hM.below B0 (ay _)) hO hR QR;have HL:=λW=>sN W (d9 S n t x.2.2) QR
  unfold gK;generalize d9 S n t x.2.2=y at*;obtain⟨k1,k2⟩:=KT.rules;obtain⟨k3,k4⟩:=KV.rules;clear QT QU H;go_enter func317,ntmps317;go_wp2_with fail;refine HC.mono ?_;rintro e w2 ⟨rfl,b2⟩;go_wp2_with fail;refine(HL w2).mono ?_;rintro e w3 ⟨rfl,rfl⟩;go_wp2;go_ret;exact⟨rfl,dG B0 b2⟩
 ·obtain⟨QV,QW⟩:=uB h0 h1;have HL:=λW=>sN W x.2.1.data.toList
  rw[show x.2.1.data.toList.length=x.2.1.size by simp]at HL;have HV:=λW=>nI W x.1 h0 h1
  have HZ:=λW=>rH W x.1 h0 h1
  have HY:=λW=>nI W (zZ x.1) QV QW
  obtain⟨B0,KT,KV⟩:=fK w #[aa (fB S f),pv] #[.int .u64 x.1,ae x.2.1,.slice ma x.2.2.fs.length mc,ae x.2.2.unk] 216 55;clear hs H hpv QV QW;unfold gK
  rcases yn QX with q|q|q|q|q|q|q|q|q|q|q|q|q|q|q|q|q
  case inr.inr.inr.inr.inr.inr.inr.inr.inr.inr.inr.inr.inr.inr.inr.inr=>exact absurd q h16
  all_goals
   rw[q]at B0 KT KV;obtain⟨k1,k2⟩:=KT.rules;obtain⟨k3,k4⟩:=KV.rules;clear h16;unfold fP at hl⊢;simp only[q,Nat.reduceEqDiff,if_false,if_true,or_self,or_true,or_false]at hl⊢
   try rw[gY]
   try (have QR:x.2.1.size<=140737488355328:=(show x.2.1.size=x.2.1.data.toList.length by simp)▸aH (pQ _) hl)
   clear hl;go_enter func317,ntmps317;go_wp2_with (first|(go_at_call 243;refine(HL _ QR).mono ?_;rintro e w2 ⟨rfl,rfl⟩)|(go_at_call 321;refine(HZ _).mono ?_;rintro e w2 ⟨rfl,rfl⟩)|(go_at_call 328;(first|refine(HV _).mono ?_|refine(HY _).mono ?_);rintro e w2 ⟨rfl,rfl⟩))
   go_ret;exact⟨rfl,B0⟩
theorem Cg {B n:Nat}(H:Kz S mp B n)(hN:Cf S)(w:an)(Z:ap)(v:Value)(l:List PV)(d:MT)(f:eP)(g:GF)(fb:Nat)(pv:Value)(k:Nat)(cx:rC w B S mp)(hf:eG w (λb=>b<B) mp g fb)(fg:FG S mp d f g)(hv:pi (iy k w Z) w Z v l)(hO:LU k l)
  (hpv:∃rv,dK w fb #[aa g.f.num,aa g.form,aa (ee mp g),pv,rv] 220) (hs:∀x∈l,ek S (dN S n) f x=true) (hl:(mo S (d9 S n) f l).length<=140737488355328):
  Calls prog 233 #[.agg #[aa (ee mp g),pv],v] w (gK (mo S (d9 S n) f l) w):=by
 obtain⟨a,c,rfl⟩:=hv.form;obtain⟨vcs,Q0,Q1⟩:=hv;have hll:=hO.1;obtain⟨B0,K0⟩:=dR w #[aa (ee mp g),pv] 216
 have HC:Hid (∀(W:an) (x:PV) (mv:Value),aj w W->x∈l->iy k w Z mv x.2.2->Calls prog 317 #[.agg #[aa (ee mp g),pv],fF x mv] W (gK (fP S (d9 S n) f x) W)):=λW x mv hW hx hm=>
  KG H hN W Z mv x d f g fb pv k (cx.on (dQ hW cx.le)) (hf.keep λb _ q=>hW.block b q) fg (hm.below hW (ay _)) (hO.2 x hx).2.2.2 (hO.2 x hx).1 (hO.2 x hx).2.1 (hpv.imp λ_ q=>q.below hW q.lt) (hs x hx) (aH (uA hx) hl)
 have HT:Hid (∀i,((l.take i).flatMap (fP S (d9 S n) f)).length<=140737488355328):=λi=>aH (io i) hl
 unfold mo at*;generalize fP S (d9 S n) f=bv at*;generalize ee mp g=gb at*;clear hl hs hpv hO hf fg cx;go_enter func233,ntmps233;go_wp2;generalize w.alloc (ak #[aa gb,pv] 216)=w1 at*;go_loopw [5,7,10] (λsv _ jv wr=>∃j:Nat,jv=aa j/\j<=l.length/\sv=aa ((l.take j).flatMap bv).length/\aj w1 wr) (λ_ _ jv _=>l.length-(intOf jv).toNat)
 case atStart=>exact⟨0,rfl,aM _,rfl,Below.refl _ _⟩
 case round=>
  obtain⟨j,rfl,hj,rfl,Bw⟩:=hrel;have BW:=dG B0 Bw
  by_cases hlt:j<l.length
  ·obtain⟨x,hx⟩:=gx hlt;obtain⟨mv,p1,p2,p3,p4,p5⟩:=Q1.get hx;obtain⟨ma,mc,rfl⟩:=p1.form;obtain⟨gv,rfl,hzgv,QS,QP⟩:=Q0.at QD;have t0:=QP wr (BW.block _ QS) _ _ p2;have t1:=lf (QP wr (BW.block _ QS) _ _ p3);have t2:=lf (QP wr (BW.block _ QS) _ _ p4);have t3:=lf (QP wr (BW.block _ QS) _ _ p5);have hlj:(j:Int)<(l.length:Int):=QD;obtain⟨B1,K1⟩:=dR wr #[.int .u64 x.1,ae x.2.1,.slice ma x.2.2.fs.length mc,ae x.2.2.unk] 55;have HX:=HC.out _ x _ (dG BW B1) (aI hx) p1;unfold fF at HX;have KT:=K0.below (dG Bw B1) K0.lt;have hT:=HT.out (j+1);rw[fD hx,aG]at hT
   have HS:Hid (((l.take (j+1)).flatMap bv).length=((l.take j).flatMap bv).length+(bv x).length):=by
    show((l.take (j+1)).flatMap bv).length=_;rw[fD hx,aG]
   generalize((l.take j).flatMap bv).length=sz at*;obtain⟨k1,k2⟩:=KT.rules;obtain⟨k3,k4⟩:=K1.rules;clear QP p2 p3 p4 p5 hx;go_wp2_with fail;refine HX.mono ?_;rintro e w3 ⟨rfl,b3⟩;generalize(bv x).length=yz at*;have hsum:(sz:Int)+(yz:Int)<=140737488355328:=QD;go_wp2;go_roundw
   case rel=>exact⟨j+1,by go_num,QD,by rw[HS.out];go_num,dG (dG Bw B1) b3⟩
   case measure=>simp[intOf];omega
  ·obtain rfl:j=l.length:=QD;rw[bg];go_wp2;go_ret;exact⟨rfl,BW⟩
end
end Go.Proofs.YtfebdimolnobaaaGreatDoor
