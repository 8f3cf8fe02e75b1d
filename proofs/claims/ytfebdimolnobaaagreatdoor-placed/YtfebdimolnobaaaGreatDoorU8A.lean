import Derived.Test.YtfebdimolnobaaaGreatDoorBuL
import Derived.Lib.ValidLaws
import Derived.Laws.Bits64
set_option maxRecDepth 100000
set_option maxHeartbeats 8000000
set_option linter.all false
namespace Go.Proofs.YtfebdimolnobaaaGreatDoor
open Go.RowKit
section
open Go.Lib
theorem pV (s:am)(k:Nat):eB s k=((s.data.toList.getD k 0).toNat:Int):=by
 have hz:s.data.size=s.size:=rfl;unfold eB
 by_cases h:k<s.size
 ·rw[dif_pos h,bK,bi,bo (show k<s.data.size from h)];rfl
 ·rw[dif_neg h,bK,bi,bX (by omega)];rfl
def pi (n:Nat)(b0 b1 b2 b3:Int):Option Nat:=
 if 240<=b0 then
  (if n<4 then none else if b1<128\/191<b1 then none else if b2<128\/191<b2 then none else if b3<128\/191<b3 then none else
   if 64*(64*(64*(b0-240)+b1-128)+b2-128)+b3-128<65536\/1114111<64*(64*(64*(b0-240)+b1-128)+b2-128)+b3-128\/(55296<=64*(64*(64*(b0-240)+b1-128)+b2-128)+b3-128/\64*(64*(64*(b0-240)+b1-128)+b2-128)+b3-128<=57343)then none else some 4)
 else if 224<=b0 then
  (if n<3 then none else if b1<128\/191<b1 then none else if b2<128\/191<b2 then none else
   if 64*(64*(b0-224)+b1-128)+b2-128<2048\/1114111<64*(64*(b0-224)+b1-128)+b2-128\/(55296<=64*(64*(b0-224)+b1-128)+b2-128/\64*(64*(b0-224)+b1-128)+b2-128<=57343)then none else some 3)
 else if 192<=b0 then
  (if n<2 then none else if b1<128\/191<b1 then none else
   if 64*(b0-192)+b1-128<128\/1114111<64*(b0-192)+b1-128\/(55296<=64*(b0-192)+b1-128/\64*(b0-192)+b1-128<=57343)then none else some 2)
 else if 128<=b0 then none
 else(if n<1 then none else if b0<0\/1114111<b0\/(55296<=b0/\b0<=57343)then none else some 1)
theorem LF (s:am):Mx s=pi s.size (eB s 0) (eB s 1) (eB s 2) (eB s 3):=by
 unfold Mx pi LC
 by_cases h1:240<=eB s 0
 ·rw[if_pos h1,if_pos h1]
  by_cases h2:s.size<4
  ·rw[if_pos h2,if_pos h2]
  ·rw[if_neg h2,if_neg h2];show(match Eo s 3 1 (eB s 0-240)with|none=>none|some c=>_)=_;unfold Eo
   by_cases g1:eB s 1<128\/191<eB s 1
   ·rw[if_pos g1,if_pos g1]
   ·rw[if_neg g1,if_neg g1];unfold Eo
    by_cases g2:eB s 2<128\/191<eB s 2
    ·rw[if_pos g2,if_pos g2]
    ·rw[if_neg g2,if_neg g2];unfold Eo
     by_cases g3:eB s 3<128\/191<eB s 3
     ·rw[if_pos g3,if_pos g3]
     ·rw[if_neg g3,if_neg g3];rfl
 ·rw[if_neg h1,if_neg h1]
  by_cases h3:224<=eB s 0
  ·rw[if_pos h3,if_pos h3]
   by_cases h2:s.size<3
   ·rw[if_pos h2,if_pos h2]
   ·rw[if_neg h2,if_neg h2];show(match Eo s 2 1 (eB s 0-224)with|none=>none|some c=>_)=_;unfold Eo
    by_cases g1:eB s 1<128\/191<eB s 1
    ·rw[if_pos g1,if_pos g1]
    ·rw[if_neg g1,if_neg g1];unfold Eo
     by_cases g2:eB s 2<128\/191<eB s 2
     ·rw[if_pos g2,if_pos g2]
     ·rw[if_neg g2,if_neg g2];rfl
  ·rw[if_neg h3,if_neg h3]
   by_cases h4:192<=eB s 0
   ·rw[if_pos h4,if_pos h4]
    by_cases h2:s.size<2
    ·rw[if_pos h2,if_pos h2]
    ·rw[if_neg h2,if_neg h2];show(match Eo s 1 1 (eB s 0-192)with|none=>none|some c=>_)=_;unfold Eo
     by_cases g1:eB s 1<128\/191<eB s 1
     ·rw[if_pos g1,if_pos g1]
     ·rw[if_neg g1,if_neg g1];rfl
   ·rw[if_neg h4,if_neg h4]
    by_cases h5:128<=eB s 0
    ·rw[if_pos h5,if_pos h5]
    ·rw[if_neg h5,if_neg h5];rfl
theorem pj {n b0 b1 b2 b3:Nat}(hd:decodeN n b0 b1 b2 b3=(65533,1))(hu:pi n b0 b1 b2 b3=none):
  pi n b0 b1 b2 b3=if(decodeN n b0 b1 b2 b3).1=65533/\(decodeN n b0 b1 b2 b3).2=1 then none else some (decodeN n b0 b1 b2 b3).2:=by rw[hu,hd];simp
theorem sr {n b0 b1 b2 b3 c k:Nat}(hd:decodeN n b0 b1 b2 b3=(c,k))(hu:pi n b0 b1 b2 b3=some k)(N2:¬(c=65533/\k=1)):
  pi n b0 b1 b2 b3=if(decodeN n b0 b1 b2 b3).1=65533/\(decodeN n b0 b1 b2 b3).2=1 then none else some (decodeN n b0 b1 b2 b3).2:=by
 rw[hu,hd,if_neg N2]
theorem EO (n b0 b1 b2 b3:Nat)(hn:0<n)(h0:b0<256)(h1:b1<256)(h2:b2<256)(h3:b3<256):
  pi n b0 b1 b2 b3=if(decodeN n b0 b1 b2 b3).1=65533/\(decodeN n b0 b1 b2 b3).2=1 then none else some (decodeN n b0 b1 b2 b3).2:=by
 by_cases c0:b0<128
 ·refine sr (c:=b0) (k:=1) ?_ ?_ (by omega)
  ·unfold decodeN;rw[if_pos c0]
  ·unfold pi;rw[if_neg (by omega),if_neg (by omega),if_neg (by omega),if_neg (by omega),if_neg (by omega),if_neg (by omega)]
 ·by_cases c1:b0<192
  ·refine pj ?_ ?_
   ·unfold decodeN;rw[if_neg c0,if_neg (fun q=>by have:=q.1;omega),if_neg (fun q=>by have:=q.1;omega),if_neg (fun q=>by have:=q.1;omega)]
   ·unfold pi;rw[if_neg (by omega),if_neg (by omega),if_neg (by omega),if_pos (by omega)]
  ·by_cases c2:b0<224
   ·have e0:b0/32=6:=by omega
    have hu:pi n b0 b1 b2 b3=if n<2 then none else if(b1:Int)<128\/191<(b1:Int)then none else
      if 64*((b0:Int)-192)+b1-128<128\/1114111<64*((b0:Int)-192)+b1-128\/(55296<=64*((b0:Int)-192)+b1-128/\64*((b0:Int)-192)+b1-128<=57343)then none else some 2:=by
     unfold pi;rw[if_neg (by omega),if_neg (by omega),if_pos (by omega)]
    by_cases g:1<n/\b1/64=2
    ·by_cases q:b0%32*64+b1%64>=128
     ·refine sr (c:=b0%32*64+b1%64) (k:=2) ?_ ?_ (by omega)
      ·unfold decodeN;rw[if_neg c0,if_pos ⟨e0,g⟩,if_pos q]
      ·rw[hu,if_neg (by omega),if_neg (by omega),if_neg (by omega)]
     ·refine pj ?_ ?_
      ·unfold decodeN;rw[if_neg c0,if_pos ⟨e0,g⟩,if_neg q]
      ·rw[hu,if_neg (by omega),if_neg (by omega),if_pos (by omega)]
    ·refine pj ?_ ?_
     ·unfold decodeN;rw[if_neg c0,if_neg (fun q=>g q.2),if_neg (fun q=>by have:=q.1;omega),if_neg (fun q=>by have:=q.1;omega)]
     ·rw[hu]
      by_cases q:n<2
      ·rw[if_pos q]
      ·rw[if_neg q,if_pos (by omega)]
   ·by_cases c3:b0<240
    ·have e0:b0/16=14:=by omega
     have hu:pi n b0 b1 b2 b3=if n<3 then none else if(b1:Int)<128\/191<(b1:Int)then none else if(b2:Int)<128\/191<(b2:Int)then none else
       if 64*(64*((b0:Int)-224)+b1-128)+b2-128<2048\/1114111<64*(64*((b0:Int)-224)+b1-128)+b2-128\/(55296<=64*(64*((b0:Int)-224)+b1-128)+b2-128/\64*(64*((b0:Int)-224)+b1-128)+b2-128<=57343)then none else some 3:=by
      unfold pi;rw[if_neg (by omega),if_pos (by omega)]
     by_cases g:(1<n/\b1/64=2)/\(2<n/\b2/64=2)
     ·obtain⟨⟨g1,g2⟩,g3,g4⟩:=g
      have hd:decodeN n b0 b1 b2 b3=if b0%16*4096+b1%64*64+b2%64>=2048/\(b0%16*4096+b1%64*64+b2%64<55296\/(57344<=b0%16*4096+b1%64*64+b2%64/\b0%16*4096+b1%64*64+b2%64<=1114111))then(b0%16*4096+b1%64*64+b2%64,3)else(65533,1):=by
       unfold decodeN;rw[if_neg c0,if_neg (fun q=>by have:=q.1;omega),if_pos ⟨e0,⟨g1,g2⟩,g3,g4⟩]
      by_cases q:b0%16*4096+b1%64*64+b2%64>=2048/\(b0%16*4096+b1%64*64+b2%64<55296\/(57344<=b0%16*4096+b1%64*64+b2%64/\b0%16*4096+b1%64*64+b2%64<=1114111))
      ·rw[if_pos q]at hd;refine sr hd ?_ (by omega);rw[hu,if_neg (by omega),if_neg (by omega),if_neg (by omega),if_neg (by omega)]
      ·rw[if_neg q]at hd;refine pj hd ?_;rw[hu,if_neg (by omega),if_neg (by omega),if_neg (by omega),if_pos (by omega)]
     ·refine pj ?_ ?_
      ·unfold decodeN;rw[if_neg c0,if_neg (fun q=>by have:=q.1;omega),if_neg (fun q=>g q.2),if_neg (fun q=>by have:=q.1;omega)]
      ·rw[hu]
       by_cases q:n<3
       ·rw[if_pos q]
       ·rw[if_neg q]
        by_cases q1:(b1:Int)<128\/191<(b1:Int)
        ·rw[if_pos q1]
        ·rw[if_neg q1,if_pos (by omega)]
    ·have hu:pi n b0 b1 b2 b3=if n<4 then none else if(b1:Int)<128\/191<(b1:Int)then none else if(b2:Int)<128\/191<(b2:Int)then none else if(b3:Int)<128\/191<(b3:Int)then none else
       if 64*(64*(64*((b0:Int)-240)+b1-128)+b2-128)+b3-128<65536\/1114111<64*(64*(64*((b0:Int)-240)+b1-128)+b2-128)+b3-128\/(55296<=64*(64*(64*((b0:Int)-240)+b1-128)+b2-128)+b3-128/\64*(64*(64*((b0:Int)-240)+b1-128)+b2-128)+b3-128<=57343)then none else some 4:=by
      unfold pi;rw[if_pos (by omega)]
     by_cases g:b0/8=30/\(1<n/\b1/64=2)/\(2<n/\b2/64=2)/\(3<n/\b3/64=2)
     ·have hd:decodeN n b0 b1 b2 b3=if b0%8*262144+b1%64*4096+b2%64*64+b3%64>=65536/\(b0%8*262144+b1%64*4096+b2%64*64+b3%64<55296\/(57344<=b0%8*262144+b1%64*4096+b2%64*64+b3%64/\b0%8*262144+b1%64*4096+b2%64*64+b3%64<=1114111))then(b0%8*262144+b1%64*4096+b2%64*64+b3%64,4)else(65533,1):=by
       unfold decodeN;rw[if_neg c0,if_neg (fun q=>by have:=q.1;omega),if_neg (fun q=>by have:=q.1;omega),if_pos g]
      obtain⟨e0,⟨g1,g2⟩,⟨g3,g4⟩,g5,g6⟩:=g
      by_cases q:b0%8*262144+b1%64*4096+b2%64*64+b3%64>=65536/\(b0%8*262144+b1%64*4096+b2%64*64+b3%64<55296\/(57344<=b0%8*262144+b1%64*4096+b2%64*64+b3%64/\b0%8*262144+b1%64*4096+b2%64*64+b3%64<=1114111))
      ·rw[if_pos q]at hd;refine sr hd ?_ (by omega);rw[hu,if_neg (by omega),if_neg (by omega),if_neg (by omega),if_neg (by omega),if_neg (by omega)]
      ·rw[if_neg q]at hd;refine pj hd ?_;rw[hu,if_neg (by omega),if_neg (by omega),if_neg (by omega),if_neg (by omega),if_pos (by omega)]
     ·refine pj ?_ ?_
      ·unfold decodeN;rw[if_neg c0,if_neg (fun q=>by have:=q.1;omega),if_neg (fun q=>by have:=q.1;omega),if_neg g]
      ·rw[hu]
       by_cases q:n<4
       ·rw[if_pos q]
       ·rw[if_neg q]
        by_cases q1:(b1:Int)<128\/191<(b1:Int)
        ·rw[if_pos q1]
        ·rw[if_neg q1]
         by_cases q2:(b2:Int)<128\/191<(b2:Int)
         ·rw[if_pos q2]
         ·rw[if_neg q2]
          by_cases q3:(b3:Int)<128\/191<(b3:Int)
          ·rw[if_pos q3]
          ·rw[if_neg q3,if_pos (by omega)]
theorem vB:∀(f:Nat) (s:am),s.size<=f->LD f s=validD s.data.toList
 |0,s,h=>by
  have e:s.data.toList= []:=bt (by rw[cC];exact Nat.le_zero.1 h);rw[e];rfl
 |f+1,s,h=>by
  unfold LD
  by_cases h0:s.size=0
  ·rw[if_pos h0];have e:s.data.toList= []:=bt (by rw[cC];exact h0);rw[e];rfl
  ·rw[if_neg h0];have hl:s.data.toList.length=s.size:=by rw[cC];rfl
   have N2:s.data.toList≠ []:=fun e=>by rw[e]at hl;simp at hl;omega
   rw[validD_step _ N2,LF,pV,pV,pV,pV,decodeL_N,hl];rw[EO s.size _ _ _ _ (by omega) (UInt8.toNat_lt _) (UInt8.toNat_lt _) (UInt8.toNat_lt _) (UInt8.toNat_lt _)];have hw:=decodeL_width s.data.toList;rw[decodeL_N,hl]at hw;generalize decodeN s.size (s.data.toList.getD 0 0).toNat (s.data.toList.getD 1 0).toNat (s.data.toList.getD 2 0).toNat (s.data.toList.getD 3 0).toNat=D at*
   by_cases hD:D.1=65533/\D.2=1
   ·rw[if_pos hD,if_pos hD]
   ·rw[if_neg hD,if_neg hD];show LD f (s.extract D.2 s.size)=_;rw[vB f _ (by rw[aR];omega)]
    congr 1;rw[cG,Array.toList_extract];simp[List.extract];rw[bY (by rw[List.length_drop,hl];exact ay _)]
theorem Df (s:am):Nt s=validD s.data.toList:=vB s.size s (ay _)
end
theorem kz (n:Int)(vs:List PV):∀(l:List PF) (done:Bool) (x:PF),x∈iG n vs done l->(x=(n,vs)/\done=false)\/x∈l
 | [],done,x,h=>by
  cases done
  ·simp[iG]at h;exact .inl ⟨h,rfl⟩
  ·simp[iG]at h
 |y::l,done,x,h=>by
  rw[iG,ba,ba]at h
  rcases h with h|h|h
  ·by_cases q:(!done&&decide (n<=y.1))=true
   ·rw[if_pos q]at h;simp at h q;exact .inl ⟨h,q.1⟩
   ·rw[if_neg q]at h;cases h
  ·by_cases q:y.1=n
   ·rw[if_pos q]at h;cases h
   ·rw[if_neg q]at h;simp at h;exact .inr (by simp[h])
  ·rcases kz n vs l _ x h with⟨h1,h2⟩|h
   ·simp at h2;exact .inl ⟨h1,h2.1⟩
   ·exact .inr (by simp[h])
theorem pW (n:Int)(vs:List PV):∀(l:List PF) (done:Bool),(iG n vs done l).length<=l.length+(if done then 0 else 1)
 | [],done=>by cases done<;>simp[iG]
 |y::l,done=>by
  rw[iG,aH,aH];have h:=pW n vs l (done||decide (n<=y.1))
  cases done
  ·by_cases q:n<=y.1<;>by_cases e:y.1=n<;>simp[q,e]at h⊢<;>omega
  ·by_cases e:y.1=n<;>simp[e]at h⊢<;>omega
theorem nt {n:Int}{v:PV}:∀{l:List PF},v∈fU l n->∃x∈l,x.1=n/\x.2=fU l n
 | [],h=>by simp[fU]at h
 |x::l,h=>by
  by_cases q:x.1=n
  ·exact⟨x,by simp,q,by simp[fU,q]⟩
  ·simp only[fU,q,if_false]at h⊢;obtain⟨y,h1,h2,h3⟩:=nt h;exact⟨y,by simp[h1],h2,h3⟩
theorem sX {n:Int}{a:Nat}:∀{l:List PF},(∀x∈l,x.2.length<=a)->(fU l n).length<=a
 | [],_=>by simp[fU]
 |x::l,h=>by
  by_cases q:x.1=n
  ·simp only[fU,q,if_true];exact h x (by simp)
  ·simp only[fU,q,if_false];exact sX (fun y hy=>h y (by simp[hy]))
theorem pX (n:Int)(vs:List PV):∀(l:List PF),fU (iG n vs false l) n=vs
 | []=>by simp[iG,fU]
 |y::l=>by
  rw[iG]
  by_cases q:n<=y.1
  ·simp[q,fU]
  ·have e:¬y.1=n:=by omega
   simp[q,e,fU,pX n vs l]
theorem oS (n n':Int)(vs:List PV)(hn:n'≠n):∀(l:List PF) (done:Bool),fU (iG n vs done l) n'=fU l n'
 | [],done=>by cases done<;>simp[iG,fU,Ne.symm hn]
 |y::l,done=>by
  rw[iG];have ih:=oS n n' vs hn l (done||decide (n<=y.1));have N8:¬n=n':=fun e=>hn e.symm
  by_cases q:(!done&&decide (n<=y.1))=true
  ·rw[if_pos q]
   by_cases e:y.1=n
   ·have e2:¬y.1=n':=fun x=>hn (by rw[<-x,e])
    simp only[e,if_true,bj,aP,fU,N8,if_false];rw[e]at ih;rw[ih]
   ·by_cases e2:y.1=n'
    ·subst e2;simp only[e,if_false,bj,aP,fU,if_true,N8]
    ·simp only[e,if_false,bj,aP,fU,N8,e2];exact ih
  ·rw[if_neg q]
   by_cases e:y.1=n
   ·have e2:¬y.1=n':=fun x=>hn (by rw[<-x,e])
    simp only[e,if_true,aP,fU,N8,if_false];rw[e]at ih;exact ih
   ·by_cases e2:y.1=n'
    ·subst e2;simp only[e,if_false,bj,aP,fU,if_true]
    ·simp only[e,if_false,bj,aP,fU,e2];exact ih
theorem PM.get_put (m:PM)(n:Int)(vs:List PV)(h:vs≠ []):(m.put n vs).get n=vs:=by
 have he:vs.isEmpty=false:=by cases vs with
  |nil=>exact absurd rfl h
  |cons _ _=>rfl
 unfold PM.put PM.get;rw[he];exact pX n vs m.fs
theorem PM.get_put_ne (m:PM)(n n':Int)(vs:List PV)(h:n'≠n):(m.put n vs).get n'=m.get n':=oS n n' vs h m.fs _
structure Av (t:am)(v:PV):Prop where
 lo:0<=v.1
 hi:v.1<18446744073709551616
 sz:v.2.1.size<=4000000
 str:gy t oA=true->v.1=0
 num:gy t oA=false->v.2.1=eS
structure My (a:Nat)(t:am)(v:PV):Prop where
 key:∃rest,v.2.2.get 1=gr v::rest
 ky:Av t (gr v)
 len:v.2.2.fs.length<=a+2
 m:v.1=0/\v.2.1=eS
structure EP (S:dG)(t:am)(v:PV):Prop where
 lo:0<=v.1
 hi:v.1<18446744073709551616
 sz:v.2.1.size<=4000000
 m:v.2.2=PM.none
 txt:S.wire t=2->v.1=0
 num:S.wire t≠2->v.2.1=eS
inductive WM (S:dG)(a:Nat):MT->PM->Prop where
 |mk (d:MT) (fs:List PF) (u:am) (hl:fs.length<=a) (hu:u.size<=a) (hv:∀x∈fs,x.2.length<=a)
  (hm:∀x∈fs,∀f,dv d.fs x.1=some f->f.isMap=true->∀v∈x.2,My a f.key v)
  (hz:∀x∈fs,∀f sub,dv d.fs x.1=some f->f.isMap=false->ed S f=some sub->∀v∈x.2,v.1=0/\v.2.1=eS)
  (hs:∀x∈fs,∀f sub,dv d.fs x.1=some f->f.isMap=false->ed S f=some sub->∀v∈x.2,WM S a sub v.2.2)
  (ht:∀x∈fs,∀f,dv d.fs x.1=some f->ed S f=none->∀v∈x.2,EP S f.ty v):WM S a d (.mk fs u)
theorem WM.len {S:dG}{a:Nat}{d:MT}{m:PM}(h:WM S a d m):m.fs.length<=a/\m.unk.size<=a/\∀n,(m.get n).length<=a:=by
 cases h with
 |mk _ fs u hl hu hv _ _ _ _=>exact⟨hl,hu,fun n=>sX hv⟩
theorem WM.mono {S:dG}{a a':Nat}(ha:a<=a'){d:MT}{m:PM}(h:WM S a d m):WM S a' d m:=by
 induction h with
 |mk d fs u hl hu hv hm hz hs ht ih=>
  exact .mk d fs u (by omega) (by omega) (fun x hx=>aG (hv x hx) ha) (fun x hx f hf hi v hv=>let q:=hm x hx f hf hi v hv;⟨q.key,q.ky,by have:=q.len;omega,q.m⟩)
   hz ih ht
theorem WM.none (S:dG)(a:Nat)(d:MT):WM S a d PM.none:=
 .mk d [] eS (aM _) (aM _) (fun _ h=>by cases h) (fun _ h=>by cases h) (fun _ h=>by cases h) (fun _ h=>by cases h) (fun _ h=>by cases h)
structure Mz (S:dG)(a:Nat)(d:MT)(n:Int)(vs:List PV):Prop where
 hv:vs.length<=a
 hm:∀f,dv d.fs n=some f->f.isMap=true->∀v∈vs,My a f.key v
 hz:∀f sub,dv d.fs n=some f->f.isMap=false->ed S f=some sub->∀v∈vs,v.1=0/\v.2.1=eS
 hs:∀f sub,dv d.fs n=some f->f.isMap=false->ed S f=some sub->∀v∈vs,WM S a sub v.2.2
 ht:∀f,dv d.fs n=some f->ed S f=none->∀v∈vs,EP S f.ty v
theorem WM.put {S:dG}{a a':Nat}{d:MT}{m:PM}(h:WM S a d m)(ha:a+1<=a'){n:Int}{vs:List PV}(hv:Mz S a' d n vs):WM S a' d (m.put n vs):=by
 have h2:=h.mono (show a<=a' by omega);have hl:=h.len.1
 cases h2 with
 |mk _ fs u _ hu N3 hm hz hs ht=>
  refine .mk d _ u ?_ hu ?_ ?_ ?_ ?_ ?_
  ·have:=pW n vs fs vs.isEmpty;have h3:(PM.mk fs u).fs.length<=a:=hl;simp only[PM.fs]at h3⊢
   split at this<;>omega
  ·intro x hx
   rcases kz n vs fs _ x hx with⟨rfl,_⟩|hx
   ·exact hv.hv
   ·exact N3 x hx
  ·intro x hx
   rcases kz n vs fs _ x hx with⟨rfl,_⟩|hx
   ·exact hv.hm
   ·exact hm x hx
  ·intro x hx
   rcases kz n vs fs _ x hx with⟨rfl,_⟩|hx
   ·exact hv.hz
   ·exact hz x hx
  ·intro x hx
   rcases kz n vs fs _ x hx with⟨rfl,_⟩|hx
   ·exact hv.hs
   ·exact hs x hx
  ·intro x hx
   rcases kz n vs fs _ x hx with⟨rfl,_⟩|hx
   ·exact hv.ht
   ·exact ht x hx
theorem WM.drop {S:dG}{a:Nat}{d:MT}{m:PM}(h:WM S a d m)(n:Int):WM S a d (m.put n []):=by
 cases h with
 |mk _ fs u hl hu N3 hm hz hs ht=>
  have N2:∀x,x∈iG n [] true fs->x∈fs:=fun x hx=>(kz n [] fs true x hx).resolve_left (fun q=>by cases q.2)
  refine .mk d _ u ?_ hu (fun x hx=>N3 x (N2 x hx)) (fun x hx=>hm x (N2 x hx)) (fun x hx=>hz x (N2 x hx)) (fun x hx=>hs x (N2 x hx)) (fun x hx=>ht x (N2 x hx));have:=pW n [] fs true;simp only[PM.fs,List.isEmpty_nil]at this⊢;simp at this;omega
theorem WM.keep {S:dG}{a a':Nat}{d:MT}{m:PM}(h:WM S a d m)(s:am)(hs:a+s.size<=a'):WM S a' d (m.keep s):=by
 have hl:=h.len.2.1;have h2:=h.mono (show a<=a' by omega)
 cases h2 with
 |mk _ fs u h1 hu N3 hm hz N7 ht=>
  refine .mk d fs _ h1 ?_ N3 hm hz N7 ht;simp only[PM.unk]at hl⊢;rw[ByteArray.size_append];omega
theorem WM.vals {S:dG}{a:Nat}{d:MT}{m:PM}(h:WM S a d m)(n:Int):Mz S a d n (m.get n):=by
 cases h with
 |mk _ fs u hl hu N3 hm hz hs ht=>
  refine⟨sX N3,?_,?_,?_,?_⟩
  ·intro f hf hi v hv;obtain⟨x,h1,h2,h3⟩:=nt hv;exact hm x h1 f (by rw[h2];exact hf) hi v (by rw[h3];exact hv)
  ·intro f sub hf hi N7 v hv;obtain⟨x,h1,h2,h3⟩:=nt hv;exact hz x h1 f sub (by rw[h2];exact hf) hi N7 v (by rw[h3];exact hv)
  ·intro f sub hf hi N7 v hv;obtain⟨x,h1,h2,h3⟩:=nt hv;exact hs x h1 f sub (by rw[h2];exact hf) hi N7 v (by rw[h3];exact hv)
  ·intro f hf N7 v hv;obtain⟨x,h1,h2,h3⟩:=nt hv;exact ht x h1 f (by rw[h2];exact hf) N7 v (by rw[h3];exact hv)
theorem WM.dropF {S:dG}{a:Nat}{d:MT}(f:ek):∀(l:List ek) {m:PM},WM S a d m->WM S a d (jx f l m)
 | [],_,h=>h
 |o::l,m,h=>by
  rw[Go.Proofs.YtfebdimolnobaaaGreatDoor.jx];refine WM.dropF f l ?_
  split
  ·exact h.drop _
  ·exact h
def Dg (s:am)(k:Nat):Int:=Lh s (s.size-k) k
theorem Cb {s:am}{k:Nat}(h:¬k<s.size):Dg s k=0:=by
 unfold Dg;rw[show s.size-k=0 from by omega];rfl
theorem yS {s:am}{k:Nat}(h:k<s.size):Dg s k=256*Dg s (k+1)+eB s k:=by
 unfold Dg;rw[show s.size-k=(s.size-(k+1))+1 from by omega,Lh,if_pos h]
theorem qE (s:am):∀d k,s.size-k=d->0<=Dg s k/\Dg s k<256^d
 |0,k,h=>by rw[Cb (by omega)];decide
 |d+1,k,h=>by
  have hk:k<s.size:=by omega
  have:=qE s d (k+1) (by omega);have hb:=jl s k;rw[yS hk,Int.pow_succ];omega
theorem qF {s:am}(h:s.size<=8):0<=Au s/\Au s<18446744073709551616:=by
 have h1:=qE s _ 0 rfl;have e:Dg s 0=Au s:=rfl;rw[e]at h1;refine⟨h1.1,Int.lt_of_lt_of_le h1.2 ?_⟩;have:=cJ (n:=256) (i:=s.size-0) (j:=8) (by decide) (by omega);have h2:=Int.ofNat_le.2 this;have e8:((256^8:Nat):Int)=18446744073709551616:=by decide
 rw[e8]at h2;exact h2
theorem mz {b:am}{a e:Nat}{r:rK}(h:fF b a e= .ok r):r.a=a/\a<r.fr/\a+2<=r.e/\r.fr<=r.e/\r.e<=e/\0<=r.n/\r.n<18446744073709551616/\1<=r.num/\r.num<=536870911:=by
 unfold fF at h
 cases h1:fA b a e with
 |error x=>rw[h1]at h;cases h
 |ok x=>
  obtain⟨t,fr⟩:=x;rw[h1]at h;obtain⟨v1,v2,v3,v4⟩:=fW h1;simp only at h
  by_cases q:t/8<1\/536870911<t/8
  ·rw[if_pos q]at h;cases h
  ·rw[if_neg q]at h
   by_cases k0:t%8=0
   ·rw[if_pos k0]at h
    cases h2:fA b fr e with
    |error x=>rw[h2]at h;cases h
    |ok x=>
     obtain⟨n,en⟩:=x;rw[h2]at h;obtain⟨u1,u2,u3,u4⟩:=fW h2;simp only[Except.ok.injEq]at h;subst h;refine⟨rfl,?_,?_,?_,?_,u1,u2,?_,?_⟩<;>simp only<;>omega
   ·rw[if_neg k0]at h;have Od:∀(k:Nat),k<=8->0<=Au (b.extract fr (fr+k))/\Au (b.extract fr (fr+k))<18446744073709551616:=fun k hk=>qF (by rw[aR];omega)
    by_cases k1:t%8=1
    ·rw[if_pos k1]at h
     by_cases z:fr+8<=e
     ·rw[if_pos z]at h;simp only[Except.ok.injEq]at h;subst h;refine⟨rfl,?_,?_,?_,?_,(Od 8 (by omega)).1,(Od 8 (by omega)).2,?_,?_⟩<;>simp only<;>omega
     ·rw[if_neg z]at h;cases h
    ·rw[if_neg k1]at h
     by_cases k5:t%8=5
     ·rw[if_pos k5]at h
      by_cases z:fr+4<=e
      ·rw[if_pos z]at h;simp only[Except.ok.injEq]at h;subst h;refine⟨rfl,?_,?_,?_,?_,(Od 4 (by omega)).1,(Od 4 (by omega)).2,?_,?_⟩<;>simp only<;>omega
      ·rw[if_neg z]at h;cases h
     ·rw[if_neg k5]at h
      by_cases k2:t%8=2
      ·rw[if_pos k2]at h
       cases h2:fA b fr e with
       |error x=>rw[h2]at h;cases h
       |ok x=>
        obtain⟨n,bh⟩:=x;rw[h2]at h;obtain⟨u1,u2,u3,u4⟩:=fW h2;simp only at h
        by_cases z:(bh:Int)+n<=e
        ·rw[if_pos z]at h;simp only[Except.ok.injEq]at h;subst h;refine⟨rfl,?_,?_,?_,?_,by simp,by simp,?_,?_⟩<;>simp only<;>omega
        ·rw[if_neg z]at h;cases h
      ·rw[if_neg k2]at h;cases h
theorem AI (n:Int):0<=qy n/\qy n<18446744073709551616:=by unfold qy;split<;>omega
theorem vC {n:Int}(h0:0<=n)(h1:n<18446744073709551616):0<=En n/\En n<18446744073709551616:=by unfold En;split<;>omega
theorem iI {k:Nat}{n:Int}(h0:0<=n)(h1:n<18446744073709551616):0<=eW k n/\eW k n<18446744073709551616:=by
 unfold eW
 split
 ·exact AI n
 ·split
  ·omega
  ·split
   ·exact vC (by omega) (by omega)
   ·split
    ·exact vC h0 h1
    ·split
     ·split<;>omega
     ·exact⟨h0,h1⟩
theorem eY:∀{l:List ek} {n:Int} {f:ek},dv l n=some f->f.num=n/\f∈l
 | [],_,_,h=>by cases h
 |x::l,n,f,h=>by
  rw[dv]at h
  by_cases q:x.num=n
  ·rw[if_pos q]at h;cases h;exact⟨q,by simp⟩
  ·rw[if_neg q]at h;obtain⟨h1,h2⟩:=eY h;exact⟨h1,by simp[h2]⟩
theorem jn:∀{l:List MT} {s:am} {d:MT},ki l s=some d->d∈l
 | [],_,_,h=>by cases h
 |x::l,s,d,h=>by
  rw[ki]at h
  by_cases q:gy x.name s=true
  ·rw[if_pos q]at h;cases h;simp
  ·rw[if_neg q]at h;simp[jn h]
structure JA (S:dG)(t:am):Prop where
 no:S.msg t=none
 w1:S.wire t=2->gy t oA=true
 w2:gy t oA=true->S.wire t=2
structure vD (S:dG):Prop where
 wire:∀t,(S.msg t).isSome=true->S.wire t=2
 key:∀d∈S.ms,∀f∈d.fs,f.isMap=true->JA S f.key
def jB (S:dG)(d:MT):Prop:=∀f∈d.fs,f.isMap=true->JA S f.key
theorem xi:gy lp C9=false:=by
 unfold gy;rw[ByteArray.toList_eq,ByteArray.toList_eq];decide
theorem vD.sub {S:dG}(hS:vD S){f:ek}{sub:MT}(h:ed S f=some sub):jB S sub:=by
 unfold ed at h
 by_cases q:f.isMap=true
 ·rw[if_pos q]at h
  cases h
  intro g hg hm;have e:∀(x y z:am) (n:Int),ek.isMap ⟨x,y,z,lp,n⟩=false:=fun _ _ _ _=>xi
  simp only[dW,aL,bG,or_false]at hg
  rcases hg with rfl|rfl
  ·rw[e]at hm;cases hm
  ·rw[e]at hm;cases hm
 ·rw[if_neg q]at h;exact fun g hg hm=>hS.key sub (jn h) g hg hm
theorem EP.none (S:dG)(t:am):EP S t PV.none:=⟨by decide,by decide,by decide,rfl,fun _=>rfl,fun _=>rfl⟩
theorem Cc {S:dG}{b:am}{f:ek}{r:rK}{v:PV}(h:pJ S b f r= .ok v)(hk:r.kind=S.wire f.ty)(hb:b.size<=4000000)(h0:0<=r.n)(h1:r.n<18446744073709551616):EP S f.ty v:=by
 unfold pJ at h
 by_cases k:r.kind=2
 ·rw[if_pos k]at h
  split at h
  ·cases h
  ·cases h
   exact⟨by simp,by simp,by simp only[aR];omega,rfl,fun _=>rfl,fun q=>absurd (hk.symm.trans k) q⟩
 ·rw[if_neg k]at h
  cases h
  exact⟨(iI h0 h1).1,(iI h0 h1).2,aM _,rfl,fun q=>absurd (hk.trans q) k,fun _=>rfl⟩
theorem pY {b:am}{k e:Nat}{P:PV->Prop}(hP:∀n:Int,0<=n->n<18446744073709551616->P (eW k n,eS,PM.none)):∀(F:Nat) (l:List PV) (a:Nat) (l':List PV),e7 b k e F l a= .ok l'->a<=e->l.length<=a->(∀v∈l,P v)->l'.length<=e/\∀v∈l',P v
 |0,l,a,l',h,ha,hl,hp=>by
  rw[e7]at h
  cases h
  exact⟨by omega,hp⟩
 |F+1,l,a,l',h,ha,hl,hp=>by
  rw[e7]at h
  have Of:∀n:Int,0<=n->n<18446744073709551616->∀v∈l++ [(eW k n,eS,PM.none)],P v:=fun n h0 h1 v hv=>by
   simp only[ba,bU]at hv
   rcases hv with hv|rfl
   ·exact hp v hv
   ·exact hP n h0 h1
  by_cases q:a<e
  ·rw[if_pos q]at h
   by_cases z:dL k=0
   ·rw[if_pos z]at h
    cases h2:fA b a e with
    |error x=>rw[h2]at h;cases h
    |ok x=>
     obtain⟨n,y⟩:=x;rw[h2]at h;obtain⟨u1,u2,u3,u4⟩:=fW h2;exact pY hP F _ y l' h u4 (by simp;omega) (Of n u1 u2)
   ·rw[if_neg z]at h;simp only at h;generalize hy:(if dL k=5 then 4 else 8)=y at h
    have hy8:1<=y/\y<=8:=by
     split at hy<;>omega
    by_cases z2:a+y<=e
    ·rw[if_pos z2]at h;have hr:=qF (s:=b.extract a (a+y)) (by rw[aR];omega);exact pY hP F _ (a+y) l' h z2 (by simp;omega) (Of _ hr.1 hr.2)
    ·rw[if_neg z2]at h;cases h
  ·rw[if_neg q]at h
   cases h
   exact⟨by omega,hp⟩
theorem sY (t:am)(v:PV):∀(l:List PV) (done:Bool) (x:PV),x∈gM t v done l->x=v\/x∈l
 | [],done,x,h=>by
  cases done
  ·simp[gM]at h;exact .inl h
  ·simp[gM]at h
 |y::l,done,x,h=>by
  rw[gM,ba,ba]at h
  rcases h with h|h|h
  ·split at h
   ·simp at h;exact .inl h
   ·cases h
  ·split at h
   ·cases h
   ·simp at h;exact .inr (by simp[h])
  ·rcases sY t v l _ x h with h|h
   ·exact .inl h
   ·exact .inr (by simp[h])
theorem sZ (t:am)(v:PV):∀(l:List PV) (done:Bool),(gM t v done l).length<=l.length+(if done then 0 else 1)
 | [],done=>by cases done<;>simp[gM]
 |y::l,done=>by
  rw[gM,aH,aH];generalize hq:(sN t (gr v) (gr y)||mG (gr v) (gr y))=q;have h:=sZ t v l (done||q)
  cases done<;>cases q<;>cases mG (gr v) (gr y)<;>simp at h⊢<;>omega
theorem PM.put_len (m:PM)(n:Int)(vs:List PV):(m.put n vs).fs.length<=m.fs.length+1:=by
 have:=pW n vs m.fs vs.isEmpty;show(iG n vs vs.isEmpty m.fs).length<=_
 split at this<;>omega
theorem xj {S:dG}{a:Nat}{f:ek}{sm:PM}(hk:JA S f.key)(h:WM S a (dW f) sm):My a f.key (0,eS,gH sm):=by
 have hl:=h.len.1
 have h1:=(h.vals 1).ht ⟨lH,f.key,eS,lp,1⟩ (by simp[dW,dv]) (by
  unfold ed;rw[if_neg (by show¬gy lp C9=true;rw[xi];decide)]
  exact hk.no)
 have hg:(gH sm).get 1=(if(sm.get 1).isEmpty then [PV.none]else sm.get 1):=by
  show(et (et sm 1) 2).get 1=_
  have e2:∀m:PM,(et m 2).get 1=m.get 1:=fun m=>by
   unfold et
   split
   ·exact PM.get_put_ne m 2 1 _ (by decide)
   ·rfl
  rw[e2];unfold et
  split
  ·exact PM.get_put sm 1 [PV.none] (by simp)
  ·rfl
 have Ok:∃x rest,(gH sm).get 1=x::rest/\EP S f.key x:=by
  rw[hg]
  cases he:sm.get 1 with
  |nil=>exact⟨PV.none,[],rfl,EP.none S _⟩
  |cons x rest=>exact⟨x,rest,rfl,h1 x (by rw[he];simp)⟩
 obtain⟨x,rest,e1,hx⟩:=Ok
 have Og:gr (0,eS,gH sm)=x:=by
  show((gH sm).get 1).headD PV.none=x;rw[e1];rfl
 refine⟨⟨rest,by rw[Og];exact e1⟩,?_,?_,rfl,rfl⟩
 ·rw[Og];refine⟨hx.lo,hx.hi,hx.sz,fun q=>hx.txt (hk.w2 q),fun q=>hx.num (fun z=> ?_)⟩;rw[hk.w1 z]at q
  cases q
 ·show(et (et sm 1) 2).fs.length<=a+2
  have e:∀(m:PM) (n:Int),(et m n).fs.length<=m.fs.length+1:=fun m n=>by
   unfold et
   split
   ·exact PM.put_len m n _
   ·omega
  have:=e sm 1;have:=e (et sm 1) 2;omega
theorem j0 {S:dG}{a:Nat}{d:MT}{m:PM}{n:Int}{f:ek}{sub:MT}(h:WM S a d m)(hf:dv d.fs n=some f)(hs:ed S f=some sub):((eA f m).1=0/\(eA f m).2.1=eS)/\WM S a sub (eA f m).2.2:=by
 have hn:=(eY hf).1;unfold eA
 by_cases q:(f.isRep||f.isMap)=true
 ·rw[if_pos q];exact⟨⟨rfl,rfl⟩,WM.none S a sub⟩
 ·rw[if_neg q]
  have hm:f.isMap=false:=by
   cases hh:f.isMap with
   |false=>rfl
   |true=>rw[hh,cj]at q;exact absurd rfl q
  rw[hn]
  cases hg:m.get n with
  |nil=>exact⟨⟨rfl,rfl⟩,WM.none S a sub⟩
  |cons x rest=>
   have hx:x∈m.get n:=by rw[hg];simp
   exact⟨(h.vals n).hz f sub hf hm hs x hx,(h.vals n).hs f sub hf hm hs x hx⟩
theorem s9 {S:dG}{a a':Nat}{d:MT}{m sm:PM}{n:Int}{f:ek}{sub:MT}(hd:jB S d)(h:WM S a d m)(hf:dv d.fs n=some f)(hs:ed S f=some sub)(ha:a+1<=a')(Oc:WM S a' sub sm):
  WM S a' d (iw S d f m ((eA f m).1,(eA f m).2.1,sm)):=by
 obtain⟨hn,Oj⟩:=eY hf;obtain⟨⟨s1,s2⟩,_⟩:=j0 h hf hs;have hlen:=h.len.2.2 n;unfold iw;rw[hn,s1,s2];have N2:∀g,dv d.fs n=some g->g=f:=fun g hg=>by rw[hf]at hg;exact(Option.some.inj hg).symm
 have hold:=h.vals n
 by_cases q:f.isMap=true
 ·rw[if_pos q]
  have Oe:sub=dW f:=by
   unfold ed at hs;rw[if_pos q]at hs;exact(Option.some.inj hs).symm
  subst Oe;refine h.put ha ⟨?_,fun g hg _ v hv=> ?_,fun g N3 hg hm _=> ?_,fun g N3 hg hm _=> ?_,fun g hg Ob=> ?_⟩
  ·have:=sZ f.key (0,eS,gH sm) (m.get n) false;show(gM f.key (0,eS,gH sm) false (m.get n)).length<=a';simp at this;omega
  ·rw[N2 g hg]
   rcases sY _ _ _ _ _ hv with rfl|hv
   ·exact xj (hd f Oj q) Oc
   ·have:=hold.hm f hf q v hv;exact⟨this.key,this.ky,by have:=this.len;omega,this.m⟩
  ·rw[N2 g hg,q]at hm;cases hm
  ·rw[N2 g hg,q]at hm;cases hm
  ·rw[N2 g hg,hs]at Ob;cases Ob
 ·rw[if_neg q]
  have N8:f.isMap=false:=by
   cases hh:f.isMap with
   |false=>rfl
   |true=>exact absurd hh q
  by_cases r:f.isRep=true
  ·rw[if_pos r];refine h.put ha ⟨by simp;omega,fun g hg hm=> ?_,fun g N3 hg _ N7 v hv=> ?_,fun g N3 hg _ N7 v hv=> ?_,fun g hg Ob=> ?_⟩
   ·rw[N2 g hg,N8]at hm;cases hm
   ·rw[N2 g hg]at N7;simp only[ba,bU]at hv
    rcases hv with hv|rfl
    ·exact hold.hz f N3 hf N8 N7 v hv
    ·exact⟨rfl,rfl⟩
   ·rw[N2 g hg,hs]at N7
    cases N7
    simp only[ba,bU]at hv
    rcases hv with hv|rfl
    ·exact(hold.hs f sub hf N8 hs v hv).mono (by omega)
    ·exact Oc
   ·rw[N2 g hg,hs]at Ob;cases Ob
  ·rw[if_neg r,if_neg (by rw[hs];simp)];refine(h.dropF f d.fs).put ha ⟨by simp;omega,fun g hg hm=> ?_,fun g N3 hg _ N7 v hv=> ?_,fun g N3 hg _ N7 v hv=> ?_,fun g hg Ob=> ?_⟩
   ·rw[N2 g hg,N8]at hm;cases hm
   ·simp only[bU]at hv;subst hv;exact⟨rfl,rfl⟩
   ·rw[N2 g hg,hs]at N7
    cases N7
    simp only[bU]at hv;subst hv;exact Oc
   ·rw[N2 g hg,hs]at Ob;cases Ob
theorem sw {S:dG}{a:Nat}{d:MT}{n:Int}{f:ek}{vs:List PV}(hf:dv d.fs n=some f)(hs:ed S f=none)(hl:vs.length<=a)(hv:∀v∈vs,EP S f.ty v):Mz S a d n vs:=by
 have N2:∀g,dv d.fs n=some g->g=f:=fun g hg=>by rw[hf]at hg;exact(Option.some.inj hg).symm
 refine⟨hl,fun g hg hm=> ?_,fun g N3 hg _ N7=> ?_,fun g N3 hg _ N7=> ?_,fun g hg _ v hx=> ?_⟩
 ·rw[N2 g hg]at hm;unfold ed at hs;rw[if_pos hm]at hs
  cases hs
 ·rw[N2 g hg,hs]at N7;cases N7
 ·rw[N2 g hg,hs]at N7;cases N7
 ·rw[N2 g hg];exact hv v hx
theorem td {S:dG}{a a':Nat}{d:MT}{m:PM}{n:Int}{f:ek}{v:PV}(h:WM S a d m)(hf:dv d.fs n=some f)(hs:ed S f=none)(ha:a+1<=a')(hv:EP S f.ty v):WM S a' d (iw S d f m v):=by
 obtain⟨hn,Oj⟩:=eY hf;have hlen:=h.len.2.2 n;unfold iw;rw[hn]
 have N8:¬f.isMap=true:=fun q=>by
  unfold ed at hs;rw[if_pos q]at hs
  cases hs
 rw[if_neg N8]
 split
 ·refine h.put ha (sw hf hs (by simp;omega) fun x hx=> ?_);simp only[ba,bU]at hx
  rcases hx with hx|rfl
  ·exact(h.vals n).ht f hf hs x hx
  ·exact hv
 ·split
  ·exact(h.drop n).mono (by omega)
  ·refine(h.dropF f d.fs).put ha (sw hf hs (by simp;omega) fun x hx=> ?_);simp only[bU]at hx;subst hx;exact hv
theorem iU {S:dG}{b:am}(hS:vD S)(hb:b.size<=4000000):∀(F:Nat) (d:MT) (m:PM) (a e deep:Nat) (m':PM),dQ S b F d m a e deep= .ok m'->jB S d->a<=e->e<=b.size->WM S a d m->WM S e d m'
 |0,d,m,a,e,deep,m',h,_,ha,_,hw=>by
  rw[dQ]at h
  cases h
  exact hw.mono ha
 |F+1,d,m,a,e,deep,m',h,hd,ha,he,hw=>by
  rw[dQ]at h
  by_cases q:a<e
  ·rw[if_pos q]at h
   cases hr:fF b a e with
   |error x=>rw[hr]at h;cases h
   |ok r=>
    rw[hr]at h;obtain⟨r1,r2,r3,r4,r5,r6,r7,_,_⟩:=mz hr;have Oa:WM S r.e d (m.keep (b.extract r.a r.e)):=hw.keep _ (by rw[aR];omega);simp only at h
    cases hf:dv d.fs r.num with
    |none=>
     rw[hf]at h;exact iU hS hb F d _ r.e e deep m' h hd r5 he Oa
    |some f=>
     rw[hf]at h;simp only at h
     by_cases k:r.kind=eZ S f
     ·rw[if_pos k]at h
      cases hs:ed S f with
      |some sub=>
       rw[hs]at h;simp only at h
       by_cases hfar:sO S sub (deep+1)=true
       ·rw[if_pos hfar]at h;cases h
       ·rw[if_neg hfar]at h
        cases hl:dQ S b F sub (eA f m).2.2 r.fr r.e (deep+1)with
        |error x=>rw[hl]at h;cases h
        |ok sm=>
         rw[hl]at h;have Oc:=iU hS hb F sub _ r.fr r.e (deep+1) sm hl (hS.sub hs) r4 (by omega) ((j0 hw hf hs).2.mono (by omega));exact iU hS hb F d _ r.e e deep m' h hd r5 he (s9 hd hw hf hs (by omega) Oc)
      |none=>
       rw[hs]at h;simp only at h
       cases hv:pJ S b f r with
       |error x=>rw[hv]at h;cases h
       |ok v=>
        rw[hv]at h
        have hk:r.kind=S.wire f.ty:=by
         rw[k];unfold eZ;rw[if_neg (fun q=>by unfold ed at hs;rw[if_pos q]at hs;cases hs)]
        exact iU hS hb F d _ r.e e deep m' h hd r5 he (td hw hf hs (by omega) (Cc hv hk hb r6 r7))
     ·rw[if_neg k]at h
      by_cases k2:r.kind=2/\f.isRep=true
      ·rw[if_pos k2]at h
       cases hp:mH S b f (m.get f.num) r.fr r.e with
       |error x=>rw[hp]at h;cases h
       |ok l=>
        rw[hp]at h;have N8:¬f.isMap=true:=fun q=>k (by unfold eZ;rw[if_pos q];exact k2.1)
        have Oh:S.wire f.ty≠2:=fun q=>k (by unfold eZ;rw[if_neg N8,q];exact k2.1)
        have hs:ed S f=none:=by
         unfold ed;rw[if_neg N8]
         cases hm:S.msg f.ty with
         |none=>rfl
         |some x=>exact absurd (hS.wire f.ty (by rw[hm];rfl)) Oh
        have hn:=(eY hf).1;rw[hn]at hp h;have Oi:=pY (P:=EP S f.ty) (fun n h0 h1=>⟨(iI h0 h1).1,(iI h0 h1).2,aM _,rfl,fun q=>absurd q Oh,fun _=>rfl⟩) _ _ _ _ hp r4 (by have:=hw.len.2.2 r.num;omega) ((hw.vals r.num).ht f hf hs);exact iU hS hb F d _ r.e e deep m' h hd r5 he (hw.put (by omega) (sw hf hs Oi.1 Oi.2))
      ·rw[if_neg k2]at h;exact iU hS hb F d _ r.e e deep m' h hd r5 he Oa
  ·rw[if_neg q]at h
   cases h
   exact hw.mono ha
end Go.Proofs.YtfebdimolnobaaaGreatDoor
