import Derived.Test.YtfebdimolnobaaaGreatDoorBuE
import Derived.Shelf.Unicode.ValidAny
import Derived.Lib.ValidLaws
import Derived.Laws.Bits64
set_option maxRecDepth 100000
set_option maxHeartbeats 8000000
set_option linter.all false
namespace Go.Proofs.YtfebdimolnobaaaGreatDoor
open Go.RowKit Go.Proofs.Tryz
section
attribute [local go_sem↓] Go.wp_at_zero Go.wp_at_succ
def lW (s:am)(a:Nat)(deep lv:Int):Fx (Nat×Nat):=
 match eJ s a with
 | .error x=> .error x
 | .ok x=>if 8<deep+lv then .error (11,x.1)else .ok x
def GL (w:an)(rb:Nat)(s:am)(deep:Int)(r:Fx (Nat×Nat))(e:Ending)(w':an):Prop:=
 dS [rb] w w'/\(match r with
 | .error x=>e=dI x.1 x.2
 | .ok x=>∃nb,e= .returned (ag nb)/\w.heap.size<=nb/\nb≠rb/\dU w' nb (s.extract 0 x.2) x.1 (deep+1)/\dU w' rb s x.2 deep)
def nw (w:an)(rb:Nat)(s:am)(a:Nat)(deep lv:Int)(h:dU w rb s a deep)(hs:s.size<=140737488355328)(hd0:0<=deep)(hd1:deep<=8)(hl0:0<=lv)(hl1:lv<=2):
  Calls prog 185 #[ag rb,aa lv] w (GL w rb s deep (lW s a deep lv)):=by
 obtain⟨r,HR⟩:∃r,Hid (lW s a deep lv=r):=⟨_,rfl⟩;rw[HR.out];go_enter func185,ntmps185;go_wp2_with fail;refine(nt w rb s a deep h hs).mono ?_
 cases hv:eJ s a with
 |error x=>
  rintro e w2 ⟨hk,he⟩;obtain rfl:e=dI x.1 x.2:=he;obtain rfl:r= .error x:=by rw[<-HR.out,lW,hv]
  unfold dI;go_wp2;exact⟨rfl,hk,rfl⟩
 |ok x=>
  rintro e w2 ⟨hk,nb,rfl,QX,QV,QW,QY⟩;obtain⟨k1,k2⟩:=dK.rules QW
  by_cases hd:8<deep+lv
  ·obtain rfl:r= .error (11,(x.1:Int)):=by rw[<-HR.out,lW,hv];simp only;rw[dB hd]
   go_wp2_with fail;refine(Gg _ _ _).mono ?_;rintro e w4 ⟨rfl,rfl⟩;go_wp2;exact⟨rfl,hk,rfl⟩
  ·have hdd:decide (8<deep+lv)=false:=QF;obtain rfl:r= .ok x:=by rw[<-HR.out,lW,hv];simp only;rw[dA hd]
   go_wp2;go_ret;have h5:dU (w2.setCell (ai nb 2) (aa (deep+1))) nb (s.extract 0 x.2) x.1 (deep+1):=by unfold dU;simpa using dK.set QW 2 (aa (deep+1))
   have h6:dU (w2.setCell (ai nb 2) (aa (deep+1))) rb s x.2 deep:=dK.other QY 2 _ QV;refine⟨?_,nb,rfl,QX,QV,h5,h6⟩;exact⟨hk.os,hk.tape,hk.output,by simpa using hk.size,λk QS QT=>by rw[dJ,dA QD];exact hk.block k QS QT⟩
def jo (s:am)(a:Nat):Fx ((Int×Int)×Nat):=
 match gy s a s.size with
 | .error x=> .error x
 | .ok x=>if x.1/8<1\/536870911<x.1/8 then .error (8,a)else if x.1%8=0\/x.1%8=1\/x.1%8=2\/x.1%8=5 then .ok ((x.1/8,x.1%8),x.2)else .error (9,a)
def GM (w:an)(rb:Nat)(s:am)(a:Nat)(deep:Int)(h:dU w rb s a deep)(hs:s.size<=140737488355328):
  Calls prog 131 #[ag rb] w (oL w rb s deep (jo s a) (λx=> .agg #[aa x.1,aa x.2])):=by
 obtain⟨r,HR⟩:∃r,Hid (jo s a=r):=⟨_,rfl⟩;rw[HR.out];have h1:dU (w.alloc (ak #[aa 0,aa 0] 237)) rb s a deep:=dK.alloc h _;have K1:dS [rb] w (w.alloc (ak #[aa 0,aa 0] 237)):=(dS.refl _ _).alloc _;have B1:=dK.new w #[aa 0,aa 0] 237;have hlt:rb<w.heap.size:=dK.lt h;obtain⟨k1,k2⟩:=dK.rules h1;go_enter func131,ntmps131;go_wp2_with fail;generalize(w.alloc (ak #[aa 0,aa 0] 237))=w1 at*;clear k1 k2;refine(im w1 rb s a deep h1 hs).mono ?_
 cases hv:gy s a s.size with
 |error x=>
  rintro e w2 ⟨hk,he⟩;obtain rfl:e=dI x.1 x.2:=he;obtain rfl:r= .error x:=by rw[<-HR.out,jo,hv]
  unfold dI;go_wp2;exact⟨rfl,K1.trans hk,rfl⟩
 |ok x=>
  obtain⟨t,z⟩:=x;obtain⟨v0,v1,v2,v3⟩:=gM hv;rintro e w2 ⟨hk,he,hr⟩;have hr:dU w2 rb s z deep:=hr;obtain rfl:e= .returned (.int .u64 t):=he;have K2:=K1.trans hk;have B2:dK w2 w.heap.size #[aa 0,aa 0] 237:=(hk.block _ B1.lt QF).trans B1;have q1:t.tdiv 8=t/8:=Int.tdiv_eq_ediv_of_nonneg v0;have q2:t.tmod 8=t%8:=Int.tmod_eq_emod_of_nonneg v0;have QP:IntKind.i64.wrap (t%8)=t%8:=by simp[IntKind.wrap,IntKind.bits,IntKind.signed];omega
  have QQ:Hid (∀x y:Value,dS [rb] w ((w2.setCell (ai w.heap.size 0) x).setCell (ai w.heap.size 1) y)):=λx y=>
   ⟨K2.os,K2.tape,K2.output,by simpa using K2.size,λk QS QT=>by rw[dJ,dA QD,dJ,dA QD];exact K2.block k QS QT⟩
  have QR:Hid (∀x y:Value,dU ((w2.setCell (ai w.heap.size 0) x).setCell (ai w.heap.size 1) y) rb s z deep):=λx y=>(dK.other hr 0 x QD).other 1 y QD
  have QU:t/8<=536870911->IntKind.i64.wrap (t/8)=t/8:=λh=>by simp[IntKind.wrap,IntKind.bits,IntKind.signed];omega
  obtain⟨y7,y8⟩:=B2.rules
  by_cases hA:t/8=0
  ·obtain rfl:r= .error (8,(a:Int)):=by rw[<-HR.out,jo,hv];simp only;rw[dB QD]
   rw[hA]at q1;go_wp2_with fail;refine(Gg _ _ _).mono ?_;rintro e w4 ⟨rfl,rfl⟩;go_wp2;exact⟨rfl,K2,rfl⟩
  ·have hA2:(t/8==0)=false:=QF
   by_cases hB:536870911<t/8
   ·obtain rfl:r= .error (8,(a:Int)):=by rw[<-HR.out,jo,hv];simp only;rw[dB QD]
    go_wp2_with fail;refine(Gg _ _ _).mono ?_;rintro e w4 ⟨rfl,rfl⟩;go_wp2;exact⟨rfl,K2,rfl⟩
   ·have hB2:decide (536870911<t/8)=false:=QF;have hw8:=QU QD;clear QU
    by_cases g0:t%8=0
    ·obtain rfl:r= .ok ((t/8,0),z):=by rw[<-HR.out,jo,hv];simp only;rw[dA QD,dB QD,g0]
     rw[g0]at q2;clear g0 QP;go_wp2;exact dE (dZ results131 _ _ rfl ((B2.set 0 _).set 1 _) underlying237 QI) rfl ⟨QQ.out _ _,rfl,QR.out _ _⟩
    have b0:(t%8==0)=false:=by simp[g0]
    by_cases g1:t%8=1
    ·obtain rfl:r= .ok ((t/8,1),z):=by rw[<-HR.out,jo,hv];simp only;rw[dA QD,dB QD,g1]
     rw[g1]at q2;clear g1 QP;go_wp2;exact dE (dZ results131 _ _ rfl ((B2.set 0 _).set 1 _) underlying237 QI) rfl ⟨QQ.out _ _,rfl,QR.out _ _⟩
    have b1:(t%8==1)=false:=by simp[g1]
    by_cases g2:t%8=2
    ·obtain rfl:r= .ok ((t/8,2),z):=by rw[<-HR.out,jo,hv];simp only;rw[dA QD,dB QD,g2]
     rw[g2]at q2;clear g2 QP;go_wp2;exact dE (dZ results131 _ _ rfl ((B2.set 0 _).set 1 _) underlying237 QI) rfl ⟨QQ.out _ _,rfl,QR.out _ _⟩
    have b2:(t%8==2)=false:=by simp[g2]
    by_cases g5:t%8=5
    ·obtain rfl:r= .ok ((t/8,5),z):=by rw[<-HR.out,jo,hv];simp only;rw[dA QD,dB QD,g5]
     rw[g5]at q2;clear g5 QP;go_wp2;exact dE (dZ results131 _ _ rfl ((B2.set 0 _).set 1 _) underlying237 QI) rfl ⟨QQ.out _ _,rfl,QR.out _ _⟩
    have b5:(t%8==5)=false:=by simp[g5]
    obtain rfl:r= .error (9,(a:Int)):=by rw[<-HR.out,jo,hv];simp only;rw[dA QD,dA QD]
    go_wp2_with fail;refine(Gg _ _ _).mono ?_;rintro e w4 ⟨rfl,rfl⟩;go_wp2;exact⟨rfl,K2,rfl⟩
def wZ (s:am)(j:Nat):Int:=Fc s (s.size-j) j
def Be (s:am):wZ s s.size=0:=by unfold wZ;rw[Nat.sub_self];rfl
def xJ {s:am}{i:Nat}(h:i<s.size):wZ s i=256*wZ s (i+1)+fE s i:=by
 unfold wZ;rw[show s.size-i=(s.size-(i+1))+1 from by omega,Fc,dB h]
def zj:∀(k:Nat) (s:am) (j:Nat),s.size=j+k->0<=wZ s j/\wZ s j<256^k
 |0,s,j,h=>by
  rw[show j=s.size from by omega,Be];decide
 |k+1,s,j,h=>by
  have ih:=zj k s (j+1) QD;have hr:=jP s j;rw[xJ QD,Int.pow_succ];omega
def JS {x n:Int}(hx:0<=x)(h0:0<=n)(h1:n<256)(h2:x*256+n<18446744073709551616):bits .or .u64 (x*256) n=x*256+n:=by
 obtain⟨a,rfl⟩:=bo hx;obtain⟨b,rfl⟩:=bo h0;have e:((a:Int)*256)=((a*256:Nat):Int):=QD;rw[e]at h2⊢;have hb:b<2^8:=show b<256 by omega
 have e2:a*256=a<<<8:=by rw[de]
 rw[bits_or_u64_nat (a*256) b QD QD,e2,<-cW hb];omega
def Bf (w:an)(s:am)(hs:s.size<=8):Calls prog 406 #[ae s] w λe w'=>e= .returned (.int .u64 (uU s))/\w'=w:=by
 have e0:uU s=wZ s 0:=rfl;rw[e0];go_enter func406,ntmps406;go_wp2;go_loopw [3,4] (λv i wr=>∃(k:Nat),k<=s.size/\i=aa ((k:Int)-1)/\v= .int .u64 (wZ s k)/\w=wr) (λ_ i _=>((intOf i)+1).toNat)
 case atStart=>exact⟨s.size,ay _,rfl,by rw[Be],rfl⟩
 case round=>
  obtain⟨k,hk,rfl,rfl,rfl⟩:=hrel
  cases k with
  |zero=>
   go_wp2;go_ret;exact⟨rfl,rfl⟩
  |succ i=>
   have QU:i<s.size:=QD;have QW:=jb (t:=s) (k:=i) QU;have QS:=jP s i;have QR:=xJ QU;have QP:=zj (s.size-(i+1)) s (i+1) QD;have QQ:=zj (s.size-i) s i QD
   have hp:(256:Int)^(s.size-i)<=256^8:=by
    have:=dd (n:=256) QG (show s.size-i<=8 by omega)
    exact_mod_cast this
   obtain⟨c,hc⟩:∃c,fE s i=c:=⟨_,rfl⟩;rw[hc]at QW QS QR;obtain⟨x,hx⟩:∃x,wZ s (i+1)=x:=⟨_,rfl⟩;rw[hx]at QR QP⊢
   have QT:x*256+c<18446744073709551616:=by
    rw[QR]at QQ;have h3:(256:Int)^8=18446744073709551616:=QG;omega
   have hw1:IntKind.u64.wrap (x*256)=x*256:=gh QD QD;have hw2:IntKind.u64.wrap c=c:=gh QD QD;have hb:=JS QP.1 QS.1 QS.2 QT;have hgi:(0:Int)<=(i:Int):=QD;have QX:(i:Int)+1-1=(i:Int):=QD;have QV:((i+1:Nat):Int)-1=(i:Int):=QD;rw[QV];clear QV QX QP QQ hp e0;go_wp2;go_roundw
   case rel=>exact⟨i,QD,rfl,by rw[QR];congr 1;omega,trivial⟩
   case measure=>simp[intOf]
def gD (s:am)(a:Nat)(k:Nat):Fx (Int×Nat):=if a+k<=s.size then .ok (uU (s.extract a (a+k)),a+k)else .error (6,a)
def sf (s:am)(a k:Nat):oo s a k=if a+k<=s.size then .ok (s.extract a (a+k),a+k)else .error (6,(a:Int)):=by
 unfold oo
 by_cases h:a+k<=s.size
 ·rw[dB h,dB QD];simp
 ·rw[dA h,dA QD]
def si (w:an)(rb:Nat)(s:am)(a:Nat)(deep:Int)(h:dU w rb s a deep)(ha:a<=s.size)(hs:s.size<=140737488355328):
  Calls prog 352 #[ag rb] w (oL w rb s deep (gD s a 4) (Value.int .u64)):=by
 have HT:=ve w rb s a deep 4 h ha hs QG QG;rw[show(4:Int)=((4:Nat):Int)from rfl,sf]at HT;unfold gD
 by_cases QP:a+4<=s.size
 ·rw[dB QP]at HT⊢;go_enter func352,ntmps352;go_wp2_with fail;refine HT.mono ?_;rintro e w2 ⟨hk,he,hr⟩;obtain rfl:e= .returned (ae (s.extract a (a+4))):=he;go_wp2_with fail;refine(Bf w2 (s.extract a (a+4)) (by rw[aS];omega)).mono ?_;rintro e w3 ⟨rfl,rfl⟩;go_wp2;go_ret;exact⟨hk,rfl,hr⟩
 ·rw[dA QP]at HT⊢;go_enter func352,ntmps352;go_wp2_with fail;refine HT.mono ?_;rintro e w2 ⟨hk,he⟩;obtain rfl:e=dI 6 a:=he;unfold dI;go_wp2;exact⟨rfl,hk,rfl⟩
def pI (w:an)(rb:Nat)(s:am)(a:Nat)(deep:Int)(h:dU w rb s a deep)(ha:a<=s.size)(hs:s.size<=140737488355328):
  Calls prog 353 #[ag rb] w (oL w rb s deep (gD s a 8) (Value.int .u64)):=by
 have HT:=ve w rb s a deep 8 h ha hs QG QG;rw[show(8:Int)=((8:Nat):Int)from rfl,sf]at HT;unfold gD
 by_cases QP:a+8<=s.size
 ·rw[dB QP]at HT⊢;go_enter func353,ntmps353;go_wp2_with fail;refine HT.mono ?_;rintro e w2 ⟨hk,he,hr⟩;obtain rfl:e= .returned (ae (s.extract a (a+8))):=he;go_wp2_with fail;refine(Bf w2 (s.extract a (a+8)) (by rw[aS];omega)).mono ?_;rintro e w3 ⟨rfl,rfl⟩;go_wp2;go_ret;exact⟨hk,rfl,hr⟩
 ·rw[dA QP]at HT⊢;go_enter func353,ntmps353;go_wp2_with fail;refine HT.mono ?_;rintro e w2 ⟨hk,he⟩;obtain rfl:e=dI 6 a:=he;unfold dI;go_wp2;exact⟨rfl,hk,rfl⟩
def rj (w:an)(n:Int):Calls prog 348 #[.int .u64 n] w λe w'=>e= .returned (.int .u64 (n%4294967296))/\w'=w:=by
 have e1:IntKind.u64.wrap (IntKind.u32.wrap n)=n%4294967296:=by
  rw[IntKind.wrap_u32];exact gh QD QD
 go_enter func348,ntmps348;go_wp2;go_ret;exact⟨rfl,rfl⟩
def kD (w:an)(n:Int):Calls prog 347 #[.int .u64 n] w λe w'=>e= .returned (.int .u64 (lQ n))/\w'=w:=by
 have e1:IntKind.u64.wrap (IntKind.i32.wrap n)=lQ n:=by
  rw[IntKind.wrap_i32];unfold lQ
  split
  ·rw[show(n+2147483648)%4294967296-2147483648=n%4294967296 from by omega];exact gh QD QD
  ·simp[IntKind.wrap,IntKind.bits,IntKind.signed];omega
 have e2:IntKind.u64.wrap (wrap32 n)=lQ n:=by
  rw[<-e1]
  congr 1;rw[IntKind.wrap_i32];unfold wrap32;rfl
 go_enter func347,ntmps347;go_wp2;go_ret;exact⟨rfl,rfl⟩
def ui (w:an)(n:Int)(h0:0<=n):Calls prog 351 #[.int .u64 n] w λe w'=>e= .returned (.int .u64 (if 0<n then 1 else 0))/\w'=w:=by
 by_cases h:0<n
 ·have hd:(n==0)=false:=QF;rw[dB h];go_enter func351,ntmps351;go_wp2;go_ret;exact⟨rfl,rfl⟩
 ·obtain rfl:n=0:=QD;rw[dA h];go_enter func351,ntmps351;go_wp2;go_ret;exact⟨rfl,rfl⟩
def qo {n:Int}(h0:0<=n)(h1:n<18446744073709551616):bits .xor .u64 n 18446744073709551615=18446744073709551615-n:=by
 obtain⟨a,rfl⟩:=bo h0
 have hx:(BitVec.ofInt 64 (a:Int)).toNat=a:=by
  rw[BitVec.ofInt_natCast,BitVec.toNat_ofNat];exact Nat.mod_eq_of_lt QD
 show IntKind.u64.wrap (((BitVec.ofInt 64 (a:Int))^^^(BitVec.ofInt 64 18446744073709551615)).toNat:Int)=_;have e1:BitVec.ofInt 64 18446744073709551615=BitVec.allOnes 64:=QG;rw[e1,BitVec.xor_allOnes,BitVec.toNat_not,hx];rw[gh QD QD];omega
def qp {n:Int}(h0:0<=n)(h1:n<18446744073709551616):bits .xor .u64 n 0=n:=by
 obtain⟨a,rfl⟩:=bo h0
 have hx:(BitVec.ofInt 64 (a:Int)).toNat=a:=by
  rw[BitVec.ofInt_natCast,BitVec.toNat_ofNat];exact Nat.mod_eq_of_lt QD
 show IntKind.u64.wrap (((BitVec.ofInt 64 (a:Int))^^^(BitVec.ofInt 64 0)).toNat:Int)=_;have e1:BitVec.ofInt 64 0=0#64:=QG;rw[e1,BitVec.xor_zero,hx];exact gh QD QD
def zl {n:Int}(h0:0<=n)(h1:n<18446744073709551616):bits .and .u64 n 1=n%2:=by
 obtain⟨a,rfl⟩:=bo h0;rw[show(1:Int)=((1:Nat):Int)from rfl,bits_and_u64_nat a 1 QD QD,Nat.and_one_is_mod];omega
def CS (w:an)(n:Int)(h0:0<=n)(h1:n<18446744073709551616):Calls prog 350 #[.int .u64 n] w λe w'=>e= .returned (.int .u64 (AG n))/\w'=w:=by
 have hb:=zl h0 h1;unfold AG
 by_cases h:n%2=1
 ·rw[dB h];rw[h]at hb;have hw:IntKind.u64.wrap (-1)=18446744073709551615:=QG;have hx:=qo (n:=n/2) QD QD;go_enter func350,ntmps350;go_wp2;go_ret;exact⟨rfl,rfl⟩
 ·rw[dA h];have h2:n%2=0:=QD;rw[h2]at hb;have hw:IntKind.u64.wrap 0=0:=QG;have hx:=qp (n:=n/2) QD QD;go_enter func350,ntmps350;go_wp2;go_ret;exact⟨rfl,rfl⟩
def GN (w:an)(n:Int):Calls prog 349 #[.int .u64 n] w λe w'=>e= .returned (.int .u64 (AG (n%4294967296)))/\w'=w:=by
 go_enter func349,ntmps349;go_wp2_with fail;refine(rj w n).mono ?_;rintro e w2 ⟨rfl,rfl⟩;go_wp2_with fail;refine(CS _ (n%4294967296) QD QD).mono ?_;rintro e w2 ⟨rfl,rfl⟩;go_wp2;go_ret;exact⟨rfl,rfl⟩
end
end Go.Proofs.YtfebdimolnobaaaGreatDoor
namespace Go.Proofs
open Go.Shelf
def Tryz.laysVs_ren:Go.Shelf.Ren:=⟨fun|196=>325|259=>393|n=>n,fun|9=>9|4=>4|3=>3|5=>5|12=>12|119=>459|0=>0|46=>295|139=>462|138=>461|53=>53|n=>n,fun|3=>2|4=>3|n=>n⟩
theorem Tryz.laysVs:Go.Proofs.Lays.n196 Tryz.prog Tryz.laysVs_ren:={
 mixed:=by kernel_rfl
 f196:=Tryz.func325.trans (congrArg some (by kernel_rfl))
 f259:=Tryz.func393.trans (congrArg some (by kernel_rfl))
 t0:=Tryz.underlying0
 a0:=Tryz.isAgg0
 z0:=Tryz.sizeOf0
 v0:=Tryz.zeroValue0
 t3:=Tryz.underlying3
 a3:=Tryz.isAgg3
 z3:=Tryz.sizeOf3
 v3:=Tryz.zeroValue3
 t4:=Tryz.underlying4
 a4:=Tryz.isAgg4
 z4:=Tryz.sizeOf4
 v4:=Tryz.zeroValue4
 t5:=Tryz.underlying5
 a5:=Tryz.isAgg5
 z5:=Tryz.sizeOf5
 v5:=Tryz.zeroValue5
 t9:=Tryz.underlying9
 a9:=Tryz.isAgg9
 z9:=Tryz.sizeOf9
 v9:=Tryz.zeroValue9
 t12:=Tryz.underlying12
 a12:=Tryz.isAgg12
 z12:=Tryz.sizeOf12
 v12:=Tryz.zeroValue12
 t46:=Tryz.underlying295
 a46:=Tryz.isAgg295
 z46:=Tryz.sizeOf295
 v46:=Tryz.zeroValue295
 t53:=Tryz.underlying53
 a53:=Tryz.isAgg53
 z53:=Tryz.sizeOf53
 v53:=Tryz.zeroValue53
 t119:=Tryz.underlying459
 a119:=Tryz.isAgg459
 z119:=Tryz.sizeOf459
 t138:=Tryz.underlying461
 a138:=Tryz.isAgg461
 z138:=Tryz.sizeOf461
 v138:=Tryz.zeroValue461
 t139:=Tryz.underlying462
 a139:=Tryz.isAgg462
 z139:=Tryz.sizeOf462
 v139:=Tryz.zeroValue462
 g3:=by kernel_rfl
 g4:=by kernel_rfl}
end Go.Proofs
namespace Go.Proofs.YtfebdimolnobaaaGreatDoor
open Go.RowKit Go.Proofs.Tryz
section
attribute [local go_sem↓] Go.wp_at_zero Go.wp_at_succ
def UOK (w:an):Prop:=Lib.Utf8Tabs 2 3 w
def UOK.lt1 {w:an}(h:UOK w):2<w.heap.size:=aP _ _ (h.1 0 QG)
def UOK.lt2 {w:an}(h:UOK w):3<w.heap.size:=aP _ _ (h.2 0 QG).1
def UOK.keep {w w':an}(h:UOK w)(hb:w'.heap[2]?=w.heap[2]?)(hb2:w'.heap[3]?=w.heap[3]?):UOK w':=
 ⟨λc hc=>(bj (a:=(ai 2 c)) hb).trans (h.1 c hc), λi hi=>⟨(bj (a:=(ai 3 (2*i))) hb2).trans (h.2 i hi).1,(bj (a:=(ai 3 (2*i+1))) hb2).trans (h.2 i hi).2⟩⟩
def zp (w:an)(s:am)(hs:s.size<=140737488355328)(hu:UOK w):Calls prog 325 #[ae s] w λe w'=>e= .returned (.bool (Lib.validD s.data.toList))/\aj w w':=
 Any.utf8_ValidString Tryz.laysVs s w QD hu
def D5 (s:am)(w:an)(h:s.size<=140737488355328):
  Calls prog 108 #[ae s] w λe w'=>e= .returned (ae s)/\aj w w':=by
 go_enter func108,ntmps108;go_wp2_with fail;refine(AnyPu.stringslite_Clone Tryz.laysPu25 s _ QD).mono ?_;rintro e w1 ⟨rfl,hb⟩;go_wp2;go_ret;exact⟨rfl,hb⟩
def it {s:am}{a z e:Nat}(h:eJ s a= .ok (z,e)):a<z/\z<=e/\e<=s.size:=by
 unfold eJ at h
 split at h
 ·cases h
 ·rename_i x hv
  obtain⟨v0,v1,v2,v3⟩:=gM (m:=x.1) (z:=x.2) hv
  split at h
  ·simp at h;obtain⟨rfl,rfl⟩:=h;omega
  ·cases h
def D6 (s:am)(z e:Nat):(s.extract 0 e).extract z (s.extract 0 e).size=s.extract z e:=by
 apply cK;simp only[cH];apply Array.ext
 ·simp
 ·intro i h1 h2;simp
def mU (s:am)(a:Nat):Fx (am×Nat):=
 match eJ s a with
 | .error x=> .error x
 | .ok x=> .ok (s.extract x.1 x.2,x.2)
def qq (s:am)(a:Nat):Fx (am×Nat):=
 match eJ s a with
 | .error x=> .error x
 | .ok x=>if Lib.validD (s.extract x.1 x.2).data.toList then .ok (s.extract x.1 x.2,x.2)else .error (10,x.1)
def D7 (w:an)(rb:Nat)(s:am)(a:Nat)(deep:Int)(h:dU w rb s a deep)(hs:s.size<=140737488355328):
  Calls prog 270 #[ag rb] w (oL w rb s deep (mU s a) Value.string):=by
 obtain⟨r,HR⟩:∃r,Hid (mU s a=r):=⟨_,rfl⟩;rw[HR.out];go_enter func270,ntmps270;go_wp2_with fail;refine(nt w rb s a deep h hs).mono ?_
 cases hv:eJ s a with
 |error x=>
  rintro e w2 ⟨hk,he⟩;obtain rfl:e=dI x.1 x.2:=he;obtain rfl:r= .error x:=by rw[<-HR.out,mU,hv]
  unfold dI;go_wp2;exact⟨rfl,hk,rfl⟩
 |ok x=>
  obtain⟨z,en⟩:=x;obtain⟨v1,v2,v3⟩:=it hv;obtain rfl:r= .ok (s.extract z en,en):=by rw[<-HR.out,mU,hv]
  rintro e w2 ⟨hk,nb,rfl,Q0,Q1,QP,QU⟩;have QP:dU w2 nb (s.extract 0 en) z deep:=QP;have hsz:(s.extract 0 en).size=en:=by rw[aS];omega
  go_wp2_with fail;have HL:=CR w2 nb (s.extract 0 en) z deep QP QD;rw[D6]at HL;refine HL.mono ?_;rintro e w3 ⟨rfl,q,rfl⟩;go_wp2_with fail;refine(D5 (s.extract z en) _ (by rw[aS];omega)).mono ?_;rintro e w4 ⟨rfl,b4⟩;go_wp2;go_ret;exact⟨(hk.drewN q).trans (dS.of_below b4),rfl,dK.below (QU.drewN q) b4 (dK.lt QU)⟩
def GO (w:an)(rb:Nat)(s:am)(a:Nat)(deep:Int)(h:dU w rb s a deep)(hs:s.size<=140737488355328)(hu:UOK w)(hu1:rb≠2)(hu2:rb≠3):
  Calls prog 269 #[ag rb] w (oL w rb s deep (qq s a) Value.string):=by
 obtain⟨r,HR⟩:∃r,Hid (qq s a=r):=⟨_,rfl⟩;rw[HR.out];go_enter func269,ntmps269;go_wp2_with fail;refine(nt w rb s a deep h hs).mono ?_
 cases hv:eJ s a with
 |error x=>
  rintro e w2 ⟨hk,he⟩;obtain rfl:e=dI x.1 x.2:=he;obtain rfl:r= .error x:=by rw[<-HR.out,qq,hv]
  unfold dI;go_wp2;exact⟨rfl,hk,rfl⟩
 |ok x=>
  obtain⟨z,en⟩:=x;obtain⟨v1,v2,v3⟩:=it hv;rintro e w2 ⟨hk,nb,rfl,Q0,Q1,QP,QU⟩;have QP:dU w2 nb (s.extract 0 en) z deep:=QP;have hsz:(s.extract 0 en).size=en:=by rw[aS];omega
  have QV:UOK w2:=hu.keep (hk.block _ hu.lt1 (by simp;exact λe=>hu1 e.symm)) (hk.block _ hu.lt2 (by simp;exact λe=>hu2 e.symm))
  have HL:Hid (∀w3:an,dU w3 nb (s.extract 0 en) z deep->Calls prog 272 #[ag nb] w3 λe w'=>e= .returned (ae (s.extract z en))/\∃q,w'=w3.drewN q):=λw3 h3=>by
   have:=CR w3 nb (s.extract 0 en) z deep h3 QD;rw[D6]at this;exact this
  have QW:(s.extract z en).size<=140737488355328:=by rw[aS];omega
  have HV:Hid (∀w3:an,UOK w3->Calls prog 325 #[ae (s.extract z en)] w3 λe w'=>e= .returned (.bool (Lib.validD (s.extract z en).data.toList))/\aj w3 w'):=λw3 h3=>zp w3 _ QW h3
  have HC:Hid (∀w3:an,Calls prog 108 #[ae (s.extract z en)] w3 λe w'=>e= .returned (ae (s.extract z en))/\aj w3 w'):=λw3=>D5 _ w3 QW
  have HE:Hid (r=if Lib.validD (s.extract z en).data.toList then .ok (s.extract z en,en)else .error (10,(z:Int))):=by
   show r=_;rw[<-HR.out,qq,hv]
  clear HR hsz QW;generalize s.extract z en=X at*;generalize Lib.validD X.data.toList=vd at*;go_wp2_with fail;refine(HL.out w2 QP).mono ?_;rintro e w3 ⟨rfl,q,rfl⟩;have QQ:=QP.drewN q;have QR:dU (w2.drewN q) rb s en deep:=QU.drewN q;have QY:=hk.drewN q;have QZ:UOK (w2.drewN q):=QV.keep rfl rfl;generalize w2.drewN q=w3 at*;go_wp2_with fail;refine(HV.out w3 QZ).mono ?_;rintro e w4 ⟨rfl,b4⟩;have QS:dU w4 nb (s.extract 0 en) z deep:=dK.below QQ b4 (dK.lt QQ);have QT:dU w4 rb s en deep:=dK.below QR b4 (dK.lt QR);have QX:=QY.trans (dS.of_below b4)
  cases vd
  ·obtain rfl:r= .error (10,(z:Int)):=HE.out;obtain⟨k1,k2⟩:=dK.rules QS;go_wp2_with fail;refine(Gg _ _ _).mono ?_;rintro e w5 ⟨rfl,rfl⟩;go_wp2;exact⟨rfl,QX,rfl⟩
  ·obtain rfl:r= .ok (X,en):=HE.out;go_wp2_with fail;refine(HL.out w4 QS).mono ?_;rintro e w5 ⟨rfl,q5,rfl⟩;go_wp2_with fail;refine(HC.out _).mono ?_;rintro e w6 ⟨rfl,b6⟩;go_wp2;go_ret;exact⟨(QX.drewN q5).trans (dS.of_below b6),rfl,dK.below (QT.drewN q5) b6 (dK.lt QT)⟩
def kS (s:am)(a:Nat)(kind:Int):Fx (Unit×Nat):=
 if kind=0 then(match gy s a s.size with| .error x=> .error x| .ok x=> .ok ((),x.2))
 else if kind=1 then(match gD s a 8 with| .error x=> .error x| .ok x=> .ok ((),x.2))
 else if kind=5 then(match gD s a 4 with| .error x=> .error x| .ok x=> .ok ((),x.2))
 else(match eJ s a with| .error x=> .error x| .ok x=> .ok ((),x.2))
def GP (w:an)(rb:Nat)(s:am)(deep:Int)(r:Fx (Unit×Nat))(e:Ending)(w':an):Prop:=
 dS [rb] w w'/\(match r with
 | .error x=>e=dI x.1 x.2
 | .ok x=>e= .returned (.tuple #[])/\dU w' rb s x.2 deep)
def tq (s:am)(a k:Nat):(match oo s a k with| .error x=>Except.error x| .ok x=> .ok ((),x.2):Fx (Unit×Nat))=(match gD s a k with| .error x=> .error x| .ok x=> .ok ((),x.2)):=by
 rw[sf,gD]
 by_cases h:a+k<=s.size
 ·rw[dB h,dB h]
 ·rw[dA h,dA h]
def zq (w:an)(rb:Nat)(s:am)(a:Nat)(deep kind:Int)(h:dU w rb s a deep)(ha:a<=s.size)(hs:s.size<=140737488355328)(hk:kind=0\/kind=1\/kind=2\/kind=5):
  Calls prog 134 #[ag rb,aa kind] w (GP w rb s deep (kS s a kind)):=by
 have h8:=ve w rb s a deep 8 h ha hs QG QG;have h4:=ve w rb s a deep 4 h ha hs QG QG
 rcases hk with rfl|rfl|rfl|rfl
 ·have e0:kS s a 0=(match gy s a s.size with| .error x=> .error x| .ok x=> .ok ((),x.2)):=rfl;rw[e0];obtain⟨r,HR⟩:∃r,Hid ((match gy s a s.size with| .error x=> .error x| .ok x=> .ok ((),x.2):Fx (Unit×Nat))=r):=⟨_,rfl⟩;rw[HR.out];go_enter func134,ntmps134;go_wp2_with fail;refine(im w rb s a deep h hs).mono ?_
  cases hv:gy s a s.size with
  |error x=>
   rintro e w2 ⟨hk,he⟩;obtain rfl:e=dI x.1 x.2:=he;obtain rfl:r= .error x:=by rw[<-HR.out,hv]
   unfold dI;go_wp2;exact⟨rfl,hk,rfl⟩
  |ok x=>
   rintro e w2 ⟨hk,rfl,hr⟩;obtain rfl:r= .ok ((),x.2):=by rw[<-HR.out,hv]
   go_wp2;go_end0;exact⟨hk,rfl,hr⟩
 ·have e0:kS s a 1=(match oo s a 8 with| .error x=> .error x| .ok x=> .ok ((),x.2)):=(tq s a 8).symm;rw[e0];obtain⟨r,HR⟩:∃r,Hid ((match oo s a 8 with| .error x=> .error x| .ok x=> .ok ((),x.2):Fx (Unit×Nat))=r):=⟨_,rfl⟩;rw[HR.out];go_enter func134,ntmps134;go_wp2_with fail;refine h8.mono ?_
  cases hv:oo s a 8 with
  |error x=>
   rintro e w2 ⟨hk,he⟩;obtain rfl:e=dI x.1 x.2:=he;obtain rfl:r= .error x:=by rw[<-HR.out,hv]
   unfold dI;go_wp2;exact⟨rfl,hk,rfl⟩
  |ok x=>
   rintro e w2 ⟨hk,rfl,hr⟩;obtain rfl:r= .ok ((),x.2):=by rw[<-HR.out,hv]
   go_wp2;go_end0;exact⟨hk,rfl,hr⟩
 ·have e0:kS s a 2=(match eJ s a with| .error x=> .error x| .ok x=> .ok ((),x.2)):=rfl;rw[e0];obtain⟨r,HR⟩:∃r,Hid ((match eJ s a with| .error x=> .error x| .ok x=> .ok ((),x.2):Fx (Unit×Nat))=r):=⟨_,rfl⟩;rw[HR.out];go_enter func134,ntmps134;go_wp2_with fail;refine(nt w rb s a deep h hs).mono ?_
  cases hv:eJ s a with
  |error x=>
   rintro e w2 ⟨hk,he⟩;obtain rfl:e=dI x.1 x.2:=he;obtain rfl:r= .error x:=by rw[<-HR.out,hv]
   unfold dI;go_wp2;exact⟨rfl,hk,rfl⟩
  |ok x=>
   rintro e w2 ⟨hk,nb,rfl,_,_,_,hr⟩;obtain rfl:r= .ok ((),x.2):=by rw[<-HR.out,hv]
   go_wp2;go_end0;exact⟨hk,rfl,hr⟩
 ·have e0:kS s a 5=(match oo s a 4 with| .error x=> .error x| .ok x=> .ok ((),x.2)):=(tq s a 4).symm;rw[e0];obtain⟨r,HR⟩:∃r,Hid ((match oo s a 4 with| .error x=> .error x| .ok x=> .ok ((),x.2):Fx (Unit×Nat))=r):=⟨_,rfl⟩;rw[HR.out];go_enter func134,ntmps134;go_wp2_with fail;refine h4.mono ?_
  cases hv:oo s a 4 with
  |error x=>
   rintro e w2 ⟨hk,he⟩;obtain rfl:e=dI x.1 x.2:=he;obtain rfl:r= .error x:=by rw[<-HR.out,hv]
   unfold dI;go_wp2;exact⟨rfl,hk,rfl⟩
  |ok x=>
   rintro e w2 ⟨hk,rfl,hr⟩;obtain rfl:r= .ok ((),x.2):=by rw[<-HR.out,hv]
   go_wp2;go_end0;exact⟨hk,rfl,hr⟩
end
section
variable {b:am} {e a:Nat}
theorem fX (h:e<=b.size):(b.extract 0 e).size=e:=by(simp;omega)
theorem D8 {k:Nat}(h:e<=b.size)(hk:k<e):fE (b.extract 0 e) k=fE b k:=by
 unfold fE;rw[dif_pos (by(simp;omega)),dif_pos QD]
 congr 2;rw[ByteArray.getElem_extract];simp
theorem D9 (h:e<=b.size):∀f i n,lz (b.extract 0 e) a e f i n=lz b a e f i n
 |0,i,n=>rfl
 |f+1,i,n=>by
  unfold lz
  by_cases hl:a+i<e
  ·rw[dB hl,dB hl,D8 h hl,D9 h f]
  grind
theorem uj (h:e<=b.size):gy (b.extract 0 e) a (b.extract 0 e).size=gy b a e:=by
 rw[fX h];exact D9 h 10 0 0
theorem jw {z k:Nat}(h:e<=b.size)(hk:k<=e):(b.extract 0 e).extract z k=b.extract z k:=by
 apply cK;simp only[cH];apply Array.ext
 ·simp;omega
 ·intro i h1 h2;simp
theorem rk {k:Nat}(h:e<=b.size):gD (b.extract 0 e) a k=if a+k<=e then .ok (uU (b.extract a (a+k)),a+k)else .error (6,(a:Int)):=by
 unfold gD;rw[fX h]
 by_cases hl:a+k<=e
 ·rw[dB hl,dB hl,jw h hl]
 grind
theorem Bg (h:e<=b.size):eJ (b.extract 0 e) a=(match gy b a e with| .error x=> .error x| .ok x=>if(x.2:Int)+x.1<=e then .ok (x.2,x.2+x.1.toNat)else .error (6,x.2)):=by
 unfold eJ;rw[uj h,fX h];rfl
theorem GQ (h:e<=b.size):jo (b.extract 0 e) a=(match gy b a e with
  | .error x=> .error x
  | .ok x=>if x.1/8<1\/536870911<x.1/8 then .error (8,a)else if x.1%8=0\/x.1%8=1\/x.1%8=2\/x.1%8=5 then .ok ((x.1/8,x.1%8),x.2)else .error (9,a)):=by
 unfold jo;rw[uj h];try rfl
def JT (s:am)(a:Nat):Fx om:=
 match jo s a with
 | .error x=> .error x
 | .ok x=>
  if x.1.2=0 then(match gy s x.2 s.size with| .error y=> .error y| .ok y=> .ok ⟨x.1.1,0,a,x.2,y.2,y.1⟩)
  else if x.1.2=1 then(match gD s x.2 8 with| .error y=> .error y| .ok y=> .ok ⟨x.1.1,1,a,x.2,y.2,y.1⟩)
  else if x.1.2=5 then(match gD s x.2 4 with| .error y=> .error y| .ok y=> .ok ⟨x.1.1,5,a,x.2,y.2,y.1⟩)
  else(match eJ s x.2 with| .error y=> .error y| .ok y=> .ok ⟨x.1.1,2,a,y.1,y.2,0⟩)
theorem uk (h:e<=b.size):JT (b.extract 0 e) a=fw b a e:=by
 unfold JT fw;rw[GQ h]
 cases hv:gy b a e with
 |error x=>rfl
 |ok x=>
  obtain⟨t,fr⟩:=x;simp only
  by_cases h1:t/8<1\/536870911<t/8
  ·rw[dB h1,dB h1]
  ·rw[dA h1,dA h1]
   by_cases k0:t%8=0
   ·rw[dB (.inl k0),dB k0];simp only;rw[dB k0,uj h]
    cases gy b fr e<;>rfl
   ·by_cases k1:t%8=1
    ·rw[dB (.inr (.inl k1)),dA k0,dB k1];simp only;rw[dA k0,dB k1,rk h]
     grind
    ·by_cases k5:t%8=5
     ·rw[dB (.inr (.inr (.inr k5))),dA k0,dA k1,dB k5];simp only;rw[dA k0,dA k1,dB k5,rk h]
      grind
     ·by_cases k2:t%8=2
      ·rw[dB (.inr (.inr (.inl k2))),dA k0,dA k1,dA k5,dB k2];simp only;rw[dA k0,dA k1,dA k5,Bg h]
       grind
      simp_all
end
section
attribute [local go_sem↓] Go.wp_at_zero Go.wp_at_succ
def eK (k:Nat):Bool:=decide (k<=12)||decide (k=15)
def jD (k:Nat):Bool:=decide (k=0)||decide (k=1)||decide (k=4)||decide (k=5)||decide (k=9)||decide (k=10)||decide (k=15)
def CT (w:an)(k:Nat)(pv:Value)(hk:k<=16):Calls prog 283 #[.agg #[aa k,pv]] w λe w'=>e= .returned (Value.bool (eK k))/\aj w w':=by
 have B0:∀o,aj w (w.alloc o):=λo=>(Below.refl w.heap.size w).alloc (ay _) o
 rcases(show k=0\/k=1\/k=2\/k=3\/k=4\/k=5\/k=6\/k=7\/k=8\/k=9\/k=10\/k=11\/k=12\/k=13\/k=14\/k=15\/k=16 from by omega)with rfl|rfl|rfl|rfl|rfl|rfl|rfl|rfl|rfl|rfl|rfl|rfl|rfl|rfl|rfl|rfl|rfl
 all_goals
  go_enter func283,ntmps283;go_wp2;go_ret;exact⟨rfl,B0 _⟩
def nZ (w:an)(k:Nat)(pv:Value)(hk:k<=16):Calls prog 189 #[.agg #[aa k,pv]] w λe w'=>e= .returned (Value.bool (jD k))/\aj w w':=by
 have B0:∀o,aj w (w.alloc o):=λo=>(Below.refl w.heap.size w).alloc (ay _) o
 rcases(show k=0\/k=1\/k=2\/k=3\/k=4\/k=5\/k=6\/k=7\/k=8\/k=9\/k=10\/k=11\/k=12\/k=13\/k=14\/k=15\/k=16 from by omega)with rfl|rfl|rfl|rfl|rfl|rfl|rfl|rfl|rfl|rfl|rfl|rfl|rfl|rfl|rfl|rfl|rfl
 all_goals
  go_enter func189,ntmps189;go_wp2;go_ret;exact⟨rfl,B0 _⟩
def oM (w:an)(k:Nat)(pv:Value)(hk:k<=16):Calls prog 208 #[.agg #[aa k,pv]] w λe w'=>e= .returned (Value.int .i64 (ei k))/\aj w w':=by
 have B0:∀o,aj w (w.alloc o):=λo=>(Below.refl w.heap.size w).alloc (ay _) o
 rcases(show k=0\/k=1\/k=2\/k=3\/k=4\/k=5\/k=6\/k=7\/k=8\/k=9\/k=10\/k=11\/k=12\/k=13\/k=14\/k=15\/k=16 from by omega)with rfl|rfl|rfl|rfl|rfl|rfl|rfl|rfl|rfl|rfl|rfl|rfl|rfl|rfl|rfl|rfl|rfl
 all_goals
  go_enter func208,ntmps208;go_wp2;go_ret;exact⟨rfl,B0 _⟩
def CU (a:Nat)(x n:Int)(w:an)(ha:w.cell? (ai a 0)=some (aa x)):
  Calls prog 236 #[ag a,aa n] w λe w'=>e= .returned (aa (jV x n))/\w'=w:=by
 have hC:=pF x n;generalize jV x n=c at hC⊢;go_enter func236,ntmps236;go_wp2_with fail;refine(hC _).mono ?_;rintro e w' ⟨rfl,rfl⟩;go_wp2;go_ret;exact⟨rfl,rfl⟩
def um (N:List Int)(t:Int)(e:Ending):Prop:=
 ∃i:Nat,e= .returned (.tuple #[aa i,.bool (decide (N[i]?=some t))])/\i<=N.length/\(∀k x,N[k]?=some x->k<i->x<t)/\(∀k x,N[k]?=some x->i<=k->t<=x)
def GR (w:an)(v:Value)(l:List (Int×Nat))(t:Int)(lo:Nat)(hrow:w.ownsRow lo 212 1 v l.length (eQ (l.map (·.2))))(hc:∀x∈l,w.cell? (ai x.2 0)=some (aa x.1))(hs:l.Pairwise (λa b=>a.1<=b.1))(hl:l.length<=2001):
  Calls prog 235 #[v,aa t,.func (.func 236) #[] #[]] w λe w'=>um (l.map (·.1)) t e/\w'=w:=by
 obtain⟨a,c,rfl⟩:=iW hrow
 have HS:Hid (∀(i j:Nat) (x y:Int×Nat),l[i]?=some x->l[j]?=some y->i<=j->x.1<=y.1):=λi j x y hx hy QY=>by
  by_cases e:i=j
  ·subst e;rw[hx]at hy;obtain rfl:=Option.some.inj hy;exact dj _
  ·rw[bH]at hs;have hi:=gl hx;have hj:=gl hy;have:=hs i j hi hj QD;rw[aK hi]at hx;rw[aK hj]at hy;rw[<-Option.some.inj hx,<-Option.some.inj hy];exact this
 have HG:Hid (∀i x,l[i]?=some x->∃g,a=some (ai g 0)/\w.cell? (ai g i)=some (ag x.2)/\w.cell? (ai x.2 0)=some (aa x.1)):=λi x hx=>by
  have hi:=gl hx;obtain⟨g,rfl,_,_,QQ⟩:=eh hrow QD;exact⟨g,rfl,QQ w rfl i _ (by simp[eQ,hx,gC]),hc x (aI hx)⟩
 clear hs hc hrow;go_enter func235,ntmps235;go_wp2;go_loopw [9,10] (λiv jv wr=>∃(i j:Nat),i<=j/\j<=l.length/\iv=aa i/\jv=aa j/\Hid (∀k x,l[k]?=some x->k<i->x.1<t)/\Hid (∀k x,l[k]?=some x->j<=k->t<=x.1)/\w=wr) (λiv jv _=>((intOf jv)-(intOf iv)).toNat)
 case atStart=>exact⟨0,l.length,aM _,ay _,rfl,rfl,(λk x _ h=>QD),(λk x hx h=>by rw[aU QD]at hx;cases hx),rfl⟩
 case round=>
  obtain⟨i,j,QY,QZ,rfl,rfl,H1,H2,rfl⟩:=hrel
  by_cases QX:i<j
  ·obtain⟨h,hh⟩:∃h,(i+j)/2=h:=⟨_,rfl⟩;have Q1:h<l.length:=QD;have Q2:i<=h:=QD;have hhj:h<j:=QD;obtain⟨x,hx⟩:=gx Q1;obtain⟨g,rfl,Q3,QW⟩:=HG.out h x hx;have hw1:IntKind.u64.wrap ((i:Int)+(j:Int))=(i:Int)+(j:Int):=gh QD QD;have hdiv:((i:Int)+(j:Int))/2=(h:Int):=QD;have hw2:IntKind.i64.wrap (h:Int)=(h:Int):=by simp[IntKind.wrap,IntKind.bits,IntKind.signed];omega
   by_cases QU:x.1<t
   ·have hd:decide (jV x.1 t<0)=true:=by simp[mI,QU]
    have HX:Hid (l[h]?=some x):=hx;clear hh hx HG;go_wp2_with fail;refine(CU x.2 x.1 t _ QW).mono ?_;rintro e w2 ⟨rfl,rfl⟩;go_wp2;go_roundw
    case rel=>exact⟨h+1,j,QD,QZ,rfl,rfl,(λk y hy hk=>Int.lt_of_le_of_lt (HS.out k h y x hy HX.out QD) QU),H2,trivial⟩
    case measure=>simp[intOf];omega
   ·have hd:decide (jV x.1 t<0)=false:=decide_eq_false (λq=>QU ((mI _ _).1 q));have HX:Hid (l[h]?=some x):=hx;clear hh hx HG;go_wp2_with fail;refine(CU x.2 x.1 t _ QW).mono ?_;rintro e w2 ⟨rfl,rfl⟩;go_wp2;go_roundw
    case rel=>exact⟨i,h,Q2,QD,rfl,rfl,H1,(λk y hy hk=>Int.le_trans QD (HS.out h k x y HX.out hy hk)),trivial⟩
    case measure=>simp[intOf];omega
  ·obtain rfl:i=j:=QD;have hli:decide ((i:Int)<(i:Int))=false:=QE
   by_cases QR:i<l.length
   ·obtain⟨x,hx⟩:=gx QR;obtain⟨g,rfl,Q3,QW⟩:=HG.out i x hx;have HX:Hid (l[i]?=some x):=hx;have hti:=H2.out i x hx (ay _)
    have hd:(jV x.1 t==0)=decide (x.1=t):=by
     rw[cn];unfold jV
     by_cases q1:x.1<t
     ·simp[q1];omega
     ·by_cases q2:t<x.1
      ·simp[q1,q2];omega
      ·simp[q1,q2];omega
    have hN:decide ((l.map (·.1))[i]?=some t)=decide (x.1=t):=by rw[aO,hx];simp
    have HE:Hid (decide ((l.map (·.1))[i]?=some t)=decide (x.1=t)):=hN;clear hx HG hN QX QY;go_wp2_with fail;refine(CU x.2 x.1 t _ QW).mono ?_;rintro e w2 ⟨rfl,rfl⟩;go_wp2;go_ret2;refine⟨⟨i,by rw[HE.out];rfl,by simpa using QZ,?_,?_⟩,rfl⟩
    ·intro k y hy hk;rw[aO]at hy;obtain⟨z,hz,rfl⟩:=aX.1 hy;exact H1.out k z hz hk
    ·intro k y hy hk;rw[aO]at hy;obtain⟨z,hz,rfl⟩:=aX.1 hy;exact H2.out k z hz hk
   ·have hli2:decide ((i:Int)<(l.length:Int))=false:=QF
    have HE:Hid (decide ((l.map (·.1))[i]?=some t)=false):=by
     show decide ((l.map (·.1))[i]?=some t)=false;rw[aU (by rw[bm];omega)];simp
    clear HG QX QY;go_wp2;go_ret2;refine⟨⟨i,by rw[HE.out];rfl,by simpa using QZ,?_,?_⟩,rfl⟩
    ·intro k y hy hk;rw[aO]at hy;obtain⟨z,hz,rfl⟩:=aX.1 hy;exact H1.out k z hz hk
    ·intro k y hy hk;rw[aO]at hy;obtain⟨z,hz,rfl⟩:=aX.1 hy;exact H2.out k z hz hk
def g8:List GF->Int->Option GF
 | [],_=>none
 |g::l,t=>if g.f.num=t then some g else g8 l t
def vg:∀{gs:List GF} {t:Int} {i:Nat} {g:GF},gs[i]?=some g->g.f.num=t->(∀k x,gs[k]?=some x->k<i->x.f.num≠t)->g8 gs t=some g
 | [],_,_,_,h,_,_=>by simp at h
 |y::l,t,0,g,h,e,_=>by
  simp at h;subst h;rw[g8,dB e]
 |y::l,t,i+1,g,h,e,hn=>by
  rw[g8,dA (hn 0 y rfl QD)];exact vg (i:=i) (by simpa using h) e (λk x hx hk=>hn (k+1) x (by simpa using hx) QD)
def oa:∀{gs:List GF} {t:Int},(∀x∈gs,x.f.num≠t)->g8 gs t=none
 | [],_,_=>rfl
 |y::l,t,h=>by
  rw[g8,dA (h y aT)];exact oa (λx hx=>h x (be _ hx))
def GS (w:an)(P:ap)(mp:am->Option Nat)(r:Option GF)(e:Ending):Prop:=
 match r with
 |none=>e= .returned (.pointer none)
 |some g=>∃fb,e= .returned (ag fb)/\eG w P mp g fb
def pJ (w:an)(P:ap)(mp:am->Option Nat)(mb:Nat)(name:am)(gs:List GF)(t:Int)(h:iF w P mp mb name gs)(hs:gs.Pairwise (λx y=>x.f.num<=y.f.num))(hl:gs.length<=2001):
  Calls prog 153 #[ag mb,aa t] w λe w'=>GS w P mp (g8 gs t) e/\w'=w:=by
 obtain⟨fv,fbs,h1,h2,h3,h4⟩:=h;obtain⟨z,rfl,rfl,hz⟩:=h4.zip;obtain⟨fa,fn,fc,rfl⟩:=dL h3.1;obtain rfl:fn=z.length:=by have:=eI h3.1;simpa using this
 rw[bm]at hl h3
 have HS:=GR w (.slice fa z.length fc) (z.map λx=>(x.1.f.num,x.2)) t 0 (by rw[bm,bC,show((λx:Int×Nat=>x.2)∘λx:GF×Nat=>(x.1.f.num,x.2))=(λx=>x.2)from rfl];exact h3.1)
  (λx hx=>by obtain⟨y,hy,rfl⟩:=aQ.1 hx;exact(hz y hy).cell0.1) (by rw[bY]at hs⊢;exact hs) (by simpa using hl)
 obtain⟨k1,k2⟩:=h1.rules;go_enter func153,ntmps153;go_wp2_with fail;refine HS.mono ?_;rintro e w2 ⟨⟨i,rfl,hi,QS,QT⟩,rfl⟩;have eN:(List.map (·.1) (z.map λx:GF×Nat=>(x.1.f.num,x.2)))=z.map (λx=>x.1.f.num):=by rw[bC];rfl
 rw[eN]at hi QS QT⊢;rw[bm]at hi
 by_cases hf:(z.map (λx=>x.1.f.num))[i]?=some t
 ·rw[decide_eq_true hf];rw[aO]at hf;obtain⟨x,hx,QU⟩:=aX.1 hf
  have QP:g8 (z.map (·.1)) t=some x.1:=vg (i:=i) (by rw[aO,hx];rfl) QU (λk y hy hk e=>by
   rw[aO]at hy;obtain⟨u,hu,rfl⟩:=aX.1 hy;have:=QS k u.1.f.num (by rw[aO,hu];rfl) hk
   omega)
  have QR:=gl hx;obtain⟨g,rfl,_,_,QQ⟩:=eh h3.1 QD;have hg:=QQ w2 rfl i (ag x.2) (by simp[eQ,hx,gC]);have QX:(i:Int)<(z.length:Int):=QD;have HF:Hid (g8 (z.map (·.1)) t=some x.1):=QP;have HX:Hid (eG w2 P mp x.1 x.2):=hz x (aI hx);clear QP QQ QS QT hz HS;go_wp2;go_ret;refine⟨?_,rfl⟩;rw[HF.out];exact⟨x.2,rfl,HX.out⟩
 ·rw[decide_eq_false hf]
  have QP:g8 (z.map (·.1)) t=none:=oa (λy hy e=>by
   obtain⟨u,hu,rfl⟩:=aQ.1 hy;obtain⟨k,hk⟩:=cZ hu;have QV:(z.map (λx=>x.1.f.num))[k]?=some u.1.f.num:=by rw[aO,hk];rfl
   rcases Nat.lt_or_ge k i with q|q
   ·have:=QS k _ QV q;omega
   ·by_cases q2:k=i
    ·subst q2;rw[e]at QV;exact hf QV
    ·have h5:=QT k _ QV q;have QR:i<z.length:=by have:=gl hk;omega
     obtain⟨x,hx⟩:=gx QR;have h6:=QT i x.1.f.num (by rw[aO,hx];rfl) (ay _)
     have h7:x.1.f.num<=u.1.f.num:=by
      have Q0:=gl hk;rw[bY,bH]at hs;have h8:=hs i k QR Q0 QD;rw[aK QR]at hx;rw[aK Q0]at hk;rw[Option.some.inj hx,Option.some.inj hk]at h8;exact h8
     exact hf (by rw[aO,hx];simp;omega))
  have HF:Hid (g8 (z.map (·.1)) t=none):=QP;clear QP QS QT hz HS;go_wp2;go_ret;refine⟨?_,rfl⟩;rw[HF.out];rfl
def ee (mp:am->Option Nat)(g:GF):Nat:=if g.form=4 then 16 else iU mp g.f.ty
def zv:∀(l:List (List UInt8)) (s:List UInt8) (k n:Nat),AU l s k=some n->n<k+l.length
 | [],s,k,n,h=>by simp[AU]at h
 |x::l,s,k,n,h=>by
  unfold AU at h
  split at h
  ·simp at h;subst h;simp
  ·have:=zv l s (k+1) n h;simp;omega
def sj (mp:am->Option Nat)(t:am):iU mp t<=16:=by
 unfold iU mS
 split
 ·cases h:AU mz t.toList 0 with
  |none=>simp
  |some n=>
   have:=zv mz t.toList 0 n h;have e:mz.length=15:=rfl;simp;omega
 ·split<;>omega
def kT (mp:am->Option Nat)(g:GF):ee mp g<=16:=by
 unfold ee
 split
 ·omega
 ·exact sj mp _
def eG.blk {w:an}{P:ap}{mp:am->Option Nat}{g:GF}{fb:Nat}(h:eG w P mp g fb):
  ∃pv rv,dK w fb #[aa g.f.num,aa g.form,aa (ee mp g),pv,rv] 220/\P fb/\et w P 3 1 rv g.riv.length (fV g.riv)/\
   (if g.form=4 then∃eb,pv=gC (some eb)/\lB w P mp g.f.key g.f.ty eb else pv=gC (wX mp g.f.ty)):=by
 unfold eG at h;unfold ee
 split at h
 ·rename_i h0
  obtain⟨rv,eb,h1,h2,h3,h4⟩:=h;rw[dB h0];refine⟨gC (some eb),rv,by rw[h0];exact h1,h2,h3,?_⟩;rw[dB h0];exact⟨eb,rfl,h4⟩
 ·rename_i h0
  obtain⟨rv,h1,h2,h3⟩:=h;rw[dA h0];exact⟨_,rv,h1,h2,h3,by rw[dA h0]⟩
def lB.msg {w:an}{P:ap}{mp:am->Option Nat}{k v:am}{eb:Nat}(h:lB w P mp k v eb):iF w P mp eb eS [kz mQ k 1,kz oD v 2]:=by
 obtain⟨fv,b1,b2,h1,h2,h3,h4,h5⟩:=h;refine⟨fv,[b1,b2],h1,h2,h3,b1,[b2],rfl,?_,b2,[],rfl,?_,rfl⟩
 ·unfold eG;rw[dA (by simp[kz])];exact h4
 ·unfold eG;rw[dA (by simp[kz])];exact h5
def gN (mp:am->Option Nat)(g:GF):Bool:=(g.form==2)&&eK (ee mp g)
def lH (w:an)(P:ap)(mp:am->Option Nat)(g:GF)(fb:Nat)(h:eG w P mp g fb):
  Calls prog 209 #[ag fb] w λe w'=>e= .returned (.bool (gN mp g))/\aj w w':=by
 obtain⟨pv,rv,h1,_,_,_⟩:=h.blk;have hk:=CT;have QR:=kT mp g;unfold gN;obtain⟨k1,k2⟩:=h1.rules
 cases hf:(g.form==2)
 ·go_enter func209,ntmps209;go_wp2;go_ret;exact⟨rfl,Below.refl _ _⟩
 ·go_enter func209,ntmps209;go_wp2_with fail;refine(hk w (ee mp g) pv QR).mono ?_;rintro e w2 ⟨rfl,b2⟩;go_wp2;go_ret;exact⟨rfl,b2⟩
def kj (mp:am->Option Nat)(g:GF)(kind:Int):Bool:=(kind==(ei (ee mp g):Int))||((kind==2)&&gN mp g)
def Ms (w:an)(P:ap)(mp:am->Option Nat)(g:GF)(fb:Nat)(kind:Int)(h:eG w P mp g fb):
  Calls prog 183 #[ag fb,aa kind] w λe w'=>e= .returned (.bool (kj mp g kind))/\aj w w':=by
 obtain⟨pv,rv,h1,_,_,_⟩:=h.blk;have QR:=kT mp g;have HW:=oM w (ee mp g) pv QR;have HP:Hid (∀w2:an,aj w w2->Calls prog 209 #[ag fb] w2 λe w'=>e= .returned (.bool (gN mp g))/\aj w2 w'):=λw2 b2=>lH w2 P mp g fb (h.keep (λb _ hl=>b2.block b hl))
 unfold kj;obtain⟨k1,k2⟩:=h1.rules;generalize ee mp g=gb at*;generalize(ei gb:Int)=wb at*;generalize gN mp g=pg at*
 cases hf:(kind==wb)
 ·cases QS:(kind==2)
  ·go_enter func183,ntmps183;go_wp2_with fail;refine HW.mono ?_;rintro e w2 ⟨rfl,b2⟩;go_wp2;go_ret;exact⟨rfl,b2⟩
  ·go_enter func183,ntmps183;go_wp2_with fail;refine HW.mono ?_;rintro e w2 ⟨rfl,b2⟩;go_wp2_with fail;refine(HP.out w2 b2).mono ?_;rintro e w3 ⟨rfl,b3⟩;go_wp2;go_ret;exact⟨rfl,er b2 b3⟩
 ·go_enter func183,ntmps183;go_wp2_with fail;refine HW.mono ?_;rintro e w2 ⟨rfl,b2⟩;go_wp2;go_ret;exact⟨rfl,b2⟩
def jF (mp:am->Option Nat)(g:GF):Int:=if g.form=4/\iU mp g.f.ty=16 then 2 else if ee mp g=16 then 1 else 0
def sk (k v:am): [kz mQ k 1,kz oD v 2].Pairwise (λx y=>x.f.num<=y.f.num):=by simp[kz]
def Bh (k v:am):g8 [kz mQ k 1,kz oD v 2] 1=some (kz mQ k 1):=by simp[g8,kz]
def Bi (k v:am):g8 [kz mQ k 1,kz oD v 2] 2=some (kz oD v 2):=by simp[g8,kz]
def oN (w:an)(P:ap)(mp:am->Option Nat)(g:GF)(fb:Nat)(h:eG w P mp g fb):
  Calls prog 186 #[ag fb] w λe w'=>e= .returned (aa (jF mp g))/\w'=w:=by
 obtain⟨pv,rv,h1,_,_,h4⟩:=h.blk;obtain⟨k1,k2⟩:=h1.rules;unfold jF
 by_cases hf:g.form=4
 ·rw[dB hf]at h4;obtain⟨eb,rfl,hE⟩:=h4;have HF:=pJ w P mp eb eS _ 2 hE.msg (sk _ _) QE;rw[Bi]at HF;have QS:(g.form==4)=true:=by simp[hf]
  unfold gC at k1;have QP:ee mp g=16:=by unfold ee;rw[dB hf]
  rw[QP]at k1
  by_cases ht:iU mp g.f.ty=16
  ·rw[dB ⟨hf,ht⟩];clear hf h h1;go_enter func186,ntmps186;go_wp2_with fail;refine HF.mono ?_;rintro e w2 ⟨⟨vb,rfl,hV⟩,rfl⟩;obtain⟨QT,QU,h5,_,_,_⟩:=hV.blk;have QQ:ee mp (kz oD g.f.ty 2)=16:=by unfold ee;rw[dA (by simp[kz])];exact ht
   rw[QQ]at h5;obtain⟨k3,k4⟩:=h5.rules;go_wp2;go_ret;exact⟨rfl,rfl⟩
  ·rw[dA (λq=>ht q.2),dB QP];clear hf h h1;go_enter func186,ntmps186;go_wp2_with fail;refine HF.mono ?_;rintro e w2 ⟨⟨vb,rfl,hV⟩,rfl⟩;obtain⟨QT,QU,h5,_,_,_⟩:=hV.blk;have QQ:ee mp (kz oD g.f.ty 2)=iU mp g.f.ty:=by unfold ee;rw[dA (by simp[kz])];rfl
   rw[QQ]at h5;obtain⟨k3,k4⟩:=h5.rules;have ht2:((iU mp g.f.ty:Int)==16)=false:=QF;go_wp2;go_ret;exact⟨rfl,rfl⟩
 ·have QS:(g.form==4)=false:=by simp[hf]
  rw[dA (λq=>hf q.1)];clear h4
  by_cases QP:ee mp g=16
  ·rw[dB QP];rw[QP]at k1;clear hf;go_enter func186,ntmps186;go_wp2;go_ret;exact⟨rfl,rfl⟩
  ·rw[dA QP];have hg2:((ee mp g:Int)==16)=false:=QF;clear hf QP;go_enter func186,ntmps186;go_wp2;go_ret;exact⟨rfl,rfl⟩
def gp (s:am)(a k:Nat):Fx (Int×Nat):=
 match(if ei k=0 then gy s a s.size else if ei k=5 then gD s a 4 else gD s a 8)with
 | .error x=> .error x
 | .ok x=> .ok (fN k x.1,x.2)
def zx (w:an)(rb:Nat)(s:am)(a:Nat)(deep:Int)(k:Nat)(h:dU w rb s a deep)(ha:a<=s.size)(hs:s.size<=140737488355328)(hn:eK k=true):
  Calls prog 271 #[aa k,ag rb] w (oL w rb s deep (gp s a k) (Value.int .u64)):=by
 have hk:k=0\/k=1\/k=2\/k=3\/k=4\/k=5\/k=6\/k=7\/k=8\/k=9\/k=10\/k=11\/k=12\/k=15:=by
  unfold eK at hn;simp at hn;omega
 rcases hk with rfl|rfl|rfl|rfl|rfl|rfl|rfl|rfl|rfl|rfl|rfl|rfl|rfl|rfl
 ·have e0:gp s a 0=(match gy s a s.size with| .error x=> .error x| .ok x=> .ok (fN 0 x.1,x.2)):=rfl;rw[e0];obtain⟨r,HR⟩:∃r,Hid ((match gy s a s.size with| .error x=> .error x| .ok x=> .ok (fN 0 x.1,x.2):Fx (Int×Nat))=r):=⟨_,rfl⟩;rw[HR.out];go_enter func271,ntmps271;go_wp2_with fail;refine(im w rb s a deep h hs).mono ?_
  cases hv:gy s a s.size with
  |error x=>
   rintro e w2 ⟨hk,he⟩;obtain rfl:e=dI x.1 x.2:=he;obtain rfl:r= .error x:=by rw[<-HR.out,hv]
   unfold dI;go_wp2;exact⟨rfl,hk,rfl⟩
  |ok x=>
   obtain⟨n,z⟩:=x;obtain⟨v0,v1,v2,v3⟩:=gM hv;rintro e w2 ⟨hk,he,hr⟩;obtain rfl:e= .returned (.int .u64 n):=he;obtain rfl:r= .ok (fN 0 n,z):=by rw[<-HR.out,hv]
   go_wp2_with fail;refine(kD _ n).mono ?_;rintro e w3 ⟨rfl,rfl⟩;go_wp2;go_ret;exact⟨hk,rfl,hr⟩
 ·have e0:gp s a 1=(match gy s a s.size with| .error x=> .error x| .ok x=> .ok (fN 1 x.1,x.2)):=rfl;rw[e0];obtain⟨r,HR⟩:∃r,Hid ((match gy s a s.size with| .error x=> .error x| .ok x=> .ok (fN 1 x.1,x.2):Fx (Int×Nat))=r):=⟨_,rfl⟩;rw[HR.out];go_enter func271,ntmps271;go_wp2_with fail;refine(im w rb s a deep h hs).mono ?_
  cases hv:gy s a s.size with
  |error x=>
   rintro e w2 ⟨hk,he⟩;obtain rfl:e=dI x.1 x.2:=he;obtain rfl:r= .error x:=by rw[<-HR.out,hv]
   unfold dI;go_wp2;exact⟨rfl,hk,rfl⟩
  |ok x=>
   obtain⟨n,z⟩:=x;obtain⟨v0,v1,v2,v3⟩:=gM hv;rintro e w2 ⟨hk,he,hr⟩;obtain rfl:e= .returned (.int .u64 n):=he;obtain rfl:r= .ok (fN 1 n,z):=by rw[<-HR.out,hv]
   go_wp2;go_ret;exact⟨hk,rfl,hr⟩
 ·have e0:gp s a 2=(match gy s a s.size with| .error x=> .error x| .ok x=> .ok (fN 2 x.1,x.2)):=rfl;rw[e0];obtain⟨r,HR⟩:∃r,Hid ((match gy s a s.size with| .error x=> .error x| .ok x=> .ok (fN 2 x.1,x.2):Fx (Int×Nat))=r):=⟨_,rfl⟩;rw[HR.out];go_enter func271,ntmps271;go_wp2_with fail;refine(im w rb s a deep h hs).mono ?_
  cases hv:gy s a s.size with
  |error x=>
   rintro e w2 ⟨hk,he⟩;obtain rfl:e=dI x.1 x.2:=he;obtain rfl:r= .error x:=by rw[<-HR.out,hv]
   unfold dI;go_wp2;exact⟨rfl,hk,rfl⟩
  |ok x=>
   obtain⟨n,z⟩:=x;obtain⟨v0,v1,v2,v3⟩:=gM hv;rintro e w2 ⟨hk,he,hr⟩;obtain rfl:e= .returned (.int .u64 n):=he;obtain rfl:r= .ok (fN 2 n,z):=by rw[<-HR.out,hv]
   go_wp2_with fail;refine(rj _ n).mono ?_;rintro e w3 ⟨rfl,rfl⟩;go_wp2;go_ret;exact⟨hk,rfl,hr⟩
 ·have e0:gp s a 3=(match gy s a s.size with| .error x=> .error x| .ok x=> .ok (fN 3 x.1,x.2)):=rfl;rw[e0];obtain⟨r,HR⟩:∃r,Hid ((match gy s a s.size with| .error x=> .error x| .ok x=> .ok (fN 3 x.1,x.2):Fx (Int×Nat))=r):=⟨_,rfl⟩;rw[HR.out];go_enter func271,ntmps271;go_wp2_with fail;refine(im w rb s a deep h hs).mono ?_
  cases hv:gy s a s.size with
  |error x=>
   rintro e w2 ⟨hk,he⟩;obtain rfl:e=dI x.1 x.2:=he;obtain rfl:r= .error x:=by rw[<-HR.out,hv]
   unfold dI;go_wp2;exact⟨rfl,hk,rfl⟩
  |ok x=>
   obtain⟨n,z⟩:=x;obtain⟨v0,v1,v2,v3⟩:=gM hv;rintro e w2 ⟨hk,he,hr⟩;obtain rfl:e= .returned (.int .u64 n):=he;obtain rfl:r= .ok (fN 3 n,z):=by rw[<-HR.out,hv]
   go_wp2;go_ret;exact⟨hk,rfl,hr⟩
 ·have e0:gp s a 4=(match gy s a s.size with| .error x=> .error x| .ok x=> .ok (fN 4 x.1,x.2)):=rfl;rw[e0];obtain⟨r,HR⟩:∃r,Hid ((match gy s a s.size with| .error x=> .error x| .ok x=> .ok (fN 4 x.1,x.2):Fx (Int×Nat))=r):=⟨_,rfl⟩;rw[HR.out];go_enter func271,ntmps271;go_wp2_with fail;refine(im w rb s a deep h hs).mono ?_
  cases hv:gy s a s.size with
  |error x=>
   rintro e w2 ⟨hk,he⟩;obtain rfl:e=dI x.1 x.2:=he;obtain rfl:r= .error x:=by rw[<-HR.out,hv]
   unfold dI;go_wp2;exact⟨rfl,hk,rfl⟩
  |ok x=>
   obtain⟨n,z⟩:=x;obtain⟨v0,v1,v2,v3⟩:=gM hv;rintro e w2 ⟨hk,he,hr⟩;obtain rfl:e= .returned (.int .u64 n):=he;obtain rfl:r= .ok (fN 4 n,z):=by rw[<-HR.out,hv]
   go_wp2_with fail;refine(GN _ n).mono ?_;rintro e w3 ⟨rfl,rfl⟩;go_wp2;go_ret;exact⟨hk,rfl,hr⟩
 ·have e0:gp s a 5=(match gy s a s.size with| .error x=> .error x| .ok x=> .ok (fN 5 x.1,x.2)):=rfl;rw[e0];obtain⟨r,HR⟩:∃r,Hid ((match gy s a s.size with| .error x=> .error x| .ok x=> .ok (fN 5 x.1,x.2):Fx (Int×Nat))=r):=⟨_,rfl⟩;rw[HR.out];go_enter func271,ntmps271;go_wp2_with fail;refine(im w rb s a deep h hs).mono ?_
  cases hv:gy s a s.size with
  |error x=>
   rintro e w2 ⟨hk,he⟩;obtain rfl:e=dI x.1 x.2:=he;obtain rfl:r= .error x:=by rw[<-HR.out,hv]
   unfold dI;go_wp2;exact⟨rfl,hk,rfl⟩
  |ok x=>
   obtain⟨n,z⟩:=x;obtain⟨v0,v1,v2,v3⟩:=gM hv;rintro e w2 ⟨hk,he,hr⟩;obtain rfl:e= .returned (.int .u64 n):=he;obtain rfl:r= .ok (fN 5 n,z):=by rw[<-HR.out,hv]
   go_wp2_with fail;refine(CS _ n v0 v1).mono ?_;rintro e w3 ⟨rfl,rfl⟩;go_wp2;go_ret;exact⟨hk,rfl,hr⟩
 ·have e0:gp s a 6=(match gy s a s.size with| .error x=> .error x| .ok x=> .ok (fN 6 x.1,x.2)):=rfl;rw[e0];obtain⟨r,HR⟩:∃r,Hid ((match gy s a s.size with| .error x=> .error x| .ok x=> .ok (fN 6 x.1,x.2):Fx (Int×Nat))=r):=⟨_,rfl⟩;rw[HR.out];go_enter func271,ntmps271;go_wp2_with fail;refine(im w rb s a deep h hs).mono ?_
  cases hv:gy s a s.size with
  |error x=>
   rintro e w2 ⟨hk,he⟩;obtain rfl:e=dI x.1 x.2:=he;obtain rfl:r= .error x:=by rw[<-HR.out,hv]
   unfold dI;go_wp2;exact⟨rfl,hk,rfl⟩
  |ok x=>
   obtain⟨n,z⟩:=x;obtain⟨v0,v1,v2,v3⟩:=gM hv;rintro e w2 ⟨hk,he,hr⟩;obtain rfl:e= .returned (.int .u64 n):=he;obtain rfl:r= .ok (fN 6 n,z):=by rw[<-HR.out,hv]
   have HT:Hid (Calls prog 351 #[.int .u64 n] w2 λe w'=>e= .returned (.int .u64 (fN 6 n))/\w'=w2):=ui w2 n v0;generalize fN 6 n=b at*;go_wp2_with fail;refine HT.out.mono ?_;rintro e w3 ⟨rfl,rfl⟩;go_wp2;go_ret;exact⟨hk,rfl,hr⟩
 ·have e0:gp s a 7=(match gD s a 4 with| .error x=> .error x| .ok x=> .ok (fN 7 x.1,x.2)):=rfl;rw[e0];obtain⟨r,HR⟩:∃r,Hid ((match gD s a 4 with| .error x=> .error x| .ok x=> .ok (fN 7 x.1,x.2):Fx (Int×Nat))=r):=⟨_,rfl⟩;rw[HR.out];go_enter func271,ntmps271;go_wp2_with fail;refine(si w rb s a deep h ha hs).mono ?_
  cases hv:gD s a 4 with
  |error x=>
   rintro e w2 ⟨hk,he⟩;obtain rfl:e=dI x.1 x.2:=he;obtain rfl:r= .error x:=by rw[<-HR.out,hv]
   unfold dI;go_wp2;exact⟨rfl,hk,rfl⟩
  |ok x=>
   obtain⟨n,z⟩:=x;rintro e w2 ⟨hk,he,hr⟩;obtain rfl:e= .returned (.int .u64 n):=he;obtain rfl:r= .ok (fN 7 n,z):=by rw[<-HR.out,hv]
   go_wp2;go_ret;exact⟨hk,rfl,hr⟩
 ·have e0:gp s a 8=(match gD s a 8 with| .error x=> .error x| .ok x=> .ok (fN 8 x.1,x.2)):=rfl;rw[e0];obtain⟨r,HR⟩:∃r,Hid ((match gD s a 8 with| .error x=> .error x| .ok x=> .ok (fN 8 x.1,x.2):Fx (Int×Nat))=r):=⟨_,rfl⟩;rw[HR.out];go_enter func271,ntmps271;go_wp2_with fail;refine(pI w rb s a deep h ha hs).mono ?_
  cases hv:gD s a 8 with
  |error x=>
   rintro e w2 ⟨hk,he⟩;obtain rfl:e=dI x.1 x.2:=he;obtain rfl:r= .error x:=by rw[<-HR.out,hv]
   unfold dI;go_wp2;exact⟨rfl,hk,rfl⟩
  |ok x=>
   obtain⟨n,z⟩:=x;rintro e w2 ⟨hk,he,hr⟩;obtain rfl:e= .returned (.int .u64 n):=he;obtain rfl:r= .ok (fN 8 n,z):=by rw[<-HR.out,hv]
   go_wp2;go_ret;exact⟨hk,rfl,hr⟩
 ·have e0:gp s a 9=(match gD s a 4 with| .error x=> .error x| .ok x=> .ok (fN 9 x.1,x.2)):=rfl;rw[e0];obtain⟨r,HR⟩:∃r,Hid ((match gD s a 4 with| .error x=> .error x| .ok x=> .ok (fN 9 x.1,x.2):Fx (Int×Nat))=r):=⟨_,rfl⟩;rw[HR.out];go_enter func271,ntmps271;go_wp2_with fail;refine(si w rb s a deep h ha hs).mono ?_
  cases hv:gD s a 4 with
  |error x=>
   rintro e w2 ⟨hk,he⟩;obtain rfl:e=dI x.1 x.2:=he;obtain rfl:r= .error x:=by rw[<-HR.out,hv]
   unfold dI;go_wp2;exact⟨rfl,hk,rfl⟩
  |ok x=>
   obtain⟨n,z⟩:=x;rintro e w2 ⟨hk,he,hr⟩;obtain rfl:e= .returned (.int .u64 n):=he;obtain rfl:r= .ok (fN 9 n,z):=by rw[<-HR.out,hv]
   go_wp2_with fail;refine(kD _ n).mono ?_;rintro e w3 ⟨rfl,rfl⟩;go_wp2;go_ret;exact⟨hk,rfl,hr⟩
 ·have e0:gp s a 10=(match gD s a 8 with| .error x=> .error x| .ok x=> .ok (fN 10 x.1,x.2)):=rfl;rw[e0];obtain⟨r,HR⟩:∃r,Hid ((match gD s a 8 with| .error x=> .error x| .ok x=> .ok (fN 10 x.1,x.2):Fx (Int×Nat))=r):=⟨_,rfl⟩;rw[HR.out];go_enter func271,ntmps271;go_wp2_with fail;refine(pI w rb s a deep h ha hs).mono ?_
  cases hv:gD s a 8 with
  |error x=>
   rintro e w2 ⟨hk,he⟩;obtain rfl:e=dI x.1 x.2:=he;obtain rfl:r= .error x:=by rw[<-HR.out,hv]
   unfold dI;go_wp2;exact⟨rfl,hk,rfl⟩
  |ok x=>
   obtain⟨n,z⟩:=x;rintro e w2 ⟨hk,he,hr⟩;obtain rfl:e= .returned (.int .u64 n):=he;obtain rfl:r= .ok (fN 10 n,z):=by rw[<-HR.out,hv]
   go_wp2;go_ret;exact⟨hk,rfl,hr⟩
 ·have e0:gp s a 11=(match gD s a 4 with| .error x=> .error x| .ok x=> .ok (fN 11 x.1,x.2)):=rfl;rw[e0];obtain⟨r,HR⟩:∃r,Hid ((match gD s a 4 with| .error x=> .error x| .ok x=> .ok (fN 11 x.1,x.2):Fx (Int×Nat))=r):=⟨_,rfl⟩;rw[HR.out];go_enter func271,ntmps271;go_wp2_with fail;refine(si w rb s a deep h ha hs).mono ?_
  cases hv:gD s a 4 with
  |error x=>
   rintro e w2 ⟨hk,he⟩;obtain rfl:e=dI x.1 x.2:=he;obtain rfl:r= .error x:=by rw[<-HR.out,hv]
   unfold dI;go_wp2;exact⟨rfl,hk,rfl⟩
  |ok x=>
   obtain⟨n,z⟩:=x;rintro e w2 ⟨hk,he,hr⟩;obtain rfl:e= .returned (.int .u64 n):=he;obtain rfl:r= .ok (fN 11 n,z):=by rw[<-HR.out,hv]
   go_wp2;go_ret;exact⟨hk,rfl,hr⟩
 ·have e0:gp s a 12=(match gD s a 8 with| .error x=> .error x| .ok x=> .ok (fN 12 x.1,x.2)):=rfl;rw[e0];obtain⟨r,HR⟩:∃r,Hid ((match gD s a 8 with| .error x=> .error x| .ok x=> .ok (fN 12 x.1,x.2):Fx (Int×Nat))=r):=⟨_,rfl⟩;rw[HR.out];go_enter func271,ntmps271;go_wp2_with fail;refine(pI w rb s a deep h ha hs).mono ?_
  cases hv:gD s a 8 with
  |error x=>
   rintro e w2 ⟨hk,he⟩;obtain rfl:e=dI x.1 x.2:=he;obtain rfl:r= .error x:=by rw[<-HR.out,hv]
   unfold dI;go_wp2;exact⟨rfl,hk,rfl⟩
  |ok x=>
   obtain⟨n,z⟩:=x;rintro e w2 ⟨hk,he,hr⟩;obtain rfl:e= .returned (.int .u64 n):=he;obtain rfl:r= .ok (fN 12 n,z):=by rw[<-HR.out,hv]
   go_wp2;go_ret;exact⟨hk,rfl,hr⟩
 ·have e0:gp s a 15=(match gy s a s.size with| .error x=> .error x| .ok x=> .ok (fN 15 x.1,x.2)):=rfl;rw[e0];obtain⟨r,HR⟩:∃r,Hid ((match gy s a s.size with| .error x=> .error x| .ok x=> .ok (fN 15 x.1,x.2):Fx (Int×Nat))=r):=⟨_,rfl⟩;rw[HR.out];go_enter func271,ntmps271;go_wp2_with fail;refine(im w rb s a deep h hs).mono ?_
  cases hv:gy s a s.size with
  |error x=>
   rintro e w2 ⟨hk,he⟩;obtain rfl:e=dI x.1 x.2:=he;obtain rfl:r= .error x:=by rw[<-HR.out,hv]
   unfold dI;go_wp2;exact⟨rfl,hk,rfl⟩
  |ok x=>
   obtain⟨n,z⟩:=x;obtain⟨v0,v1,v2,v3⟩:=gM hv;rintro e w2 ⟨hk,he,hr⟩;obtain rfl:e= .returned (.int .u64 n):=he;obtain rfl:r= .ok (fN 15 n,z):=by rw[<-HR.out,hv]
   go_wp2_with fail;refine(kD _ n).mono ?_;rintro e w3 ⟨rfl,rfl⟩;go_wp2;go_ret;exact⟨hk,rfl,hr⟩
def rl (mp:am->Option Nat)(gs:List GF)(num kind:Int):Option GF:=
 match g8 gs num with
 |none=>none
 |some g=>if kj mp g kind then some g else none
def xK (w:an)(P:ap)(mp:am->Option Nat)(mb:Nat)(name:am)(gs:List GF)(num kind:Int)(h:iF w P mp mb name gs)(hs:gs.Pairwise (λx y=>x.f.num<=y.f.num))(hl:gs.length<=2001):
  Calls prog 132 #[ag mb,.agg #[aa num,aa kind]] w λe w'=>GS w' P mp (rl mp gs num kind) e/\aj w w':=by
 obtain⟨B0,K0⟩:=dR w #[aa num,aa kind] 237;have h0:=h.keep (w':=w.alloc (ak #[aa num,aa kind] 237)) (λb _ hl=>Below.heap_alloc _ _ _ hl);obtain⟨r,HR⟩:∃r,Hid (rl mp gs num kind=r):=⟨_,rfl⟩;rw[HR.out];go_enter func132,ntmps132;go_wp2_with fail;generalize w.alloc (ak #[aa num,aa kind] 237)=w1 at*;refine(pJ w1 P mp mb name gs num h0 hs hl).mono ?_
 cases hf:g8 gs num with
 |none=>
  rintro e w2 ⟨he,rfl⟩;obtain rfl:e= .returned (.pointer none):=he;obtain rfl:r=none:=by rw[<-HR.out,rl,hf]
  go_wp2;go_ret;exact⟨rfl,B0⟩
 |some g=>
  rintro e w2 ⟨⟨fb,rfl,hF⟩,rfl⟩;obtain⟨k1,k2⟩:=K0.rules;have HT:Hid (Calls prog 183 #[ag fb,aa kind] w2 λe w'=>e= .returned (.bool (kj mp g kind))/\aj w2 w'):=Ms w2 P mp g fb kind hF;have HF:Hid (∀w3:an,aj w2 w3->eG w3 P mp g fb):=λw3 b3=>hF.keep (λb _ hl=>b3.block b hl)
  go_wp2_with fail;refine HT.out.mono ?_
  cases hq:kj mp g kind
  ·obtain rfl:r=none:=by rw[<-HR.out,rl,hf];simp[hq]
   rintro e w3 ⟨rfl,b3⟩;go_wp2;go_ret;exact⟨rfl,er B0 b3⟩
  ·obtain rfl:r=some g:=by rw[<-HR.out,rl,hf];simp[hq]
   rintro e w3 ⟨rfl,b3⟩;go_wp2;go_ret;exact⟨⟨fb,rfl,HF.out w3 b3⟩,er B0 b3⟩
end
abbrev LV:=Int×am
def tO (v:LV):Value:= .agg #[.int .u64 v.1,ae v.2,ah,ae ⟨#[]⟩]
section
attribute [local go_sem↓] Go.wp_at_zero Go.wp_at_succ
def fY (s:am)(a k:Nat):Fx (LV×Nat):=
 if k=13 then(match qq s a with| .error x=> .error x| .ok x=> .ok ((0,x.1),x.2))
 else if k=14 then(match mU s a with| .error x=> .error x| .ok x=> .ok ((0,x.1),x.2))
 else(match gp s a k with| .error x=> .error x| .ok x=> .ok ((x.1,⟨#[]⟩),x.2))
def oO (w:an)(rb:Nat)(s:am)(a:Nat)(deep:Int)(k:Nat)(pv:Value)(h:dU w rb s a deep)(ha:a<=s.size)(hs:s.size<=140737488355328)(hk:k<=15)(hu:UOK w)(hu1:rb≠2)(hu2:rb≠3):
  Calls prog 194 #[.agg #[aa k,pv],ag rb] w (oL w rb s deep (fY s a k) tO):=by
 have K1:dS [rb] w ((w.alloc (ak #[aa k,pv] 216)).alloc (ak #[.int .u64 0,ae ⟨#[]⟩,ah,ae ⟨#[]⟩] 55)):=((dS.refl _ _).alloc _).alloc _;have h1:dU ((w.alloc (ak #[aa k,pv] 216)).alloc (ak #[.int .u64 0,ae ⟨#[]⟩,ah,ae ⟨#[]⟩] 55)) rb s a deep:=(dK.alloc h _).alloc _;have T1:=(dK.new w #[aa k,pv] 216).alloc (ak #[.int .u64 0,ae ⟨#[]⟩,ah,ae ⟨#[]⟩] 55);have V1:dK ((w.alloc (ak #[aa k,pv] 216)).alloc (ak #[.int .u64 0,ae ⟨#[]⟩,ah,ae ⟨#[]⟩] 55)) (w.heap.size+1) #[.int .u64 0,ae ⟨#[]⟩,ah,ae ⟨#[]⟩] 55:=dK.newAt QE _ _;have QS:UOK ((w.alloc (ak #[aa k,pv] 216)).alloc (ak #[.int .u64 0,ae ⟨#[]⟩,ah,ae ⟨#[]⟩] 55)):=hu.keep (K1.block _ hu.lt1 (by simp;exact λe=>hu1 e.symm)) (K1.block _ hu.lt2 (by simp;exact λe=>hu2 e.symm));have hlt:rb<w.heap.size:=dK.lt h
 have QQ:Hid (∀(w1 w2:an) (x:LV) (z:Nat),dS [rb] w w1->dK w1 (w.heap.size+1) #[.int .u64 0,ae ⟨#[]⟩,ah,ae ⟨#[]⟩] 55->dS [rb] w1 w2->dU w2 rb s z deep->
   dK (((((w2.setCell (ai (w.heap.size+1) 0) (.int .u64 x.1)).setCell (ai (w.heap.size+1) 1) (ae x.2)).setCell (ai (w.heap.size+1) 2) (ah)).setCell (ai (w.heap.size+1) 3) (ae ⟨#[]⟩))) (w.heap.size+1) #[.int .u64 x.1,ae x.2,ah,ae ⟨#[]⟩] 55/\
   dS [rb] w (((((w2.setCell (ai (w.heap.size+1) 0) (.int .u64 x.1)).setCell (ai (w.heap.size+1) 1) (ae x.2)).setCell (ai (w.heap.size+1) 2) (ah)).setCell (ai (w.heap.size+1) 3) (ae ⟨#[]⟩)))/\
   dU (((((w2.setCell (ai (w.heap.size+1) 0) (.int .u64 x.1)).setCell (ai (w.heap.size+1) 1) (ae x.2)).setCell (ai (w.heap.size+1) 2) (ah)).setCell (ai (w.heap.size+1) 3) (ae ⟨#[]⟩))) rb s z deep):=λw1 w2 x z k1 v1 k2 r2=>by
  have v2:dK w2 (w.heap.size+1) #[.int .u64 0,ae ⟨#[]⟩,ah,ae ⟨#[]⟩] 55:=(k2.block _ v1.lt QF).trans v1;refine⟨(((v2.set 0 _).set 1 _).set 2 _).set 3 _,?_,(((dK.other r2 0 _ QD).other 1 _ QD).other 2 _ QD).other 3 _ QD⟩;have k3:=k1.trans k2
  exact⟨k3.os,k3.tape,k3.output,by simpa using k3.size,λi hi hn=>by
   rw[dJ,dA QD,dJ,dA QD,dJ,dA QD,dJ,dA QD]
   exact k3.block i hi hn⟩
 obtain⟨r,HR⟩:∃r,Hid (fY s a k=r):=⟨_,rfl⟩;rw[HR.out]
 by_cases h13:k=13
 ·subst h13;have HV:Hid (fY s a 13=(match qq s a with| .error x=> .error x| .ok x=> .ok ((0,x.1),x.2))):=rfl;go_enter func194,ntmps194;go_wp2_with fail;generalize((w.alloc (ak #[aa ((13:Nat):Int),pv] 216)).alloc (ak #[.int .u64 0,ae ⟨#[]⟩,ah,ae ⟨#[]⟩] 55))=w1 at*;refine(GO w1 rb s a deep h1 hs QS hu1 hu2).mono ?_
  cases hv:qq s a with
  |error x=>
   rintro e w2 ⟨QP,he⟩;obtain rfl:e=dI x.1 x.2:=he;obtain rfl:r= .error x:=by rw[<-HR.out,HV.out,hv]
   unfold dI;go_wp2;exact⟨rfl,K1.trans QP,rfl⟩
  |ok x=>
   rintro e w2 ⟨QP,rfl,hr⟩;obtain rfl:r= .ok (((0,x.1):LV),x.2):=by rw[<-HR.out,HV.out,hv]
   obtain⟨q1,q2,q3⟩:=QQ.out w1 w2 ((0,x.1):LV) x.2 K1 V1 QP hr;have V2:dK w2 (w.heap.size+1) #[.int .u64 0,ae ⟨#[]⟩,ah,ae ⟨#[]⟩] 55:=(QP.block _ V1.lt QF).trans V1;obtain⟨y7,y8⟩:=V2.rules;clear QQ;go_wp2;exact dE (dZ results194 _ _ rfl q1 underlying55 QI) rfl ⟨q2,rfl,q3⟩
 ·by_cases h14:k=14
  ·subst h14;have HV:Hid (fY s a 14=(match mU s a with| .error x=> .error x| .ok x=> .ok ((0,x.1),x.2))):=rfl;go_enter func194,ntmps194;go_wp2_with fail;generalize((w.alloc (ak #[aa ((14:Nat):Int),pv] 216)).alloc (ak #[.int .u64 0,ae ⟨#[]⟩,ah,ae ⟨#[]⟩] 55))=w1 at*;refine(D7 w1 rb s a deep h1 hs).mono ?_
   cases hv:mU s a with
   |error x=>
    rintro e w2 ⟨QP,he⟩;obtain rfl:e=dI x.1 x.2:=he;obtain rfl:r= .error x:=by rw[<-HR.out,HV.out,hv]
    unfold dI;go_wp2;exact⟨rfl,K1.trans QP,rfl⟩
   |ok x=>
    rintro e w2 ⟨QP,rfl,hr⟩;obtain rfl:r= .ok (((0,x.1):LV),x.2):=by rw[<-HR.out,HV.out,hv]
    obtain⟨q1,q2,q3⟩:=QQ.out w1 w2 ((0,x.1):LV) x.2 K1 V1 QP hr;have V2:dK w2 (w.heap.size+1) #[.int .u64 0,ae ⟨#[]⟩,ah,ae ⟨#[]⟩] 55:=(QP.block _ V1.lt QF).trans V1;obtain⟨y7,y8⟩:=V2.rules;clear QQ;go_wp2;exact dE (dZ results194 _ _ rfl q1 underlying55 QI) rfl ⟨q2,rfl,q3⟩
  ·have HV:Hid (fY s a k=(match gp s a k with| .error x=> .error x| .ok x=> .ok ((x.1,⟨#[]⟩),x.2))):=by
    show fY s a k=_;unfold fY;rw[dA h13,dA h14]
   have b13:((k:Int)==13)=false:=QF;have b14:((k:Int)==14)=false:=QF;have QR:eK k=true:=by unfold eK;simp;omega
   obtain⟨t1,t2⟩:=T1.rules;go_enter func194,ntmps194;go_wp2_with fail;generalize((w.alloc (ak #[aa k,pv] 216)).alloc (ak #[.int .u64 0,ae ⟨#[]⟩,ah,ae ⟨#[]⟩] 55))=w1 at*;refine(zx w1 rb s a deep k h1 ha hs QR).mono ?_
   cases hv:gp s a k with
   |error x=>
    rintro e w2 ⟨QP,he⟩;obtain rfl:e=dI x.1 x.2:=he;obtain rfl:r= .error x:=by rw[<-HR.out,HV.out,hv]
    unfold dI;go_wp2;exact⟨rfl,K1.trans QP,rfl⟩
   |ok x=>
    rintro e w2 ⟨QP,rfl,hr⟩;obtain rfl:r= .ok (((x.1,⟨#[]⟩):LV),x.2):=by rw[<-HR.out,HV.out,hv]
    obtain⟨q1,q2,q3⟩:=QQ.out w1 w2 ((x.1,⟨#[]⟩):LV) x.2 K1 V1 QP hr;have V2:dK w2 (w.heap.size+1) #[.int .u64 0,ae ⟨#[]⟩,ah,ae ⟨#[]⟩] 55:=(QP.block _ V1.lt QF).trans V1;obtain⟨y7,y8⟩:=V2.rules;clear QQ;go_wp2;exact dE (dZ results194 _ _ rfl q1 underlying55 QI) rfl ⟨q2,rfl,q3⟩
end
section
open Go.Lib
def rm (s:am)(k:Nat):fE s k=((s.data.toList.getD k 0).toNat:Int):=by
 have hz:s.data.size=s.size:=rfl;unfold fE
 by_cases h:k<s.size
 ·rw[dif_pos h,bZ,bt,bz (show k<s.data.size from h)];rfl
 ·rw[dif_neg h,bZ,bt,cy QD];rfl
def qD (n:Nat)(b0 b1 b2 b3:Int):Option Nat:=
 if 240<=b0 then
  (if n<4 then none else if b1<128\/191<b1 then none else if b2<128\/191<b2 then none else if b3<128\/191<b3 then none else
   if 64*(64*(64*(b0-240)+b1-128)+b2-128)+b3-128<65536\/1114111<64*(64*(64*(b0-240)+b1-128)+b2-128)+b3-128\/(55296<=64*(64*(64*(b0-240)+b1-128)+b2-128)+b3-128/\64*(64*(64*(b0-240)+b1-128)+b2-128)+b3-128<=57343)then none else some 4)
 else if 224<=b0 then
  (if n<3 then none else if b1<128\/191<b1 then none else if b2<128\/191<b2 then none else
   if 64*(64*(b0-224)+b1-128)+b2-128<2048\/1114111<64*(64*(b0-224)+b1-128)+b2-128\/(55296<=64*(64*(b0-224)+b1-128)+b2-128/\64*(64*(b0-224)+b1-128)+b2-128<=57343)then none else some 3)
 else if 192<=b0 then
  (if n<2 then none else if b1<128\/191<b1 then none else
   if 64*(b0-192)+b1-128<128\/1114111<64*(b0-192)+b1-128\/(55296<=64*(b0-192)+b1-128/\64*(b0-192)+b1-128<=57343)then none else some 2)
 else if 128<=b0 then none
 else(if n<1 then none else if b0<0\/1114111<b0\/(55296<=b0/\b0<=57343)then none else some 1)
def Ob (s:am):O2 s=qD s.size (fE s 0) (fE s 1) (fE s 2) (fE s 3):=by
 unfold O2 qD N3
 by_cases h1:240<=fE s 0
 ·rw[dB h1,dB h1]
  by_cases h2:s.size<4
  ·rw[dB h2,dB h2]
  ·rw[dA h2,dA h2];show(match Gt s 3 1 (fE s 0-240)with|none=>none|some c=>_)=_;unfold Gt
   by_cases g1:fE s 1<128\/191<fE s 1
   ·rw[dB g1,dB g1]
   ·rw[dA g1,dA g1];unfold Gt
    by_cases g2:fE s 2<128\/191<fE s 2
    ·rw[dB g2,dB g2]
    ·rw[dA g2,dA g2];unfold Gt
     by_cases g3:fE s 3<128\/191<fE s 3
     ·rw[dB g3,dB g3]
     ·rw[dA g3,dA g3];rfl
 ·rw[dA h1,dA h1]
  by_cases h3:224<=fE s 0
  ·rw[dB h3,dB h3]
   by_cases h2:s.size<3
   ·rw[dB h2,dB h2]
   ·rw[dA h2,dA h2];show(match Gt s 2 1 (fE s 0-224)with|none=>none|some c=>_)=_;unfold Gt
    by_cases g1:fE s 1<128\/191<fE s 1
    ·rw[dB g1,dB g1]
    ·rw[dA g1,dA g1];unfold Gt
     by_cases g2:fE s 2<128\/191<fE s 2
     ·rw[dB g2,dB g2]
     ·rw[dA g2,dA g2];rfl
  ·rw[dA h3,dA h3]
   by_cases h4:192<=fE s 0
   ·rw[dB h4,dB h4]
    by_cases h2:s.size<2
    ·rw[dB h2,dB h2]
    ·rw[dA h2,dA h2];show(match Gt s 1 1 (fE s 0-192)with|none=>none|some c=>_)=_;unfold Gt
     by_cases g1:fE s 1<128\/191<fE s 1
     ·rw[dB g1,dB g1]
     ·rw[dA g1,dA g1];rfl
   ·rw[dA h4,dA h4]
    by_cases h5:128<=fE s 0
    ·rw[dB h5,dB h5]
    ·rw[dA h5,dA h5];rfl
def qE {n b0 b1 b2 b3:Nat}(hd:decodeN n b0 b1 b2 b3=(65533,1))(hu:qD n b0 b1 b2 b3=none):
  qD n b0 b1 b2 b3=if(decodeN n b0 b1 b2 b3).1=65533/\(decodeN n b0 b1 b2 b3).2=1 then none else some (decodeN n b0 b1 b2 b3).2:=by rw[hu,hd];simp
def uo {n b0 b1 b2 b3 c k:Nat}(hd:decodeN n b0 b1 b2 b3=(c,k))(hu:qD n b0 b1 b2 b3=some k)(QP:¬(c=65533/\k=1)):
  qD n b0 b1 b2 b3=if(decodeN n b0 b1 b2 b3).1=65533/\(decodeN n b0 b1 b2 b3).2=1 then none else some (decodeN n b0 b1 b2 b3).2:=by
 rw[hu,hd,dA QP]
def GT (n b0 b1 b2 b3:Nat)(hn:0<n)(h0:b0<256)(h1:b1<256)(h2:b2<256)(h3:b3<256):
  qD n b0 b1 b2 b3=if(decodeN n b0 b1 b2 b3).1=65533/\(decodeN n b0 b1 b2 b3).2=1 then none else some (decodeN n b0 b1 b2 b3).2:=by
 by_cases c0:b0<128
 ·refine uo (c:=b0) (k:=1) ?_ ?_ QD
  ·unfold decodeN;rw[dB c0]
  ·unfold qD;rw[dA QD,dA QD,dA QD,dA QD,dA QD,dA QD]
 ·by_cases c1:b0<192
  ·refine qE ?_ ?_
   ·unfold decodeN;rw[dA c0,dA (λq=>by have:=q.1;omega),dA (λq=>by have:=q.1;omega),dA (λq=>by have:=q.1;omega)]
   ·unfold qD;rw[dA QD,dA QD,dA QD,dB QD]
  ·by_cases c2:b0<224
   ·have e0:b0/32=6:=QD
    have hu:qD n b0 b1 b2 b3=if n<2 then none else if(b1:Int)<128\/191<(b1:Int)then none else
      if 64*((b0:Int)-192)+b1-128<128\/1114111<64*((b0:Int)-192)+b1-128\/(55296<=64*((b0:Int)-192)+b1-128/\64*((b0:Int)-192)+b1-128<=57343)then none else some 2:=by
     unfold qD;rw[dA QD,dA QD,dB QD]
    by_cases g:1<n/\b1/64=2
    ·by_cases q:b0%32*64+b1%64>=128
     ·refine uo (c:=b0%32*64+b1%64) (k:=2) ?_ ?_ QD
      ·unfold decodeN;rw[dA c0,dB ⟨e0,g⟩,dB q]
      ·rw[hu,dA QD,dA QD,dA QD]
     ·refine qE ?_ ?_
      ·unfold decodeN;rw[dA c0,dB ⟨e0,g⟩,dA q]
      ·rw[hu,dA QD,dA QD,dB QD]
    ·refine qE ?_ ?_
     ·unfold decodeN;rw[dA c0,dA (λq=>g q.2),dA (λq=>by have:=q.1;omega),dA (λq=>by have:=q.1;omega)]
     ·rw[hu]
      by_cases q:n<2
      ·rw[dB q]
      ·rw[dA q,dB QD]
   ·by_cases c3:b0<240
    ·have e0:b0/16=14:=QD
     have hu:qD n b0 b1 b2 b3=if n<3 then none else if(b1:Int)<128\/191<(b1:Int)then none else if(b2:Int)<128\/191<(b2:Int)then none else
       if 64*(64*((b0:Int)-224)+b1-128)+b2-128<2048\/1114111<64*(64*((b0:Int)-224)+b1-128)+b2-128\/(55296<=64*(64*((b0:Int)-224)+b1-128)+b2-128/\64*(64*((b0:Int)-224)+b1-128)+b2-128<=57343)then none else some 3:=by
      unfold qD;rw[dA QD,dB QD]
     by_cases g:(1<n/\b1/64=2)/\(2<n/\b2/64=2)
     ·obtain⟨⟨g1,g2⟩,g3,g4⟩:=g
      have hd:decodeN n b0 b1 b2 b3=if b0%16*4096+b1%64*64+b2%64>=2048/\(b0%16*4096+b1%64*64+b2%64<55296\/(57344<=b0%16*4096+b1%64*64+b2%64/\b0%16*4096+b1%64*64+b2%64<=1114111))then(b0%16*4096+b1%64*64+b2%64,3)else(65533,1):=by
       unfold decodeN;rw[dA c0,dA (λq=>by have:=q.1;omega),dB ⟨e0,⟨g1,g2⟩,g3,g4⟩]
      by_cases q:b0%16*4096+b1%64*64+b2%64>=2048/\(b0%16*4096+b1%64*64+b2%64<55296\/(57344<=b0%16*4096+b1%64*64+b2%64/\b0%16*4096+b1%64*64+b2%64<=1114111))
      ·rw[dB q]at hd;refine uo hd ?_ QD;rw[hu,dA QD,dA QD,dA QD,dA QD]
      ·rw[dA q]at hd;refine qE hd ?_;rw[hu,dA QD,dA QD,dA QD,dB QD]
     ·refine qE ?_ ?_
      ·unfold decodeN;rw[dA c0,dA (λq=>by have:=q.1;omega),dA (λq=>g q.2),dA (λq=>by have:=q.1;omega)]
      ·rw[hu]
       by_cases q:n<3
       ·rw[dB q]
       ·rw[dA q]
        by_cases q1:(b1:Int)<128\/191<(b1:Int)
        ·rw[dB q1]
        ·rw[dA q1,dB QD]
    ·have hu:qD n b0 b1 b2 b3=if n<4 then none else if(b1:Int)<128\/191<(b1:Int)then none else if(b2:Int)<128\/191<(b2:Int)then none else if(b3:Int)<128\/191<(b3:Int)then none else
       if 64*(64*(64*((b0:Int)-240)+b1-128)+b2-128)+b3-128<65536\/1114111<64*(64*(64*((b0:Int)-240)+b1-128)+b2-128)+b3-128\/(55296<=64*(64*(64*((b0:Int)-240)+b1-128)+b2-128)+b3-128/\64*(64*(64*((b0:Int)-240)+b1-128)+b2-128)+b3-128<=57343)then none else some 4:=by
      unfold qD;rw[dB QD]
     by_cases g:b0/8=30/\(1<n/\b1/64=2)/\(2<n/\b2/64=2)/\(3<n/\b3/64=2)
     ·have hd:decodeN n b0 b1 b2 b3=if b0%8*262144+b1%64*4096+b2%64*64+b3%64>=65536/\(b0%8*262144+b1%64*4096+b2%64*64+b3%64<55296\/(57344<=b0%8*262144+b1%64*4096+b2%64*64+b3%64/\b0%8*262144+b1%64*4096+b2%64*64+b3%64<=1114111))then(b0%8*262144+b1%64*4096+b2%64*64+b3%64,4)else(65533,1):=by
       unfold decodeN;rw[dA c0,dA (λq=>by have:=q.1;omega),dA (λq=>by have:=q.1;omega),dB g]
      obtain⟨e0,⟨g1,g2⟩,⟨g3,g4⟩,g5,g6⟩:=g
      by_cases q:b0%8*262144+b1%64*4096+b2%64*64+b3%64>=65536/\(b0%8*262144+b1%64*4096+b2%64*64+b3%64<55296\/(57344<=b0%8*262144+b1%64*4096+b2%64*64+b3%64/\b0%8*262144+b1%64*4096+b2%64*64+b3%64<=1114111))
      ·rw[dB q]at hd;refine uo hd ?_ QD;rw[hu,dA QD,dA QD,dA QD,dA QD,dA QD]
      ·rw[dA q]at hd;refine qE hd ?_;rw[hu,dA QD,dA QD,dA QD,dA QD,dB QD]
     ·refine qE ?_ ?_
      ·unfold decodeN;rw[dA c0,dA (λq=>by have:=q.1;omega),dA (λq=>by have:=q.1;omega),dA g]
      ·rw[hu]
       by_cases q:n<4
       ·rw[dB q]
       ·rw[dA q]
        by_cases q1:(b1:Int)<128\/191<(b1:Int)
        ·rw[dB q1]
        ·rw[dA q1]
         by_cases q2:(b2:Int)<128\/191<(b2:Int)
         ·rw[dB q2]
         ·rw[dA q2]
          by_cases q3:(b3:Int)<128\/191<(b3:Int)
          ·rw[dB q3]
          ·rw[dA q3,dB QD]
def xL:∀(f:Nat) (s:am),s.size<=f->N9 f s=validD s.data.toList
 |0,s,h=>by
  have e:s.data.toList= []:=bA (by rw[cT];exact Nat.le_zero.1 h);rw[e];rfl
 |f+1,s,h=>by
  unfold N9
  by_cases h0:s.size=0
  ·rw[dB h0];have e:s.data.toList= []:=bA (by rw[cT];exact h0);rw[e];rfl
  ·rw[dA h0];have hl:s.data.toList.length=s.size:=by rw[cT];rfl
   have QP:s.data.toList≠ []:=λe=>by rw[e]at hl;simp at hl;omega
   rw[validD_step _ QP,Ob,rm,rm,rm,rm,decodeL_N,hl];rw[GT s.size _ _ _ _ QD (UInt8.toNat_lt _) (UInt8.toNat_lt _) (UInt8.toNat_lt _) (UInt8.toNat_lt _)];have hw:=decodeL_width s.data.toList;rw[decodeL_N,hl]at hw;generalize decodeN s.size (s.data.toList.getD 0 0).toNat (s.data.toList.getD 1 0).toNat (s.data.toList.getD 2 0).toNat (s.data.toList.getD 3 0).toNat=D at*
   by_cases hD:D.1=65533/\D.2=1
   ·rw[dB hD,dB hD]
   ·rw[dA hD,dA hD];show N9 f (s.extract D.2 s.size)=_;rw[xL f _ (by rw[aS];omega)]
    congr 1;rw[cH,Array.toList_extract];simp[List.extract];rw[bU (by rw[List.length_drop,hl];exact ay _)]
def sl (s:am):OP s=validD s.data.toList:=xL s.size s (ay _)
end
section
variable {n:Int} {a:Nat} {m:PM} {S:d8} {d:MT}
theorem lX (n:Int)(vs:List PV):∀(l:List PF) (done:Bool) (x:PF),x∈gH n vs done l->(x=(n,vs)/\done=false)\/x∈l
 | [],done,x,h=>by
  cases done
  ·simp[gH]at h;exact .inl ⟨h,rfl⟩
  ·simp[gH]at h
 |y::l,done,x,h=>by
  rw[gH,aV,aV]at h
  rcases h with h|h|h
  ·by_cases q:(!done&&decide (n<=y.1))=true
   ·rw[dB q]at h;simp at h q;exact .inl ⟨h,q.1⟩
   ·rw[dA q]at h;cases h
  ·by_cases q:y.1=n
   ·rw[dB q]at h;cases h
   ·rw[dA q]at h;simp at h;exact .inr (by simp[h])
  ·rcases lX n vs l _ x h with⟨h1,h2⟩|h
   ·simp at h2;exact .inl ⟨h1,h2.1⟩
   ·exact .inr (by simp[h])
theorem ro (n:Int)(vs:List PV):∀(l:List PF) (done:Bool),(gH n vs done l).length<=l.length+(if done then 0 else 1)
 | [],done=>by cases done<;>simp[gH]
 |y::l,done=>by
  rw[gH,aG,aG];have h:=ro n vs l (done||decide (n<=y.1))
  cases done
  ·by_cases q:n<=y.1<;>by_cases e:y.1=n<;>simp[q,e]at h⊢<;>omega
  ·by_cases e:y.1=n<;>simp[e]at h⊢<;>omega
theorem lY {v:PV}:∀{l:List PF},v∈gm l n->∃x∈l,x.1=n/\x.2=gm l n
 | [],h=>by simp[gm]at h
 |x::l,h=>by
  by_cases q:x.1=n
  ·exact⟨x,QE,q,by simp[gm,q]⟩
  ·simp only[gm,q,if_false]at h⊢;obtain⟨y,h1,h2,h3⟩:=lY h;exact⟨y,by simp[h1],h2,h3⟩
theorem vh:∀{l:List PF},(∀x∈l,x.2.length<=a)->(gm l n).length<=a
 | [],_=>by simp[gm]
 |x::l,h=>by
  by_cases q:x.1=n
  ·simp only[gm,q,if_true];exact h x QE
  ·simp only[gm,q,if_false];exact vh (λy hy=>h y (by simp[hy]))
theorem rt (n:Int)(vs:List PV):∀(l:List PF),gm (gH n vs false l) n=vs
 | []=>by simp[gH,gm]
 |y::l=>by
  rw[gH]
  by_cases q:n<=y.1
  ·simp[q,gm]
  ·have e:¬y.1=n:=QD;simp[q,e,gm,rt n vs l]
theorem qr (n n':Int)(vs:List PV)(hn:n'≠n):∀(l:List PF) (done:Bool),gm (gH n vs done l) n'=gm l n'
 | [],done=>by cases done<;>simp[gH,gm,Ne.symm hn]
 |y::l,done=>by
  rw[gH];have ih:=qr n n' vs hn l (done||decide (n<=y.1));have QS:¬n=n':=λe=>hn e.symm
  by_cases q:(!done&&decide (n<=y.1))=true
  ·rw[dB q]
   by_cases e:y.1=n
   ·have e2:¬y.1=n':=λx=>hn (by rw[<-x,e])
    simp only[e,if_true,bi,aR,gm,QS,if_false];rw[e]at ih;rw[ih]
   ·by_cases e2:y.1=n'
    ·subst e2;simp only[e,if_false,bi,aR,gm,if_true,QS]
    ·simp only[e,if_false,bi,aR,gm,QS,e2];exact ih
  ·rw[dA q]
   by_cases e:y.1=n
   ·have e2:¬y.1=n':=λx=>hn (by rw[<-x,e])
    simp only[e,if_true,aR,gm,QS,if_false];rw[e]at ih;exact ih
   ·by_cases e2:y.1=n'
    ·subst e2;simp only[e,if_false,bi,aR,gm,if_true]
    ·simp only[e,if_false,bi,aR,gm,e2];exact ih
theorem PM.get_put (m:PM)(n:Int)(vs:List PV)(h:vs≠ []):(m.put n vs).get n=vs:=by
 have he:vs.isEmpty=false:=by cases vs with
  |nil=>exact absurd rfl h
  |cons _ _=>rfl
 unfold PM.put PM.get;rw[he];exact rt n vs m.fs
theorem PM.get_put_ne (m:PM)(n n':Int)(vs:List PV)(h:n'≠n):(m.put n vs).get n'=m.get n':=qr n n' vs h m.fs _
structure CK (t:am)(v:PV):Prop where
 lo:0<=v.1
 hi:v.1<18446744073709551616
 sz:v.2.1.size<=268435456
 str:gE t j9=true->v.1=0
 num:gE t j9=false->v.2.1=eS
structure O3 (a:Nat)(t:am)(v:PV):Prop where
 key:∃rest,v.2.2.get 1=fo v::rest
 ky:CK t (fo v)
 len:v.2.2.fs.length<=a+2
 m:v.1=0/\v.2.1=eS
structure GU (S:d8)(t:am)(v:PV):Prop where
 lo:0<=v.1
 hi:v.1<18446744073709551616
 sz:v.2.1.size<=268435456
 m:v.2.2=PM.none
 txt:S.wire t=2->v.1=0
 num:S.wire t≠2->v.2.1=eS
inductive WM (S:d8)(a:Nat):MT->PM->Prop where
 |mk (d:MT) (fs:List PF) (u:am) (hl:fs.length<=a) (hu:u.size<=a) (hv:∀x∈fs,x.2.length<=a)
  (hm:∀x∈fs,∀f,dP d.fs x.1=some f->f.isMap=true->∀v∈x.2,O3 a f.key v)
  (hz:∀x∈fs,∀f sub,dP d.fs x.1=some f->f.isMap=false->eR S f=some sub->∀v∈x.2,v.1=0/\v.2.1=eS)
  (hs:∀x∈fs,∀f sub,dP d.fs x.1=some f->f.isMap=false->eR S f=some sub->∀v∈x.2,WM S a sub v.2.2)
  (ht:∀x∈fs,∀f,dP d.fs x.1=some f->eR S f=none->∀v∈x.2,GU S f.ty v):WM S a d (.mk fs u)
theorem WM.len (h:WM S a d m):m.fs.length<=a/\m.unk.size<=a/\∀n,(m.get n).length<=a:=by
 cases h with
 |mk _ fs u hl hu hv _ _ _ _=>exact⟨hl,hu,λn=>vh hv⟩
theorem WM.mono {a':Nat}(ha:a<=a')(h:WM S a d m):WM S a' d m:=by
 induction h with
 |mk d fs u hl hu hv hm hz hs ht ih=>
  exact .mk d fs u QD QD (λx hx=>aH (hv x hx) ha) (λx hx f hf hi v hv=>let q:=hm x hx f hf hi v hv;⟨q.key,q.ky,by have:=q.len;omega,q.m⟩)
   hz ih ht
theorem WM.none (S:d8)(a:Nat)(d:MT):WM S a d PM.none:=
 .mk d [] eS (aM _) (aM _) (λ_ h=>by cases h) (λ_ h=>by cases h) (λ_ h=>by cases h) (λ_ h=>by cases h) (λ_ h=>by cases h)
structure O4 (S:d8)(a:Nat)(d:MT)(n:Int)(vs:List PV):Prop where
 hv:vs.length<=a
 hm:∀f,dP d.fs n=some f->f.isMap=true->∀v∈vs,O3 a f.key v
 hz:∀f sub,dP d.fs n=some f->f.isMap=false->eR S f=some sub->∀v∈vs,v.1=0/\v.2.1=eS
 hs:∀f sub,dP d.fs n=some f->f.isMap=false->eR S f=some sub->∀v∈vs,WM S a sub v.2.2
 ht:∀f,dP d.fs n=some f->eR S f=none->∀v∈vs,GU S f.ty v
theorem WM.put {a':Nat}(h:WM S a d m)(ha:a+1<=a'){vs:List PV}(hv:O4 S a' d n vs):WM S a' d (m.put n vs):=by
 have h2:=h.mono (show a<=a' by omega);have hl:=h.len.1
 cases h2 with
 |mk _ fs u _ hu QQ hm hz hs ht=>
  refine .mk d _ u ?_ hu ?_ ?_ ?_ ?_ ?_
  ·have:=ro n vs fs vs.isEmpty;have h3:(PM.mk fs u).fs.length<=a:=hl;simp only[PM.fs]at h3⊢
   split at this<;>omega
  ·intro x hx
   rcases lX n vs fs _ x hx with⟨rfl,_⟩|hx
   ·exact hv.hv
   ·exact QQ x hx
  ·intro x hx
   rcases lX n vs fs _ x hx with⟨rfl,_⟩|hx
   ·exact hv.hm
   ·exact hm x hx
  ·intro x hx
   rcases lX n vs fs _ x hx with⟨rfl,_⟩|hx
   ·exact hv.hz
   ·exact hz x hx
  ·intro x hx
   rcases lX n vs fs _ x hx with⟨rfl,_⟩|hx
   ·exact hv.hs
   ·exact hs x hx
  ·intro x hx
   rcases lX n vs fs _ x hx with⟨rfl,_⟩|hx
   ·exact hv.ht
   ·exact ht x hx
theorem WM.drop (h:WM S a d m)(n:Int):WM S a d (m.put n []):=by
 cases h with
 |mk _ fs u hl hu QQ hm hz hs ht=>
  have QP:∀x,x∈gH n [] true fs->x∈fs:=λx hx=>(lX n [] fs true x hx).resolve_left (λq=>by cases q.2)
  refine .mk d _ u ?_ hu (λx hx=>QQ x (QP x hx)) (λx hx=>hm x (QP x hx)) (λx hx=>hz x (QP x hx)) (λx hx=>hs x (QP x hx)) (λx hx=>ht x (QP x hx));have:=ro n [] fs true;simp only[PM.fs,List.isEmpty_nil]at this⊢;simp at this;omega
theorem WM.keep {a':Nat}(h:WM S a d m)(s:am)(hs:a+s.size<=a'):WM S a' d (m.keep s):=by
 have hl:=h.len.2.1;have h2:=h.mono (show a<=a' by omega)
 cases h2 with
 |mk _ fs u h1 hu QQ hm hz QR ht=>
  refine .mk d fs _ h1 ?_ QQ hm hz QR ht;simp only[PM.unk]at hl⊢;rw[ByteArray.size_append];omega
theorem WM.vals (h:WM S a d m)(n:Int):O4 S a d n (m.get n):=by
 cases h with
 |mk _ fs u hl hu QQ hm hz hs ht=>
  refine⟨vh QQ,?_,?_,?_,?_⟩
  ·intro f hf hi v hv;obtain⟨x,h1,h2,h3⟩:=lY hv;exact hm x h1 f (by rw[h2];exact hf) hi v (by rw[h3];exact hv)
  ·intro f sub hf hi QR v hv;obtain⟨x,h1,h2,h3⟩:=lY hv;exact hz x h1 f sub (by rw[h2];exact hf) hi QR v (by rw[h3];exact hv)
  ·intro f sub hf hi QR v hv;obtain⟨x,h1,h2,h3⟩:=lY hv;exact hs x h1 f sub (by rw[h2];exact hf) hi QR v (by rw[h3];exact hv)
  ·intro f hf QR v hv;obtain⟨x,h1,h2,h3⟩:=lY hv;exact ht x h1 f (by rw[h2];exact hf) QR v (by rw[h3];exact hv)
theorem WM.dropF (f:eP):∀(l:List eP) {m:PM},WM S a d m->WM S a d (ik f l m)
 | [],_,h=>h
 |o::l,m,h=>by
  rw[Go.Proofs.YtfebdimolnobaaaGreatDoor.ik];refine WM.dropF f l ?_
  split
  ·exact h.drop _
  ·exact h
end
def Fg (s:am)(k:Nat):Int:=Fc s (s.size-k) k
def Ea {s:am}{k:Nat}(h:¬k<s.size):Fg s k=0:=by
 unfold Fg;rw[show s.size-k=0 from by omega];rfl
def Bk {s:am}{k:Nat}(h:k<s.size):Fg s k=256*Fg s (k+1)+fE s k:=by
 unfold Fg;rw[show s.size-k=(s.size-(k+1))+1 from by omega,Fc,dB h]
def sq (s:am):∀d k,s.size-k=d->0<=Fg s k/\Fg s k<256^d
 |0,k,h=>by rw[Ea QD];decide
 |d+1,k,h=>by
  have hk:k<s.size:=QD;have:=sq s d (k+1) QD;have hb:=jP s k;rw[Bk hk,Int.pow_succ];omega
def sr {s:am}(h:s.size<=8):0<=uU s/\uU s<18446744073709551616:=by
 have h1:=sq s _ 0 rfl;have e:Fg s 0=uU s:=rfl;rw[e]at h1;refine⟨h1.1,Int.lt_of_lt_of_le h1.2 ?_⟩;have:=dd (n:=256) (i:=s.size-0) (j:=8) QG QD;have h2:=Int.ofNat_le.2 this;have e8:((256^8:Nat):Int)=18446744073709551616:=QG;rw[e8]at h2;exact h2
def iC {b:am}{a e:Nat}{r:om}(h:fw b a e= .ok r):r.a=a/\a<r.fr/\a+2<=r.e/\r.fr<=r.e/\r.e<=e/\0<=r.n/\r.n<18446744073709551616/\1<=r.num/\r.num<=536870911:=by
 unfold fw at h
 cases h1:gy b a e with
 |error x=>rw[h1]at h;cases h
 |ok x=>
  obtain⟨t,fr⟩:=x;rw[h1]at h;obtain⟨v1,v2,v3,v4⟩:=gM h1;simp only at h
  by_cases q:t/8<1\/536870911<t/8
  ·rw[dB q]at h;cases h
  ·rw[dA q]at h
   by_cases k0:t%8=0
   ·rw[dB k0]at h
    cases h2:gy b fr e with
    |error x=>rw[h2]at h;cases h
    |ok x=>
     obtain⟨n,en⟩:=x;rw[h2]at h;obtain⟨u1,u2,u3,u4⟩:=gM h2;simp only[Except.ok.injEq]at h;subst h;refine⟨rfl,?_,?_,?_,?_,u1,u2,?_,?_⟩<;>simp only<;>omega
   ·rw[dA k0]at h;have QW:∀(k:Nat),k<=8->0<=uU (b.extract fr (fr+k))/\uU (b.extract fr (fr+k))<18446744073709551616:=λk hk=>sr (by rw[aS];omega)
    by_cases k1:t%8=1
    ·rw[dB k1]at h
     by_cases z:fr+8<=e
     ·rw[dB z]at h;simp only[Except.ok.injEq]at h;subst h;refine⟨rfl,?_,?_,?_,?_,(QW 8 QD).1,(QW 8 QD).2,?_,?_⟩<;>simp only<;>omega
     ·rw[dA z]at h;cases h
    ·rw[dA k1]at h
     by_cases k5:t%8=5
     ·rw[dB k5]at h
      by_cases z:fr+4<=e
      ·rw[dB z]at h;simp only[Except.ok.injEq]at h;subst h;refine⟨rfl,?_,?_,?_,?_,(QW 4 QD).1,(QW 4 QD).2,?_,?_⟩<;>simp only<;>omega
      ·rw[dA z]at h;cases h
     ·rw[dA k5]at h
      by_cases k2:t%8=2
      ·rw[dB k2]at h
       cases h2:gy b fr e with
       |error x=>rw[h2]at h;cases h
       |ok x=>
        obtain⟨n,bh⟩:=x;rw[h2]at h;obtain⟨u1,u2,u3,u4⟩:=gM h2;simp only at h
        by_cases z:(bh:Int)+n<=e
        ·rw[dB z]at h;simp only[Except.ok.injEq]at h;subst h;refine⟨rfl,?_,?_,?_,?_,QE,QE,?_,?_⟩<;>simp only<;>omega
        ·rw[dA z]at h;cases h
      ·rw[dA k2]at h;cases h
def CV (n:Int):0<=lQ n/\lQ n<18446744073709551616:=by unfold lQ;split<;>omega
def xM {n:Int}(h0:0<=n)(h1:n<18446744073709551616):0<=AG n/\AG n<18446744073709551616:=by unfold AG;split<;>omega
def iu {k:Nat}{n:Int}(h0:0<=n)(h1:n<18446744073709551616):0<=fN k n/\fN k n<18446744073709551616:=by
 unfold fN
 split
 ·exact CV n
 ·split
  ·omega
  ·split
   ·exact xM QD QD
   ·split
    ·exact xM h0 h1
    ·split
     ·split<;>omega
     ·exact⟨h0,h1⟩
def eT:∀{l:List eP} {n:Int} {f:eP},dP l n=some f->f.num=n/\f∈l
 | [],_,_,h=>by cases h
 |x::l,n,f,h=>by
  rw[dP]at h
  by_cases q:x.num=n
  ·rw[dB q]at h;cases h;exact⟨q,QE⟩
  ·rw[dA q]at h;obtain⟨h1,h2⟩:=eT h;exact⟨h1,by simp[h2]⟩
def iP:∀{l:List MT} {s:am} {d:MT},lP l s=some d->d∈l
 | [],_,_,h=>by cases h
 |x::l,s,d,h=>by
  rw[lP]at h
  by_cases q:gE x.name s=true
  ·rw[dB q]at h;cases h;simp
  ·rw[dA q]at h;simp[iP h]
structure Mt (S:d8)(t:am):Prop where
 no:S.msg t=none
 w1:S.wire t=2->gE t j9=true
 w2:gE t j9=true->S.wire t=2
structure xN (S:d8):Prop where
 wire:∀t,(S.msg t).isSome=true->S.wire t=2
 key:∀d∈S.ms,∀f∈d.fs,f.isMap=true->Mt S f.key
def kU (S:d8)(d:MT):Prop:=∀f∈d.fs,f.isMap=true->Mt S f.key
def zA:gE kx AT=false:=by
 unfold gE;rw[ByteArray.toList_eq,ByteArray.toList_eq];decide
def xN.sub {S:d8}(hS:xN S){f:eP}{sub:MT}(h:eR S f=some sub):kU S sub:=by
 unfold eR at h
 by_cases q:f.isMap=true
 ·rw[dB q]at h
  cases h
  intro g hg hm;have e:∀(x y z:am) (n:Int),eP.isMap ⟨x,y,z,kx,n⟩=false:=λ_ _ _ _=>zA
  simp only[eo,aN,bF,or_false]at hg
  rcases hg with rfl|rfl
  ·rw[e]at hm;cases hm
  ·rw[e]at hm;cases hm
 ·rw[dA q]at h;exact λg hg hm=>hS.key sub (iP h) g hg hm
def GU.none (S:d8)(t:am):GU S t PV.none:=⟨QG,QG,QG,rfl,λ_=>rfl,λ_=>rfl⟩
def Eb {S:d8}{b:am}{f:eP}{r:om}{v:PV}(h:mR S b f r= .ok v)(hk:r.kind=S.wire f.ty)(hb:b.size<=268435456)(h0:0<=r.n)(h1:r.n<18446744073709551616):GU S f.ty v:=by
 unfold mR at h
 by_cases k:r.kind=2
 ·rw[dB k]at h
  split at h
  ·cases h
  ·cases h
   exact⟨QE,QE,by simp only[aS];omega,rfl,λ_=>rfl,λq=>absurd (hk.symm.trans k) q⟩
 ·rw[dA k]at h
  cases h
  exact⟨(iu h0 h1).1,(iu h0 h1).2,aM _,rfl,λq=>absurd (hk.trans q) k,λ_=>rfl⟩
def ru {b:am}{k e:Nat}{P:PV->Prop}(hP:∀n:Int,0<=n->n<18446744073709551616->P (fN k n,eS,PM.none)):∀(F:Nat) (l:List PV) (a:Nat) (l':List PV),fy b k e F l a= .ok l'->a<=e->l.length<=a->(∀v∈l,P v)->l'.length<=e/\∀v∈l',P v
 |0,l,a,l',h,ha,hl,hp=>by
  rw[fy]at h
  cases h
  exact⟨QD,hp⟩
 |F+1,l,a,l',h,ha,hl,hp=>by
  rw[fy]at h
  have QY:∀n:Int,0<=n->n<18446744073709551616->∀v∈l++ [(fN k n,eS,PM.none)],P v:=λn h0 h1 v hv=>by
   simp only[aV,bJ]at hv
   rcases hv with hv|rfl
   ·exact hp v hv
   ·exact hP n h0 h1
  by_cases q:a<e
  ·rw[dB q]at h
   by_cases z:ei k=0
   ·rw[dB z]at h
    cases h2:gy b a e with
    |error x=>rw[h2]at h;cases h
    |ok x=>
     obtain⟨n,y⟩:=x;rw[h2]at h;obtain⟨u1,u2,u3,u4⟩:=gM h2;exact ru hP F _ y l' h u4 QF (QY n u1 u2)
   ·rw[dA z]at h;simp only at h;generalize hy:(if ei k=5 then 4 else 8)=y at h
    have hy8:1<=y/\y<=8:=by
     split at hy<;>omega
    by_cases z2:a+y<=e
    ·rw[dB z2]at h;have hr:=sr (s:=b.extract a (a+y)) (by rw[aS];omega);exact ru hP F _ (a+y) l' h z2 QF (QY _ hr.1 hr.2)
    ·rw[dA z2]at h;cases h
  ·rw[dA q]at h
   cases h
   exact⟨QD,hp⟩
def vj (t:am)(v:PV):∀(l:List PV) (done:Bool) (x:PV),x∈fU t v done l->x=v\/x∈l
 | [],done,x,h=>by
  cases done
  ·simp[fU]at h;exact .inl h
  ·simp[fU]at h
 |y::l,done,x,h=>by
  rw[fU,aV,aV]at h
  rcases h with h|h|h
  ·split at h
   ·simp at h;exact .inl h
   ·cases h
  ·split at h
   ·cases h
   ·simp at h;exact .inr (by simp[h])
  ·rcases vj t v l _ x h with h|h
   ·exact .inl h
   ·exact .inr (by simp[h])
def vk (t:am)(v:PV):∀(l:List PV) (done:Bool),(fU t v done l).length<=l.length+(if done then 0 else 1)
 | [],done=>by cases done<;>simp[fU]
 |y::l,done=>by
  rw[fU,aG,aG];generalize hq:(jO t (fo v) (fo y)||gW (fo v) (fo y))=q;have h:=vk t v l (done||q)
  cases done<;>cases q<;>cases gW (fo v) (fo y)<;>simp at h⊢<;>omega
def PM.put_len (m:PM)(n:Int)(vs:List PV):(m.put n vs).fs.length<=m.fs.length+1:=by
 have:=ro n vs m.fs vs.isEmpty;show(gH n vs vs.isEmpty m.fs).length<=_
 split at this<;>omega
def zC {S:d8}{a:Nat}{f:eP}{sm:PM}(hk:Mt S f.key)(h:WM S a (eo f) sm):O3 a f.key (0,eS,fO sm):=by
 have hl:=h.len.1
 have h1:=(h.vals 1).ht ⟨mQ,f.key,eS,kx,1⟩ (by simp[eo,dP]) (by
  unfold eR;rw[dA (by show¬gE kx AT=true;rw[zA];decide)]
  exact hk.no)
 have hg:(fO sm).get 1=(if(sm.get 1).isEmpty then [PV.none]else sm.get 1):=by
  show(ft (ft sm 1) 2).get 1=_
  have e2:∀m:PM,(ft m 2).get 1=m.get 1:=λm=>by
   unfold ft
   split
   ·exact PM.get_put_ne m 2 1 _ QG
   ·rfl
  rw[e2];unfold ft
  split
  ·exact PM.get_put sm 1 [PV.none] QE
  ·rfl
 have Q3:∃x rest,(fO sm).get 1=x::rest/\GU S f.key x:=by
  rw[hg]
  cases he:sm.get 1 with
  |nil=>exact⟨PV.none,[],rfl,GU.none S _⟩
  |cons x rest=>exact⟨x,rest,rfl,h1 x (by rw[he];simp)⟩
 obtain⟨x,rest,e1,hx⟩:=Q3
 have QZ:fo (0,eS,fO sm)=x:=by
  show((fO sm).get 1).headD PV.none=x;rw[e1];rfl
 refine⟨⟨rest,by rw[QZ];exact e1⟩,?_,?_,rfl,rfl⟩
 ·rw[QZ];refine⟨hx.lo,hx.hi,hx.sz,λq=>hx.txt (hk.w2 q),λq=>hx.num (λz=> ?_)⟩;rw[hk.w1 z]at q
  cases q
 ·show(ft (ft sm 1) 2).fs.length<=a+2
  have e:∀(m:PM) (n:Int),(ft m n).fs.length<=m.fs.length+1:=λm n=>by
   unfold ft
   split
   ·exact PM.put_len m n _
   ·omega
  have:=e sm 1;have:=e (ft sm 1) 2;omega
def lK {S:d8}{a:Nat}{d:MT}{m:PM}{n:Int}{f:eP}{sub:MT}(h:WM S a d m)(hf:dP d.fs n=some f)(hs:eR S f=some sub):((eH f m).1=0/\(eH f m).2.1=eS)/\WM S a sub (eH f m).2.2:=by
 have hn:=(eT hf).1;unfold eH
 by_cases q:(f.isRep||f.isMap)=true
 ·rw[dB q];exact⟨⟨rfl,rfl⟩,WM.none S a sub⟩
 ·rw[dA q]
  have hm:f.isMap=false:=by
   cases hh:f.isMap with
   |false=>rfl
   |true=>rw[hh,cA]at q;exact absurd rfl q
  rw[hn]
  cases hg:m.get n with
  |nil=>exact⟨⟨rfl,rfl⟩,WM.none S a sub⟩
  |cons x rest=>
   have hx:x∈m.get n:=by rw[hg];simp
   exact⟨(h.vals n).hz f sub hf hm hs x hx,(h.vals n).hs f sub hf hm hs x hx⟩
def vm {S:d8}{a a':Nat}{d:MT}{m sm:PM}{n:Int}{f:eP}{sub:MT}(hd:kU S d)(h:WM S a d m)(hf:dP d.fs n=some f)(hs:eR S f=some sub)(ha:a+1<=a')(QV:WM S a' sub sm):
  WM S a' d (gB S d f m ((eH f m).1,(eH f m).2.1,sm)):=by
 obtain⟨hn,Q2⟩:=eT hf;obtain⟨⟨s1,s2⟩,_⟩:=lK h hf hs;have hlen:=h.len.2.2 n;unfold gB;rw[hn,s1,s2];have QP:∀g,dP d.fs n=some g->g=f:=λg hg=>by rw[hf]at hg;exact(Option.some.inj hg).symm
 have hold:=h.vals n
 by_cases q:f.isMap=true
 ·rw[dB q]
  have QX:sub=eo f:=by
   unfold eR at hs;rw[dB q]at hs;exact(Option.some.inj hs).symm
  subst QX;refine h.put ha ⟨?_,λg hg _ v hv=> ?_,λg QQ hg hm _=> ?_,λg QQ hg hm _=> ?_,λg hg QU=> ?_⟩
  ·have:=vk f.key (0,eS,fO sm) (m.get n) false;show(fU f.key (0,eS,fO sm) false (m.get n)).length<=a';simp at this;omega
  ·rw[QP g hg]
   rcases vj _ _ _ _ _ hv with rfl|hv
   ·exact zC (hd f Q2 q) QV
   ·have:=hold.hm f hf q v hv;exact⟨this.key,this.ky,by have:=this.len;omega,this.m⟩
  ·rw[QP g hg,q]at hm;cases hm
  ·rw[QP g hg,q]at hm;cases hm
  ·rw[QP g hg,hs]at QU;cases QU
 ·rw[dA q]
  have QS:f.isMap=false:=by
   cases hh:f.isMap with
   |false=>rfl
   |true=>exact absurd hh q
  by_cases r:f.isRep=true
  ·rw[dB r];refine h.put ha ⟨QF,λg hg hm=> ?_,λg QQ hg _ QR v hv=> ?_,λg QQ hg _ QR v hv=> ?_,λg hg QU=> ?_⟩
   ·rw[QP g hg,QS]at hm;cases hm
   ·rw[QP g hg]at QR;simp only[aV,bJ]at hv
    rcases hv with hv|rfl
    ·exact hold.hz f QQ hf QS QR v hv
    ·exact⟨rfl,rfl⟩
   ·rw[QP g hg,hs]at QR
    cases QR
    simp only[aV,bJ]at hv
    rcases hv with hv|rfl
    ·exact(hold.hs f sub hf QS hs v hv).mono QD
    ·exact QV
   ·rw[QP g hg,hs]at QU;cases QU
  ·rw[dA r,dA (by rw[hs];simp)];refine(h.dropF f d.fs).put ha ⟨QF,λg hg hm=> ?_,λg QQ hg _ QR v hv=> ?_,λg QQ hg _ QR v hv=> ?_,λg hg QU=> ?_⟩
   ·rw[QP g hg,QS]at hm;cases hm
   ·simp only[bJ]at hv;subst hv;exact⟨rfl,rfl⟩
   ·rw[QP g hg,hs]at QR
    cases QR
    simp only[bJ]at hv;subst hv;exact QV
   ·rw[QP g hg,hs]at QU;cases QU
def uq {S:d8}{a:Nat}{d:MT}{n:Int}{f:eP}{vs:List PV}(hf:dP d.fs n=some f)(hs:eR S f=none)(hl:vs.length<=a)(hv:∀v∈vs,GU S f.ty v):O4 S a d n vs:=by
 have QP:∀g,dP d.fs n=some g->g=f:=λg hg=>by rw[hf]at hg;exact(Option.some.inj hg).symm
 refine⟨hl,λg hg hm=> ?_,λg QQ hg _ QR=> ?_,λg QQ hg _ QR=> ?_,λg hg _ v hx=> ?_⟩
 ·rw[QP g hg]at hm;unfold eR at hs;rw[dB hm]at hs
  cases hs
 ·rw[QP g hg,hs]at QR;cases QR
 ·rw[QP g hg,hs]at QR;cases QR
 ·rw[QP g hg];exact hv v hx
def vq {S:d8}{a a':Nat}{d:MT}{m:PM}{n:Int}{f:eP}{v:PV}(h:WM S a d m)(hf:dP d.fs n=some f)(hs:eR S f=none)(ha:a+1<=a')(hv:GU S f.ty v):WM S a' d (gB S d f m v):=by
 obtain⟨hn,Q2⟩:=eT hf;have hlen:=h.len.2.2 n;unfold gB;rw[hn]
 have QS:¬f.isMap=true:=λq=>by
  unfold eR at hs;rw[dB q]at hs
  cases hs
 rw[dA QS]
 split
 ·refine h.put ha (uq hf hs QF λx hx=> ?_);simp only[aV,bJ]at hx
  rcases hx with hx|rfl
  ·exact(h.vals n).ht f hf hs x hx
  ·exact hv
 ·split
  ·exact(h.drop n).mono QD
  ·refine(h.dropF f d.fs).put ha (uq hf hs QF λx hx=> ?_);simp only[bJ]at hx;subst hx;exact hv
def jW {S:d8}{b:am}(hS:xN S)(hb:b.size<=268435456):∀(F:Nat) (d:MT) (m:PM) (a e deep:Nat) (m':PM),ew S b F d m a e deep= .ok m'->kU S d->a<=e->e<=b.size->WM S a d m->WM S e d m'
 |0,d,m,a,e,deep,m',h,_,ha,_,hw=>by
  rw[ew]at h
  cases h
  exact hw.mono ha
 |F+1,d,m,a,e,deep,m',h,hd,ha,he,hw=>by
  rw[ew]at h
  by_cases q:a<e
  ·rw[dB q]at h
   cases hr:fw b a e with
   |error x=>rw[hr]at h;cases h
   |ok r=>
    rw[hr]at h;obtain⟨r1,r2,r3,r4,r5,r6,r7,_,_⟩:=iC hr;have QT:WM S r.e d (m.keep (b.extract r.a r.e)):=hw.keep _ (by rw[aS];omega);simp only at h
    cases hf:dP d.fs r.num with
    |none=>
     rw[hf]at h;exact jW hS hb F d _ r.e e deep m' h hd r5 he QT
    |some f=>
     rw[hf]at h;simp only at h
     by_cases k:r.kind=fA S f
     ·rw[dB k]at h
      cases hs:eR S f with
      |some sub=>
       rw[hs]at h;simp only at h
       by_cases hfar:ot S sub (deep+1)=true
       ·rw[dB hfar]at h;cases h
       ·rw[dA hfar]at h
        cases hl:ew S b F sub (eH f m).2.2 r.fr r.e (deep+1)with
        |error x=>rw[hl]at h;cases h
        |ok sm=>
         rw[hl]at h;have QV:=jW hS hb F sub _ r.fr r.e (deep+1) sm hl (hS.sub hs) r4 QD ((lK hw hf hs).2.mono QD);exact jW hS hb F d _ r.e e deep m' h hd r5 he (vm hd hw hf hs QD QV)
      |none=>
       rw[hs]at h;simp only at h
       cases hv:mR S b f r with
       |error x=>rw[hv]at h;cases h
       |ok v=>
        rw[hv]at h
        have hk:r.kind=S.wire f.ty:=by
         rw[k];unfold fA;rw[dA (λq=>by unfold eR at hs;rw[dB q]at hs;cases hs)]
        exact jW hS hb F d _ r.e e deep m' h hd r5 he (vq hw hf hs QD (Eb hv hk hb r6 r7))
     ·rw[dA k]at h
      by_cases k2:r.kind=2/\f.isRep=true
      ·rw[dB k2]at h
       cases hp:lA S b f (m.get f.num) r.fr r.e with
       |error x=>rw[hp]at h;cases h
       |ok l=>
        rw[hp]at h;have QS:¬f.isMap=true:=λq=>k (by unfold fA;rw[dB q];exact k2.1)
        have Q0:S.wire f.ty≠2:=λq=>k (by unfold fA;rw[dA QS,q];exact k2.1)
        have hs:eR S f=none:=by
         unfold eR;rw[dA QS]
         cases hm:S.msg f.ty with
         |none=>rfl
         |some x=>exact absurd (hS.wire f.ty (by rw[hm];rfl)) Q0
        have hn:=(eT hf).1;rw[hn]at hp h;have Q1:=ru (P:=GU S f.ty) (λn h0 h1=>⟨(iu h0 h1).1,(iu h0 h1).2,aM _,rfl,λq=>absurd q Q0,λ_=>rfl⟩) _ _ _ _ hp r4 (by have:=hw.len.2.2 r.num;omega) ((hw.vals r.num).ht f hf hs);exact jW hS hb F d _ r.e e deep m' h hd r5 he (hw.put QD (uq hf hs Q1.1 Q1.2))
      ·rw[dA k2]at h;exact jW hS hb F d _ r.e e deep m' h hd r5 he QT
  ·rw[dA q]at h
   cases h
   exact hw.mono ha
section
variable {r:om} {f:eP} {S:d8} {b:am} {deep:Nat} {d:MT} {m:PM}
def xd (S:d8)(b:am)(F:Nat)(d:MT)(m:PM)(a e deep:Nat):Fx PM:=
 if ot S d deep then .error (11,(a:Int))else ew S b F d m a e deep
def mW (S:d8)(b:am)(F:Nat)(f:eP)(m:PM)(r:om)(deep:Nat):Fx PV:=
 match eR S f with
 |some sub=>
  match xd S b F sub (eH f m).2.2 r.fr r.e (deep+1)with
  | .error x=> .error x
  | .ok sm=> .ok ((eH f m).1,(eH f m).2.1,sm)
 |none=>mR S b f r
def Ec (S:d8)(d:MT)(f:eP)(m:PM):Fx PV->Fx PM
 | .error x=> .error x
 | .ok v=> .ok (gB S d f m v)
def oS (S:d8)(b:am)(F:Nat)(d:MT)(f:eP)(m:PM)(r:om)(deep:Nat):Fx PM:=Ec S d f m (mW S b F f m r deep)
section
variable {S:d8} {b:am} {F a e deep:Nat} {d:MT} {m:PM}
theorem ie (h:¬a<e):ew S b F d m a e deep= .ok m:=by
 cases F with
 |zero=>rfl
 |succ F=>rw[ew,dA h]
theorem iH (h:a<e){x:Int×Int}(hr:fw b a e= .error x):ew S b (F+1) d m a e deep= .error x:=by
 rw[ew,dB h,hr]
def GV (S:d8)(b:am)(F:Nat)(d:MT)(a e deep:Nat):Fx PM->Fx PM
 | .error x=> .error x
 | .ok m=>ew S b F d m a e deep
theorem xO (h:a<e)(hr:fw b a e= .ok r)(hf:dP d.fs r.num=some f)(hk:r.kind=fA S f):ew S b (F+1) d m a e deep=GV S b F d r.e e deep (oS S b F d f m r deep):=by
 rw[ew,dB h,hr];simp only;rw[hf];simp only;rw[dB hk];unfold oS mW xd
 cases hs:eR S f with
 |some sub=>
  simp only
  by_cases hfar:ot S sub (deep+1)=true
  ·rw[dB hfar,dB hfar];rfl
  ·rw[dA hfar,dA hfar]
   cases ew S b F sub (eH f m).2.2 r.fr r.e (deep+1)<;>rfl
 |none=>
  simp only
  cases mR S b f r<;>rfl
theorem vt (h:a<e)(hr:fw b a e= .ok r)(hf:dP d.fs r.num=some f)(hk:r.kind≠fA S f)(h2:r.kind=2)(hp:f.isRep=true):
  ew S b (F+1) d m a e deep=GV S b F d r.e e deep (match lA S b f (m.get f.num) r.fr r.e with| .error x=> .error x| .ok l=> .ok (m.put f.num l)):=by
 rw[ew,dB h,hr];simp only;rw[hf];simp only;rw[dA hk,dB ⟨h2,hp⟩]
 cases lA S b f (m.get f.num) r.fr r.e<;>rfl
theorem oc (h:a<e)(hr:fw b a e= .ok r)(hf:∀f,dP d.fs r.num=some f->r.kind≠fA S f/\¬(r.kind=2/\f.isRep=true)):
  ew S b (F+1) d m a e deep=ew S b F d (m.keep (b.extract r.a r.e)) r.e e deep:=by
 rw[ew,dB h,hr]
 grind
end
theorem JU {F a e:Nat}{m2:PM}(hS:xN S)(hb:b.size<=268435456)(hd:kU S d)(hw:WM S a d m)(hr:fw b a e= .ok r)(he:e<=b.size)(hf:dP d.fs r.num=some f)(hk:r.kind=fA S f)
  (h:oS S b F d f m r deep= .ok m2):WM S r.e d m2:=by
 obtain⟨r1,r2,r3,r4,r5,r6,r7,_,_⟩:=iC hr;unfold oS mW at h
 cases hs:eR S f with
 |some sub=>
  rw[hs]at h;simp only at h;unfold xd at h
  by_cases hfar:ot S sub (deep+1)=true
  ·rw[dB hfar]at h;cases h
  ·rw[dA hfar]at h
   cases hl:ew S b F sub (eH f m).2.2 r.fr r.e (deep+1)with
   |error x=>rw[hl]at h;cases h
   |ok sm=>
    rw[hl]at h
    cases h
    have QR:=jW hS hb F sub _ r.fr r.e (deep+1) sm hl (hS.sub hs) r4 QD ((lK hw hf hs).2.mono QD);exact vm hd hw hf hs QD QR
 |none=>
  rw[hs]at h;simp only at h
  cases hv:mR S b f r with
  |error x=>rw[hv]at h;cases h
  |ok v=>
   rw[hv]at h
   cases h
   have QS:r.kind=S.wire f.ty:=by
    rw[hk];unfold fA;rw[dA (λq=>by unfold eR at hs;simp_all)]
   exact vq hw hf hs QD (Eb hv QS hb r6 r7)
theorem JV {a e:Nat}{l:List PV}(hS:xN S)(hw:WM S a d m)(hr:fw b a e= .ok r)(hf:dP d.fs r.num=some f)(hk:r.kind≠fA S f)(h2:r.kind=2)
  (h:lA S b f (m.get f.num) r.fr r.e= .ok l):WM S r.e d (m.put f.num l)/\S.wire f.ty≠2:=by
 obtain⟨r1,r2,r3,r4,r5,r6,r7,_,_⟩:=iC hr;have QT:¬f.isMap=true:=λq=>hk (by unfold fA;simp_all)
 have QP:S.wire f.ty≠2:=λq=>hk (by unfold fA;simp_all)
 have hs:eR S f=none:=by
  unfold eR;rw[dA QT]
  cases hm:S.msg f.ty with
  |none=>rfl
  |some x=>exact absurd (hS.wire f.ty (by simp_all)) QP
 have hn:=(eT hf).1;rw[hn]at h⊢;have QQ:=ru (P:=GU S f.ty) (λn h0 h1=>⟨(iu h0 h1).1,(iu h0 h1).2,aM _,rfl,λq=>absurd q QP,λ_=>rfl⟩) _ _ _ _ h r4 (by have:=hw.len.2.2 r.num;omega) ((hw.vals r.num).ht f hf hs);exact⟨hw.put QD (uq hf hs QQ.1 QQ.2),QP⟩
theorem GW {a e:Nat}{c p:Int}(h:fw b a e= .error (c,p)):c≠0:=by
 unfold fw at h
 have hv:∀{a c p},gy b a e= .error (c,p)->c≠0:=λh=>by
  rcases(D3 h).1 with rfl|rfl<;>decide
 grind
theorem Mu (h:ot S d deep=false):deep<=8:=by
 unfold ot at h
 grind
end
end Go.Proofs.YtfebdimolnobaaaGreatDoor
