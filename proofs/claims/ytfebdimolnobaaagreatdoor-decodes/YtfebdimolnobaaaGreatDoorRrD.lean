import Derived.Test.YtfebdimolnobaaaGreatDoorReadA
set_option maxRecDepth 100000
set_option maxHeartbeats 8000000
set_option linter.all false
namespace Go.Proofs.YtfebdimolnobaaaGreatDoor
open Go.RowKit Go.Proofs.Tryz
section
open Tq
def nN (s:au)(a:Nat)(deep lv:Int):Fx (Nat×Nat):=
 match eU s a with
 | .error x=> .error x
 | .ok x=>if 8<deep+lv then .error (11,x.1)else .ok x
def Ji (w:aw)(rb:Nat)(s:au)(deep:Int)(r:Fx (Nat×Nat))(e:Ending)(w':aw):Prop:=
 dY [rb] w w'/\(match r with
 | .error x=>e=dX x.1 x.2
 | .ok x=>∃nb,e= .returned (ag nb)/\w.heap.size<=nb/\nb≠rb/\d6 w' nb (s.extract 0 x.2) x.1 (deep+1)/\d6 w' rb s x.2 deep)
def qD (w:aw)(rb:Nat)(s:au)(a:Nat)(deep lv:Int)(h:d6 w rb s a deep)(y:s.size<=2^47)(p:0<=deep)(q:deep<=8)(u:0<=lv)(v:lv<=2):
  Calls prog 185 #[ag rb,aa lv] w (Ji w rb s deep (nN s a deep lv)):=by
 obtain⟨r,c⟩:∃r,Hid (nN s a deep lv=r):=⟨_,rfl⟩;rw[c.o];go_in
 go_wp2_with fail;refine(oo w rb s a deep h y).V ?_
 cases hv:eU s a with
 |error x=>
  rintro e w2 ⟨b,t⟩;obtain rfl:e=dX x.1 x.2:=t;obtain rfl:r= .error x:=by rw[<-c.o,nN,hv]
  unfold dX;go_wp2
  exact⟨rfl,b,rfl⟩
 |ok x=>
  rintro e w2 ⟨b,nb,rfl,l,d,f,g⟩;have⟨z,A⟩:=dP.I f;by_cases hd:8<deep+lv
  .obtain rfl:r= .error (11,(x.1:Int)):=by rw[<-c.o,nN,hv];simp only;rw[dH hd]
   go_wp2_with fail;refine(IM _ _ _).V ?_;rintro e B ⟨rfl,rfl⟩;go_wp2;exact⟨rfl,b,rfl⟩
  .have o:decide (8<deep+lv)=false:=Tg;obtain rfl:r= .ok x:=by rw[<-c.o,nN,hv];simp only;rw[dG hd]
   go_wp2;go_ret;have m:d6 (w2.setCell (ai nb 2) (aa (deep+1))) nb (s.extract 0 x.2) x.1 (deep+1):=by unfold d6;simpa using dP.set f 2 (aa (deep+1))
   have n:d6 (w2.setCell (ai nb 2) (aa (deep+1))) rb s x.2 deep:=dP.other g 2 _ d;refine⟨?_,nb,rfl,l,d,m,n⟩;exact⟨b.os,b.tape,b.output,by simpa using b.size,λk i j=>by rw[dM,dG Te];exact b.block k i j⟩
def lr (s:au)(a:Nat):Fx ((Int×Int)×Nat):=
 match j8 s a s.size with
 | .error x=> .error x
 | .ok x=>if x.1/8<1\/536870911<x.1/8 then .error (8,a)else if x.1%8=0\/x.1%8=1\/x.1%8=2\/x.1%8=5 then .ok ((x.1/8,x.1%8),x.2)else .error (9,a)
def Ox (w:aw)(rb:Nat)(s:au)(a:Nat)(deep:Int)(h:d6 w rb s a deep)(H:s.size<=2^47):
  Calls prog 131 #[ag rb] w (py w rb s deep (lr s a) (λx=> .agg #[aa x.1,aa x.2])):=by
 obtain⟨r,b⟩:∃r,Hid (lr s a=r):=⟨_,rfl⟩;rw[b.o];have u:d6 (w.alloc (ak #[aa 0,aa 0] 237)) rb s a deep:=dP.alloc h _;have p:dY [rb] w (w.alloc (ak #[aa 0,aa 0] 237)):=(dY.refl _ _).alloc _;have o:=dP.new w #[aa 0,aa 0] 237;have F:rb<w.heap.size:=dP.lt h;have⟨I,J⟩:=dP.I u;go_in
 go_wp2_with fail;generalize(w.alloc (ak #[aa 0,aa 0] 237))=w1 at*;clear I J;refine(mx w1 rb s a deep u H).V ?_
 cases hv:j8 s a s.size with
 |error x=>
  rintro e w2 ⟨j,m⟩;obtain rfl:e=dX x.1 x.2:=m;obtain rfl:r= .error x:=by rw[<-b.o,lr,hv]
  unfold dX;go_wp2
  exact⟨rfl,p.J j,rfl⟩
 |ok x=>
  obtain⟨t,z⟩:=x;have⟨v,P,Q,R⟩:=jr hv;rintro e w2 ⟨j,m,n⟩;have n:d6 w2 rb s z deep:=n;obtain rfl:e= .returned (.int .u64 t):=m;have c:=p.J j;have d:dP w2 w.heap.size #[aa 0,aa 0] 237:=(j.block _ o.lt Tg).J o;have K:t.tdiv 8=t/8:=Int.tdiv_eq_ediv_of_nonneg v;have l:t.tmod 8=t%8:=cN v;have f:IntKind.i64.wrap (t%8)=t%8:=by simp[IntKind.wrap,IntKind.bits,IntKind.signed];omega
  have g:Hid (∀x y:Value,dY [rb] w ((w2.setCell (ai w.heap.size 0) x).setCell (ai w.heap.size 1) y)):=λx y=>
   ⟨c.os,c.tape,c.output,by simpa using c.size,λk B C=>by rw[dM,dG Te,dM,dG Te];exact c.block k B C⟩
  have i:Hid (∀x y:Value,d6 ((w2.setCell (ai w.heap.size 0) x).setCell (ai w.heap.size 1) y) rb s z deep):=λx y=>(dP.other n 0 x Te).other 1 y Te
  have q:t/8<=536870911->IntKind.i64.wrap (t/8)=t/8:=λh=>by simp[IntKind.wrap,IntKind.bits,IntKind.signed];omega
  have⟨S,T⟩:=d.I;by_cases hA:t/8=0
  .obtain rfl:r= .error (8,(a:Int)):=by rw[<-b.o,lr,hv];simp only;rw[dH Te]
   rw[hA]at K;go_wp2_with fail;refine(IM _ _ _).V ?_;rintro e A ⟨rfl,rfl⟩;go_wp2;exact⟨rfl,c,rfl⟩
  .have D:(t/8==0)=false:=Tg;by_cases hB:536870911<t/8
   .obtain rfl:r= .error (8,(a:Int)):=by rw[<-b.o,lr,hv];simp only;rw[dH Te]
    go_wp2_with fail;refine(IM _ _ _).V ?_;rintro e A ⟨rfl,rfl⟩;go_wp2;exact⟨rfl,c,rfl⟩
   .have E:decide (536870911<t/8)=false:=Tg;have G:=q Te;clear q;by_cases g0:t%8=0
    .obtain rfl:r= .ok ((t/8,0),z):=by rw[<-b.o,lr,hv];simp only;rw[dG Te,dH Te,g0]
     rw[g0]at l;clear g0 f;go_wp2;exact dJ (dW results131 _ _ rfl ((d.set 0 _).set 1 _) underlying237 Tj) rfl ⟨g.o _ _,rfl,i.o _ _⟩
    have L:(t%8==0)=false:=by simp[g0]
    by_cases g1:t%8=1
    .obtain rfl:r= .ok ((t/8,1),z):=by rw[<-b.o,lr,hv];simp only;rw[dG Te,dH Te,g1]
     rw[g1]at l;clear g1 f;go_wp2;exact dJ (dW results131 _ _ rfl ((d.set 0 _).set 1 _) underlying237 Tj) rfl ⟨g.o _ _,rfl,i.o _ _⟩
    have M:(t%8==1)=false:=by simp[g1]
    by_cases g2:t%8=2
    .obtain rfl:r= .ok ((t/8,2),z):=by rw[<-b.o,lr,hv];simp only;rw[dG Te,dH Te,g2]
     rw[g2]at l;clear g2 f;go_wp2;exact dJ (dW results131 _ _ rfl ((d.set 0 _).set 1 _) underlying237 Tj) rfl ⟨g.o _ _,rfl,i.o _ _⟩
    have N:(t%8==2)=false:=by simp[g2]
    by_cases g5:t%8=5
    .obtain rfl:r= .ok ((t/8,5),z):=by rw[<-b.o,lr,hv];simp only;rw[dG Te,dH Te,g5]
     rw[g5]at l;clear g5 f;go_wp2;exact dJ (dW results131 _ _ rfl ((d.set 0 _).set 1 _) underlying237 Tj) rfl ⟨g.o _ _,rfl,i.o _ _⟩
    have O:(t%8==5)=false:=by simp[g5]
    obtain rfl:r= .error (9,(a:Int)):=by rw[<-b.o,lr,hv];simp only;rw[dG Te,dG Te]
    go_wp2_with fail;refine(IM _ _ _).V ?_;rintro e A ⟨rfl,rfl⟩;go_wp2;exact⟨rfl,c,rfl⟩
def yL (s:au)(j:Nat):Int:=Qw s (s.size-j) j
def Cz (s:au):yL s s.size=0:=by unfold yL;rw[Nat.sub_self];rfl
def zH {s:au}{i:Nat}(h:i<s.size):yL s i=256*yL s (i+1)+fR s i:=by
 unfold yL;rw[show s.size-i=(s.size-(i+1))+1 from by omega,Qw,dH h]
def AI:∀(k:Nat) (s:au) (j:Nat),s.size=j+k->0<=yL s j/\yL s j<256^k
 |0,s,j,h=>by
  rw[show j=s.size from by omega,Cz]
  decide
 |k+1,s,j,h=>by
  have ih:=AI k s (j+1) Te;have a:=iy s j;rw[zH Te,Int.pow_succ];omega
def MS {x n:Int}(h:0<=x)(d:0<=n)(h1:n<256)(f:x*256+n<2^64):bits .or .u64 (x*256) n=x*256+n:=by
 obtain⟨a,rfl⟩:=bS h;obtain⟨b,rfl⟩:=bS d;have e:((a:Int)*256)=((a*256:Nat):Int):=Te;rw[e]at f⊢;have g:b<2^8:=show b<256 by omega
 have c:a*256=a<<<8:=by rw[Nat.shiftLeft_eq]
 rw[bits_or_u64_nat (a*256) b Te Te,c,<-Nat.shiftLeft_add_eq_or_of_lt g];omega
def CB (w:aw)(s:au)(D:s.size<=8):Calls prog 406 #[ae s] w λe w'=>e= .returned (.int .u64 (vi s))/\w'=w:=by
 have j:vi s=yL s 0:=rfl;rw[j];go_in
 go_wp2;go_loopw [3,4] (λv i wr=>∃(k:Nat),k<=s.size/\i=aa ((k:Int)-1)/\v= .int .u64 (yL s k)/\w=wr) (λ_ i _=>((intOf i)+1).toNat)
 case atStart=>exact⟨s.size,aD _,rfl,by rw[Cz],rfl⟩
 case round=>
  obtain⟨k,C,rfl,rfl,rfl⟩:=hrel
  cases k with
  |zero=>
   go_wp2;go_ret
   exact⟨rfl,rfl⟩
  |succ i=>
   have g:i<s.size:=Te;have m:=gX (t:=s) (k:=i) g;have d:=iy s i;have a:=zH g;have b:=AI (s.size-(i+1)) s (i+1) Te;have f:=AI (s.size-i) s i Te
   have r:(256:Int)^(s.size-i)<=256^8:=by
    have:=cW (n:=256) Th (show s.size-i<=8 by omega)
    exact_mod_cast this
   obtain⟨c,p⟩:=Td (fR s i);rw[p]at m d a;obtain⟨x,z⟩:=Td (yL s (i+1));rw[z]at a b⊢;have l:x*256+c<2^64:=(by rw[a]at f;have A:(256:Int)^8=2^64:=Th;omega);have u:IntKind.u64.wrap (x*256)=x*256:=gL Te Te;have y:IntKind.u64.wrap c=c:=gL Te Te;have B:=MS b.1 d.1 d.2 l;have q:(0:Int)<=(i:Int):=Te;have o:(i:Int)+1-1=(i:Int):=Te;have h:((i+1:Nat):Int)-1=(i:Int):=Te;rw[h];clear h o b f r j;go_wp2;go_roundw
   case rel=>exact⟨i,Te,rfl,by rw[a];congr 1;omega,trivial⟩
   case measure=>simp[intOf]
def je (s:au)(a:Nat)(k:Nat):Fx (Int×Nat):=if a+k<=s.size then .ok (vi (s.extract a (a+k)),a+k)else .error (6,a)
def tO (s:au)(a k:Nat):po s a k=if a+k<=s.size then .ok (s.extract a (a+k),a+k)else .error (6,(a:Int)):=by
 unfold po;by_cases h:a+k<=s.size;.rw[dH h,dH Te];simp
 .rw[dG h,dG Te]
def AJ (w:aw)(rb:Nat)(s:au)(a:Nat)(deep:Int)(h:d6 w rb s a deep)(f:a<=s.size)(i:s.size<=2^47):
  Calls prog 352 #[ag rb] w (py w rb s deep (je s a 4) (Value.int .u64)):=by
 have b:=wT w rb s a deep 4 h f i Th Th;rw[show(4:Int)=((4:Nat):Int)from rfl,tO]at b;unfold je;by_cases Tr:a+4<=s.size
 .rw[dH Tr]at b⊢;go_in
  go_wp2_with fail;refine b.V ?_;rintro e w2 ⟨d,c,g⟩;obtain rfl:e= .returned (ae (s.extract a (a+4))):=c;go_wp2_with fail;refine(CB w2 (s.extract a (a+4)) (by rw[aU];omega)).V ?_;rintro e w3 ⟨rfl,rfl⟩;go_wp2;go_ret;exact⟨d,rfl,g⟩
 .rw[dG Tr]at b⊢;go_in
  go_wp2_with fail;refine b.V ?_;rintro e w2 ⟨d,c⟩;obtain rfl:e=dX 6 a:=c;unfold dX;go_wp2;exact⟨rfl,d,rfl⟩
def vO (w:aw)(rb:Nat)(s:au)(a:Nat)(deep:Int)(h:d6 w rb s a deep)(f:a<=s.size)(i:s.size<=2^47):
  Calls prog 353 #[ag rb] w (py w rb s deep (je s a 8) (Value.int .u64)):=by
 have b:=wT w rb s a deep 8 h f i Th Th;rw[show(8:Int)=((8:Nat):Int)from rfl,tO]at b;unfold je;by_cases Tr:a+8<=s.size
 .rw[dH Tr]at b⊢;go_in
  go_wp2_with fail;refine b.V ?_;rintro e w2 ⟨d,c,g⟩;obtain rfl:e= .returned (ae (s.extract a (a+8))):=c;go_wp2_with fail;refine(CB w2 (s.extract a (a+8)) (by rw[aU];omega)).V ?_;rintro e w3 ⟨rfl,rfl⟩;go_wp2;go_ret;exact⟨d,rfl,g⟩
 .rw[dG Tr]at b⊢;go_in
  go_wp2_with fail;refine b.V ?_;rintro e w2 ⟨d,c⟩;obtain rfl:e=dX 6 a:=c;unfold dX;go_wp2;exact⟨rfl,d,rfl⟩
def AK (w:aw)(n:Int):Calls prog 348 #[.int .u64 n] w λe w'=>e= .returned (.int .u64 (n%4294967296))/\w'=w:=by
 have a:IntKind.u64.wrap (IntKind.u32.wrap n)=n%4294967296:=(by rw[IntKind.wrap_u32];exact gL Te Te);go_in
 go_wp2;go_ret;exact⟨rfl,rfl⟩
def wU (w:aw)(n:Int):Calls prog 347 #[.int .u64 n] w λe w'=>e= .returned (.int .u64 (vh n))/\w'=w:=by
 have a:IntKind.u64.wrap (IntKind.i32.wrap n)=vh n:=by
  rw[IntKind.wrap_i32];unfold vh;split;.rw[show(n+2147483648)%4294967296-2147483648=n%4294967296 from by omega];exact gL Te Te
  .simp[IntKind.wrap,IntKind.bits,IntKind.signed];omega
 have b:IntKind.u64.wrap (wrap32 n)=vh n:=(by rw[<-a];congr 1;rw[IntKind.wrap_i32];unfold wrap32;rfl);go_in
 go_wp2;go_ret;exact⟨rfl,rfl⟩
def FK (w:aw)(n:Int)(a:0<=n):Calls prog 351 #[.int .u64 n] w λe w'=>e= .returned (.int .u64 (if 0<n then 1 else 0))/\w'=w:=by
 by_cases h:0<n
 .have b:(n==0)=false:=Tg;rw[dH h];go_in
  go_wp2;go_ret;exact⟨rfl,rfl⟩
 .obtain rfl:n=0:=Te;rw[dG h];go_in
  go_wp2;go_ret;exact⟨rfl,rfl⟩
def yM {n:Int}(c:0<=n)(h1:n<2^64):bits .xor .u64 n 18446744073709551615=18446744073709551615-n:=by
 obtain⟨a,rfl⟩:=bS c;have d:(BitVec.ofInt 64 (a:Int)).toNat=a:=(by rw[BitVec.ofInt_natCast,BitVec.toNat_ofNat];exact dp Te);show IntKind.u64.wrap (((BitVec.ofInt 64 (a:Int))^^^(BitVec.ofInt 64 18446744073709551615)).toNat:Int)=_;have b:BitVec.ofInt 64 18446744073709551615=BitVec.allOnes 64:=Th;rw[b,BitVec.xor_allOnes,BitVec.toNat_not,d];rw[gL Te Te];omega
def yN {n:Int}(c:0<=n)(h1:n<2^64):bits .xor .u64 n 0=n:=by
 obtain⟨a,rfl⟩:=bS c;have d:(BitVec.ofInt 64 (a:Int)).toNat=a:=(by rw[BitVec.ofInt_natCast,BitVec.toNat_ofNat];exact dp Te);show IntKind.u64.wrap (((BitVec.ofInt 64 (a:Int))^^^(BitVec.ofInt 64 0)).toNat:Int)=_;have b:BitVec.ofInt 64 0=0#64:=Th;rw[b,BitVec.xor_zero,d];exact gL Te Te
def AL {n:Int}(b:0<=n)(h1:n<2^64):bits .and .u64 n 1=n%2:=by
 obtain⟨a,rfl⟩:=bS b;rw[show(1:Int)=((1:Nat):Int)from rfl,bits_and_u64_nat a 1 Te Te,Nat.and_one_is_mod];omega
def El (w:aw)(n:Int)(b:0<=n)(h1:n<2^64):Calls prog 350 #[.int .u64 n] w λe w'=>e= .returned (.int .u64 (IV n))/\w'=w:=by
 have a:=AL b h1;unfold IV;by_cases h:n%2=1
 .rw[dH h];rw[h]at a;have d:IntKind.u64.wrap (-1)=18446744073709551615:=Th;have f:=yM (n:=n/2) Te Te;go_in
  go_wp2;go_ret;exact⟨rfl,rfl⟩
 .rw[dG h];have c:n%2=0:=Te;rw[c]at a;have d:IntKind.u64.wrap 0=0:=Th;have f:=yN (n:=n/2) Te Te;go_in
  go_wp2;go_ret;exact⟨rfl,rfl⟩
def Jj (w:aw)(n:Int):Calls prog 349 #[.int .u64 n] w λe w'=>e= .returned (.int .u64 (IV (n%4294967296)))/\w'=w:=by
 go_in
 go_wp2_with fail;refine(AK w n).V ?_;rintro e w2 ⟨rfl,rfl⟩;go_wp2_with fail;refine(El _ (n%4294967296) Te Te).V ?_;rintro e w2 ⟨rfl,rfl⟩;go_wp2;go_ret;exact⟨rfl,rfl⟩
def UOK (w:aw):Prop:=Lib.Utf8Tabs 2 3 w
def UOK.lt1 {w:aw}(h:UOK w):2<w.heap.size:=aZ _ _ (h.1 0 Th)
def UOK.lt2 {w:aw}(h:UOK w):3<w.heap.size:=aZ _ _ (h.2 0 Th).1
def UOK.O {w w':aw}(h:UOK w)(e:w'.heap[2]?=w.heap[2]?)(b:w'.heap[3]?=w.heap[3]?):UOK w':=
 ⟨λc f=>(bz (a:=(ai 2 c)) e).J (h.1 c f), λi d=>⟨(bz (a:=(ai 3 (2*i))) b).J (h.2 i d).1,(bz (a:=(ai 3 (2*i+1))) b).J (h.2 i d).2⟩⟩
def MU (w:aw)(s:au)(b:s.size<=2^47)(a:UOK w):S9 325 #[ae s] w λe w'=>e= .returned (.bool (Lib.validD s.data.toList))/\aj w w':=
 Any.utf8_ValidString Tryz.laysVs s w Te a
def FL (s:au)(w:aw)(h:s.size<=2^47):
  Calls prog 108 #[ae s] w λe w'=>e= .returned (ae s)/\aj w w':=by
 go_in
 go_wp2_with fail;refine(AnyPu.stringslite_Clone Tryz.laysPu25 s _ Te).V ?_;rintro e w1 ⟨rfl,a⟩;go_wp2;go_ret;exact⟨rfl,a⟩
def iS {s:au}{a z e:Nat}(h:eU s a= .ok (z,e)):a<z/\z<=e/\e<=s.size:=by
 unfold eU at h;split at h;.cases h
 .rename_i x b;have⟨c,d,f,g⟩:=jr (m:=x.1) (z:=x.2) b;split at h;.simp at h;obtain⟨rfl,rfl⟩:=h;omega
  .cases h
def FM (s:au)(z e:Nat):(s.extract 0 e).extract z (s.extract 0 e).size=s.extract z e:=by
 apply ByteArray.ext;simp only[cT];apply Array.ext;.simp
 .intro i a b;simp
def nO (s:au)(a:Nat):Fx (au×Nat):=
 match eU s a with
 | .error x=> .error x
 | .ok x=> .ok (s.extract x.1 x.2,x.2)
def rx (s:au)(a:Nat):Fx (au×Nat):=
 match eU s a with
 | .error x=> .error x
 | .ok x=>if Lib.validD (s.extract x.1 x.2).data.toList then .ok (s.extract x.1 x.2,x.2)else .error (10,x.1)
def FN (w:aw)(rb:Nat)(s:au)(a:Nat)(deep:Int)(h:d6 w rb s a deep)(m:s.size<=2^47):
  Calls prog 270 #[ag rb] w (py w rb s deep (nO s a) Value.string):=by
 obtain⟨r,c⟩:∃r,Hid (nO s a=r):=⟨_,rfl⟩;rw[c.o];go_in
 go_wp2_with fail;refine(oo w rb s a deep h m).V ?_
 cases hv:eU s a with
 |error x=>
  rintro e w2 ⟨f,k⟩;obtain rfl:e=dX x.1 x.2:=k;obtain rfl:r= .error x:=by rw[<-c.o,nO,hv]
  unfold dX;go_wp2
  exact⟨rfl,f,rfl⟩
 |ok x=>
  obtain⟨z,b⟩:=x;have⟨p,t,u⟩:=iS hv;obtain rfl:r= .ok (s.extract z b,b):=by rw[<-c.o,nO,hv]
  rintro e w2 ⟨f,nb,rfl,n,o,d,i⟩;have d:d6 w2 nb (s.extract 0 b) z deep:=d;have l:(s.extract 0 b).size=b:=by rw[aU];omega
  go_wp2_with fail;have g:=Ej w2 nb (s.extract 0 b) z deep d Te;rw[FM]at g;refine g.V ?_;rintro e w3 ⟨rfl,q,rfl⟩;go_wp2_with fail;refine(FL (s.extract z b) _ (by rw[aU];omega)).V ?_;rintro e v ⟨rfl,j⟩;go_wp2;go_ret;exact⟨(f.drewN q).J (dY.oB j),rfl,dP.G (i.drewN q) j (dP.lt i)⟩
def Jk (w:aw)(rb:Nat)(s:au)(a:Nat)(deep:Int)(h:d6 w rb s a deep)(L:s.size<=2^47)(m:UOK w)(n:rb≠2)(p:rb≠3):
  Calls prog 269 #[ag rb] w (py w rb s deep (rx s a) Value.string):=by
 obtain⟨r,d⟩:∃r,Hid (rx s a=r):=⟨_,rfl⟩;rw[d.o];go_in
 go_wp2_with fail;refine(oo w rb s a deep h L).V ?_
 cases hv:eU s a with
 |error x=>
  rintro e w2 ⟨c,K⟩;obtain rfl:e=dX x.1 x.2:=K;obtain rfl:r= .error x:=by rw[<-d.o,rx,hv]
  unfold dX;go_wp2
  exact⟨rfl,c,rfl⟩
 |ok x=>
  obtain⟨z,b⟩:=x;have⟨R,S,T⟩:=iS hv;rintro e w2 ⟨c,nb,rfl,N,O,f,I⟩;have f:d6 w2 nb (s.extract 0 b) z deep:=f;have k:(s.extract 0 b).size=b:=by rw[aU];omega
  have J:UOK w2:=m.O (c.block _ m.lt1 (by simp;exact λe=>n e.sy)) (c.block _ m.lt2 (by simp;exact λe=>p e.sy))
  have t:Hid (∀w3:aw,d6 w3 nb (s.extract 0 b) z deep->S9 272 #[ag nb] w3 λe w'=>e= .returned (ae (s.extract z b))/\∃q,w'=w3.drewN q):=λw3 j=>by
   have:=Ej w3 nb (s.extract 0 b) z deep j Te;rw[FM]at this;exact this
  have g:(s.extract z b).size<=2^47:=by rw[aU];omega
  have F:Hid (∀w3:aw,UOK w3->S9 325 #[ae (s.extract z b)] w3 λe w'=>e= .returned (.bool (Lib.validD (s.extract z b).data.toList))/\aj w3 w'):=λw3 j=>MU w3 _ g j
  have E:Hid (∀w3:aw,S9 108 #[ae (s.extract z b)] w3 λe w'=>e= .returned (ae (s.extract z b))/\aj w3 w'):=λw3=>FL _ w3 g
  have o:Hid (r=if Lib.validD (s.extract z b).data.toList then .ok (s.extract z b,b)else .error (10,(z:Int))):=(by show r=_;rw[<-d.o,rx,hv]);clear d k g;generalize s.extract z b=X at*;generalize Lib.validD X.data.toList=vd at*;go_wp2_with fail;refine(t.o w2 f).V ?_;rintro e w3 ⟨rfl,q,rfl⟩;have u:=f.drewN q;have v:d6 (w2.drewN q) rb s b deep:=I.drewN q;have G:=c.drewN q;have H:UOK (w2.drewN q):=J.O rfl rfl;generalize w2.drewN q=w3 at*;go_wp2_with fail;refine(F.o w3 H).V ?_;rintro e l ⟨rfl,i⟩;have y:d6 l nb (s.extract 0 b) z deep:=dP.G u i (dP.lt u);have A:d6 l rb s b deep:=dP.G v i (dP.lt v);have B:=G.J (dY.oB i);cases vd;.obtain rfl:r= .error (10,(z:Int)):=o.o;have⟨P,Q⟩:=dP.I y;go_wp2_with fail;refine(IM _ _ _).V ?_;rintro e M ⟨rfl,rfl⟩;go_wp2;exact⟨rfl,B,rfl⟩
  .obtain rfl:r= .ok (X,b):=o.o;go_wp2_with fail;refine(t.o l y).V ?_;rintro e M ⟨rfl,D,rfl⟩;go_wp2_with fail;refine(E.o _).V ?_;rintro e w6 ⟨rfl,C⟩;go_wp2;go_ret;exact⟨(B.drewN D).J (dY.oB C),rfl,dP.G (A.drewN D) C (dP.lt A)⟩
def pr (s:au)(a:Nat)(kind:Int):Fx (Unit×Nat):=
 if kind=0 then(match j8 s a s.size with| .error x=> .error x| .ok x=> .ok ((),x.2))
 else if kind=1 then(match je s a 8 with| .error x=> .error x| .ok x=> .ok ((),x.2))
 else if kind=5 then(match je s a 4 with| .error x=> .error x| .ok x=> .ok ((),x.2))
 else(match eU s a with| .error x=> .error x| .ok x=> .ok ((),x.2))
def Jl (w:aw)(rb:Nat)(s:au)(deep:Int)(r:Fx (Unit×Nat))(e:Ending)(w':aw):Prop:=
 dY [rb] w w'/\(match r with
 | .error x=>e=dX x.1 x.2
 | .ok x=>e= .returned (.tuple #[])/\d6 w' rb s x.2 deep)
def uB (s:au)(a k:Nat):(match po s a k with| .error x=>Except.error x| .ok x=> .ok ((),x.2):Fx (Unit×Nat))=(match je s a k with| .error x=> .error x| .ok x=> .ok ((),x.2)):=by
 rw[tO,je];by_cases h:a+k<=s.size;.rw[dH h,dH h]
 .rw[dG h,dG h]
def Em (w:aw)(rb:Nat)(s:au)(a:Nat)(deep kind:Int)(h:d6 w rb s a deep)(j:a<=s.size)(i:s.size<=2^47)(b:kind=0\/kind=1\/kind=2\/kind=5):
  Calls prog 134 #[ag rb,aa kind] w (Jl w rb s deep (pr s a kind)):=by
 have l:=wT w rb s a deep 8 h j i Th Th;have k:=wT w rb s a deep 4 h j i Th Th;rcases b with rfl|rfl|rfl|rfl
 .have d:pr s a 0=(match j8 s a s.size with| .error x=> .error x| .ok x=> .ok ((),x.2)):=rfl;rw[d];obtain⟨r,c⟩:∃r,Hid ((match j8 s a s.size with| .error x=> .error x| .ok x=> .ok ((),x.2):Fx (Unit×Nat))=r):=⟨_,rfl⟩;rw[c.o];go_in
  go_wp2_with fail;refine(mx w rb s a deep h i).V ?_
  cases hv:j8 s a s.size with
  |error x=>
   rintro e w2 ⟨b,f⟩;obtain rfl:e=dX x.1 x.2:=f;obtain rfl:r= .error x:=by rw[<-c.o,hv]
   unfold dX;go_wp2
   exact⟨rfl,b,rfl⟩
  |ok x=>
   rintro e w2 ⟨b,rfl,g⟩;obtain rfl:r= .ok ((),x.2):=by rw[<-c.o,hv]
   go_wp2;go_end0;exact⟨b,rfl,g⟩
 .have d:pr s a 1=(match po s a 8 with| .error x=> .error x| .ok x=> .ok ((),x.2)):=(uB s a 8).sy;rw[d];obtain⟨r,c⟩:∃r,Hid ((match po s a 8 with| .error x=> .error x| .ok x=> .ok ((),x.2):Fx (Unit×Nat))=r):=⟨_,rfl⟩;rw[c.o];go_in
  go_wp2_with fail;refine l.V ?_
  cases hv:po s a 8 with
  |error x=>
   rintro e w2 ⟨b,f⟩;obtain rfl:e=dX x.1 x.2:=f;obtain rfl:r= .error x:=by rw[<-c.o,hv]
   unfold dX;go_wp2
   exact⟨rfl,b,rfl⟩
  |ok x=>
   rintro e w2 ⟨b,rfl,g⟩;obtain rfl:r= .ok ((),x.2):=by rw[<-c.o,hv]
   go_wp2;go_end0;exact⟨b,rfl,g⟩
 .have d:pr s a 2=(match eU s a with| .error x=> .error x| .ok x=> .ok ((),x.2)):=rfl;rw[d];obtain⟨r,c⟩:∃r,Hid ((match eU s a with| .error x=> .error x| .ok x=> .ok ((),x.2):Fx (Unit×Nat))=r):=⟨_,rfl⟩;rw[c.o];go_in
  go_wp2_with fail;refine(oo w rb s a deep h i).V ?_
  cases hv:eU s a with
  |error x=>
   rintro e w2 ⟨b,f⟩;obtain rfl:e=dX x.1 x.2:=f;obtain rfl:r= .error x:=by rw[<-c.o,hv]
   unfold dX;go_wp2
   exact⟨rfl,b,rfl⟩
  |ok x=>
   rintro e w2 ⟨b,nb,rfl,_,_,_,g⟩;obtain rfl:r= .ok ((),x.2):=by rw[<-c.o,hv]
   go_wp2;go_end0;exact⟨b,rfl,g⟩
 .have d:pr s a 5=(match po s a 4 with| .error x=> .error x| .ok x=> .ok ((),x.2)):=(uB s a 4).sy;rw[d];obtain⟨r,c⟩:∃r,Hid ((match po s a 4 with| .error x=> .error x| .ok x=> .ok ((),x.2):Fx (Unit×Nat))=r):=⟨_,rfl⟩;rw[c.o];go_in
  go_wp2_with fail;refine k.V ?_
  cases hv:po s a 4 with
  |error x=>
   rintro e w2 ⟨b,f⟩;obtain rfl:e=dX x.1 x.2:=f;obtain rfl:r= .error x:=by rw[<-c.o,hv]
   unfold dX;go_wp2
   exact⟨rfl,b,rfl⟩
  |ok x=>
   rintro e w2 ⟨b,rfl,g⟩;obtain rfl:r= .ok ((),x.2):=by rw[<-c.o,hv]
   go_wp2;go_end0;exact⟨b,rfl,g⟩
end
def sU {b:au}{a e:Nat}{r:pO}(h:jj b a e= .ok r):r.a=a/\a<r.fr/\a+2<=r.e/\r.fr<=r.e/\r.e<=e/\0<=r.n/\r.n<2^64/\1<=r.num/\r.num<=536870911:=by
 unfold jj at h
 cases h1:j8 b a e with
 |error x=>rw[h1]at h;cases h
 |ok x=>
  obtain⟨t,fr⟩:=x;rw[h1]at h;have⟨i,j,l,m⟩:=jr h1;simp only at h;by_cases q:t/8<1\/536870911<t/8;.rw[dH q]at h;cases h
  .rw[dG q]at h;by_cases k0:t%8=0
   .rw[dH k0]at h
    cases h2:j8 b fr e with
    |error x=>rw[h2]at h;cases h
    |ok x=>
     obtain⟨n,f⟩:=x;rw[h2]at h;have⟨u1,u2,u3,u4⟩:=jr h2;simp only[Except.ok.injEq]at h;subst h;refine⟨rfl,?_,?_,?_,?_,u1,u2,?_,?_⟩<;>simp only<;>omega
   .rw[dG k0]at h;have c:∀(k:Nat),k<=8->0<=vi (b.extract fr (fr+k))/\vi (b.extract fr (fr+k))<2^64:=λk g=>oq (by rw[aU];omega)
    by_cases k1:t%8=1
    .rw[dH k1]at h;by_cases z:fr+8<=e;.rw[dH z]at h;simp only[Except.ok.injEq]at h;subst h;refine⟨rfl,?_,?_,?_,?_,(c 8 Te).1,(c 8 Te).2,?_,?_⟩<;>simp only<;>omega
     .rw[dG z]at h;cases h
    .rw[dG k1]at h;by_cases k5:t%8=5
     .rw[dH k5]at h;by_cases z:fr+4<=e;.rw[dH z]at h;simp only[Except.ok.injEq]at h;subst h;refine⟨rfl,?_,?_,?_,?_,(c 4 Te).1,(c 4 Te).2,?_,?_⟩<;>simp only<;>omega
      .rw[dG z]at h;cases h
     .rw[dG k5]at h;by_cases k2:t%8=2
      .rw[dH k2]at h
       cases h2:j8 b fr e with
       |error x=>rw[h2]at h;cases h
       |ok x=>
        obtain⟨n,d⟩:=x;rw[h2]at h;have⟨u1,u2,u3,u4⟩:=jr h2;simp only at h;by_cases z:(d:Int)+n<=e;.rw[dH z]at h;simp only[Except.ok.injEq]at h;subst h;refine⟨rfl,?_,?_,?_,?_,Tf,Tf,?_,?_⟩<;>simp only<;>omega
        .rw[dG z]at h;cases h
      .rw[dG k2]at h;cases h
def Er (n:Int):0<=vh n/\vh n<2^64:=by unfold vh;split<;>omega
def zJ {n:Int}(a:0<=n)(h1:n<2^64):0<=IV n/\IV n<2^64:=by unfold IV;split<;>omega
def jU {k:Nat}{n:Int}(a:0<=n)(h1:n<2^64):0<=jc k n/\jc k n<2^64:=by
 unfold jc;split;.exact Er n
 .split;.omega
  .split;.exact zJ Te Te
   .split;.exact zJ a h1
    .split;.split<;>omega
     .exact⟨a,h1⟩
def gZ:∀{l:List fB} {n:Int} {f:fB},ei l n=some f->f.num=n/\f∈l
 | [],_,_,h=>by cases h
 |x::l,n,f,h=>by
  rw[ei]at h;by_cases q:x.num=n;.rw[dH q]at h;cases h;exact⟨q,Tf⟩
  .rw[dG q]at h;have⟨a,b⟩:=gZ h;exact⟨a,by simp[b]⟩
def jV:∀{l:List MT} {s:au} {d:MT},jG l s=some d->d∈l
 | [],_,_,h=>by cases h
 |x::l,s,d,h=>by
  rw[jG]at h;by_cases q:gP x.name s=true;.rw[dH q]at h;cases h;simp
  .rw[dG q]at h;simp[jV h]
structure Pb (S:eE)(t:au):Prop where
 no:S.msg t=none
 w1:S.wire t=2->gP t og=true
 w2:gP t og=true->S.wire t=2
structure uC (S:eE):Prop where
 wire:∀t,(S.msg t).isSome=true->S.wire t=2
 key:∀d∈S.ms,∀f∈d.fs,f.isMap=true->Pb S f.key
def kM (S:eE)(d:MT):Prop:=∀f∈d.fs,f.isMap=true->Pb S f.key
def AP:gP nK AC=false:=by
 unfold gP;rw[ByteArray.toList_eq,ByteArray.toList_eq];decide
def uC.sub {S:eE}(c:uC S){f:fB}{sub:MT}(h:fS S f=some sub):kM S sub:=by
 unfold fS at h;by_cases q:f.isMap=true
 .rw[dH q]at h;cases h;intro g b a;have e:∀(x y z:au) (n:Int),fB.isMap ⟨x,y,z,nK,n⟩=false:=λ_ _ _ _=>AP
  simp only[eX,aR,cp,or_false]at b;rcases b with rfl|rfl;.rw[e]at a;cases a
  .rw[e]at a;cases a
 .rw[dG q]at h;exact λg b a=>c.key sub (jV h) g b a
def Js.none (S:eE)(t:au):Js S t PV.none:=⟨Th,Th,Th,rfl,λ_=>rfl,λ_=>rfl⟩
def FT {S:eE}{b:au}{f:fB}{r:pO}{v:PV}(h:rg S b f r= .ok v)(c:r.kind=S.wire f.ty)(d:b.size<=268435456)(a:0<=r.n)(h1:r.n<2^64):Js S f.ty v:=by
 unfold rg at h;by_cases k:r.kind=2
 .rw[dH k]at h;split at h;.cases h
  .cases h;exact⟨Tf,Tf,by simp only[aU];omega,rfl,λ_=>rfl,λq=>absurd (c.sy.J k) q⟩
 .rw[dG k]at h;cases h;exact⟨(jU a h1).1,(jU a h1).2,aM _,rfl,λq=>absurd (c.J q) k,λ_=>rfl⟩
def sV {b:au}{k e:Nat}{P:PV->Prop}(d:∀n:Int,0<=n->n<2^64->P (jc k n,eS,PM.none)):∀(F:Nat) (l:List PV) (a:Nat) (l':List PV),gy b k e F l a= .ok l'->a<=e->l.length<=a->(∀v∈l,P v)->l'.length<=e/\∀v∈l',P v
 |0,l,a,l',h,ha,hl,hp=>by
  rw[gy]at h;cases h
  exact⟨Te,hp⟩
 |F+1,l,a,l',h,ha,hl,hp=>by
  rw[gy]at h
  have f:∀n:Int,0<=n->n<2^64->∀v∈l++ [(jc k n,eS,PM.none)],P v:=λn i j v c=>by
   simp only[aQ,bn]at c;rcases c with c|rfl;.exact hp v c
   .exact d n i j
  by_cases q:a<e
  .rw[dH q]at h;by_cases z:ed k=0
   .rw[dH z]at h
    cases h2:j8 b a e with
    |error x=>rw[h2]at h;cases h
    |ok x=>
     obtain⟨n,y⟩:=x;rw[h2]at h;have⟨u1,u2,u3,u4⟩:=jr h2;exact sV d F _ y l' h u4 Tg (f n u1 u2)
   .rw[dG z]at h;simp only at h;generalize hy:(if ed k=5 then 4 else 8)=y at h;have m:1<=y/\y<=8:=(by split at hy<;>omega);by_cases z2:a+y<=e;.rw[dH z2]at h;have g:=oq (s:=b.extract a (a+y)) (by rw[aU];omega);exact sV d F _ (a+y) l' h z2 Tg (f _ g.1 g.2)
    .rw[dG z2]at h;cases h
  .rw[dG q]at h;cases h;exact⟨Te,hp⟩
def wZ (t:au)(v:PV):∀(l:List PV) (done:Bool) (x:PV),x∈gq t v done l->x=v\/x∈l
 | [],done,x,h=>by
  cases done;.simp[gq]at h;exact .inl h
  .simp[gq]at h
 |y::l,done,x,h=>by
  rw[gq,aQ,aQ]at h;rcases h with h|h|h
  .split at h;.simp at h;exact .inl h
   .cases h
  .split at h;.cases h
   .simp at h;exact .inr (by simp[h])
  .rcases wZ t v l _ x h with h|h;.exact .inl h
   .exact .inr (by simp[h])
def xd (t:au)(v:PV):∀(l:List PV) (done:Bool),(gq t v done l).length<=l.length+(if done then 0 else 1)
 | [],done=>by cases done<;>simp[gq]
 |y::l,done=>by
  rw[gq,bf,bf];generalize hq:(kL t (fJ v) (fJ y)||lP (fJ v) (fJ y))=q;have h:=xd t v l (done||q);cases done<;>cases q<;>cases lP (fJ v) (fJ y)<;>simp at h⊢<;>omega
def PM.put_len (m:PM)(n:Int)(vs:List PV):(m.put n vs).fs.length<=m.fs.length+1:=by
 have:=sQ n vs m.fs vs.isEmpty;show(gY n vs vs.isEmpty m.fs).length<=_;split at this<;>omega
def vS {S:eE}{a:Nat}{f:fB}{sm:PM}(c:Pb S f.key)(h:WM S a (eX f) sm):QQ a f.key (0,eS,fY sm):=by
 have o:=h.len.1
 have k:=(h.vals 1).ht ⟨oe,f.key,eS,nK,1⟩ (by simp[eX,ei]) (by
  unfold fS;rw[dG (by show¬gP nK AC=true;rw[AP];decide)]
  exact c.no)
 have l:(fY sm).get 1=(if(sm.get 1).isEmpty then [PV.none]else sm.get 1):=by
  show(fM (fM sm 1) 2).get 1=_
  have j:∀m:PM,(fM m 2).get 1=m.get 1:=λm=>by
   unfold fM;split;.exact PM.get_put_ne m 2 1 _ Th
   .rfl
  rw[j];unfold fM;split;.exact PM.get_put sm 1 [PV.none] Tf
  .rfl
 have i:∃x rest,(fY sm).get 1=x::rest/\Js S f.key x:=by
  rw[l]
  cases he:sm.get 1 with
  |nil=>exact⟨PV.none,[],rfl,Js.none S _⟩
  |cons x rest=>exact⟨x,rest,rfl,k x (by rw[he];simp)⟩
 obtain⟨x,rest,g,b⟩:=i;have d:fJ (0,eS,fY sm)=x:=(by show((fY sm).get 1).headD PV.none=x;rw[g];rfl);refine⟨⟨rest,by rw[d];exact g⟩,?_,?_,rfl,rfl⟩;.rw[d];refine⟨b.lo,b.hi,b.sz,λq=>b.txt (c.w2 q),λq=>b.num (λz=> ?_)⟩;rw[c.w1 z]at q;cases q
 .show(fM (fM sm 1) 2).fs.length<=a+2
  have e:∀(m:PM) (n:Int),(fM m n).fs.length<=m.fs.length+1:=λm n=>by
   unfold fM;split;.exact PM.put_len m n _
   .omega
  have:=e sm 1;have:=e (fM sm 1) 2;omega
def jB {S:eE}{a:Nat}{d:MT}{m:PM}{n:Int}{f:fB}{sub:MT}(h:WM S a d m)(b:ei d.fs n=some f)(e:fS S f=some sub):((eP f m).1=0/\(eP f m).2.1=eS)/\WM S a sub (eP f m).2.2:=by
 have i:=(gZ b).1;unfold eP;by_cases q:(f.isRep||f.isMap)=true;.rw[dH q];exact⟨⟨rfl,rfl⟩,WM.none S a sub⟩
 .rw[dG q]
  have c:f.isMap=false:=by
   cases hh:f.isMap with
   |false=>rfl
   |true=>rw[hh,dj]at q;exact absurd rfl q
  rw[i]
  cases hg:m.get n with
  |nil=>exact⟨⟨rfl,rfl⟩,WM.none S a sub⟩
  |cons x rest=>
   have g:x∈m.get n:=by rw[hg];simp
   exact⟨(h.vals n).hz f sub b c e x g,(h.vals n).hs f sub b c e x g⟩
def xf {S:eE}{a a':Nat}{d:MT}{m sm:PM}{n:Int}{f:fB}{sub:MT}(y:kM S d)(h:WM S a d m)(p:ei d.fs n=some f)(j:fS S f=some sub)(u:a+1<=a')(t:WM S a' sub sm):
  WM S a' d (g9 S d f m ((eP f m).1,(eP f m).2.1,sm)):=by
 have⟨z,w⟩:=gZ p;have⟨⟨A,B⟩,_⟩:=jB h p j;have hlen:=h.len.2.2 n;unfold g9;rw[z,A,B];have e:∀g,ei d.fs n=some g->g=f:=λg b=>by rw[p]at b;exact(Option.some.inj b).sy
 have hold:=h.vals n;by_cases q:f.isMap=true
 .rw[dH q];have x:sub=eX f:=(by unfold fS at j;rw[dH q]at j;exact(Option.some.inj j).sy);subst x;refine h.put u ⟨?_,λg b _ v c=> ?_,λg o b i _=> ?_,λg o b i _=> ?_,λg b l=> ?_⟩;.have:=xd f.key (0,eS,fY sm) (m.get n) false;show(gq f.key (0,eS,fY sm) false (m.get n)).length<=a';simp at this;omega
  .rw[e g b];rcases wZ _ _ _ _ _ c with rfl|c;.exact vS (y f w q) t
   .have:=hold.hm f p q v c;exact⟨this.key,this.ky,by have:=this.len;omega,this.m⟩
  .rw[e g b,q]at i;cases i
  .rw[e g b,q]at i;cases i
  .rw[e g b,j]at l;cases l
 .rw[dG q]
  have s:f.isMap=false:=by
   cases hh:f.isMap with
   |false=>rfl
   |true=>exact absurd hh q
  by_cases r:f.isRep=true
  .rw[dH r];refine h.put u ⟨Tg,λg b i=> ?_,λg o b _ k v c=> ?_,λg o b _ k v c=> ?_,λg b l=> ?_⟩;.rw[e g b,s]at i;cases i
   .rw[e g b]at k;simp only[aQ,bn]at c;rcases c with c|rfl;.exact hold.hz f o p s k v c
    .exact⟨rfl,rfl⟩
   .rw[e g b,j]at k;cases k;simp only[aQ,bn]at c;rcases c with c|rfl;.exact(hold.hs f sub p s j v c).V Te
    .exact t
   .rw[e g b,j]at l;cases l
  .rw[dG r,dG (by rw[j];simp)];refine(h.dropF f d.fs).put u ⟨Tg,λg b i=> ?_,λg o b _ k v c=> ?_,λg o b _ k v c=> ?_,λg b l=> ?_⟩;.rw[e g b,s]at i;cases i
   .simp only[bn]at c;subst c;exact⟨rfl,rfl⟩
   .rw[e g b,j]at k;cases k;simp only[bn]at c;subst c;exact t
   .rw[e g b,j]at l;cases l
def vT {S:eE}{a:Nat}{d:MT}{n:Int}{f:fB}{vs:List PV}(k:ei d.fs n=some f)(e:fS S f=none)(m:vs.length<=a)(p:∀v∈vs,Js S f.ty v):RC S a d n vs:=by
 have h:∀g,ei d.fs n=some g->g=f:=λg b=>by rw[k]at b;exact(Option.some.inj b).sy
 refine⟨m,λg b i=> ?_,λg j b _ c=> ?_,λg j b _ c=> ?_,λg b _ v l=> ?_⟩;.rw[h g b]at i;unfold fS at e;rw[dH i]at e;cases e
 .rw[h g b,e]at c;cases c
 .rw[h g b,e]at c;cases c
 .rw[h g b];exact p v l
def xg {S:eE}{a a':Nat}{d:MT}{m:PM}{n:Int}{f:fB}{v:PV}(h:WM S a d m)(e:ei d.fs n=some f)(c:fS S f=none)(g:a+1<=a')(i:Js S f.ty v):WM S a' d (g9 S d f m v):=by
 have⟨k,l⟩:=gZ e;have hlen:=h.len.2.2 n;unfold g9;rw[k]
 have j:¬f.isMap=true:=λq=>by
  unfold fS at c;rw[dH q]at c;cases c
 rw[dG j];split
 .refine h.put g (vT e c Tg λx b=> ?_);simp only[aQ,bn]at b;rcases b with b|rfl;.exact(h.vals n).ht f e c x b
  .exact i
 .split;.exact(h.drop n).V Te
  .refine(h.dropF f d.fs).put g (vT e c Tg λx b=> ?_);simp only[bn]at b;subst b;exact i
def jM {S:eE}{b:au}(g:uC S)(i:b.size<=268435456):∀(F:Nat) (d:MT) (m:PM) (a e deep:Nat) (m':PM),fj S b F d m a e deep= .ok m'->kM S d->a<=e->e<=b.size->WM S a d m->WM S e d m'
 |0,d,m,a,e,deep,m',h,_,ha,_,hw=>by
  rw[fj]at h;cases h
  exact hw.V ha
 |F+1,d,m,a,e,deep,m',h,hd,ha,he,hw=>by
  rw[fj]at h;by_cases q:a<e
  .rw[dH q]at h
   cases hr:jj b a e with
   |error x=>rw[hr]at h;cases h
   |ok r=>
    rw[hr]at h;have⟨G,H,I,y,j,C,D,_,_⟩:=sU hr;have t:WM S r.e d (m.O (b.extract r.a r.e)):=hw.O _ (by rw[aU];omega);simp only at h
    cases hf:ei d.fs r.num with
    |none=>
     rw[hf]at h
     exact jM g i F d _ r.e e deep m' h hd j he t
    |some f=>
     rw[hf]at h;simp only at h;by_cases k:r.kind=ff S f
     .rw[dH k]at h
      cases c:fS S f with
      |some sub=>
       rw[c]at h;simp only at h;by_cases hfar:ng S sub (deep+1)=true;.rw[dH hfar]at h;cases h
       .rw[dG hfar]at h
        cases hl:fj S b F sub (eP f m).2.2 r.fr r.e (deep+1)with
        |error x=>rw[hl]at h;cases h
        |ok E=>
         rw[hl]at h;have z:=jM g i F sub _ r.fr r.e (deep+1) E hl (g.sub c) y Te ((jB hw hf c).2.V Te)
         exact jM g i F d _ r.e e deep m' h hd j he (xf hd hw hf c Te z)
      |none=>
       rw[c]at h;simp only at h
       cases hv:rg S b f r with
       |error x=>rw[hv]at h;cases h
       |ok v=>
        rw[hv]at h;have A:r.kind=S.wire f.ty:=(by rw[k];unfold ff;rw[dG (λq=>by unfold fS at c;rw[dH q]at c;cases c)]);exact jM g i F d _ r.e e deep m' h hd j he (xg hw hf c Te (FT hv A i C D))
     .rw[dG k]at h;by_cases k2:r.kind=2/\f.isRep=true
      .rw[dH k2]at h
       cases hp:ln S b f (m.get f.num) r.fr r.e with
       |error x=>rw[hp]at h;cases h
       |ok l=>
        rw[hp]at h;have s:¬f.isMap=true:=λq=>k (by unfold ff;rw[dH q];exact k2.1)
        have o:S.wire f.ty≠2:=λq=>k (by unfold ff;rw[dG s,q];exact k2.1)
        have c:fS S f=none:=by
         unfold fS;rw[dG s]
         cases hm:S.msg f.ty with
         |none=>rfl
         |some x=>exact absurd (g.wire f.ty (by rw[hm];rfl)) o
        have B:=(gZ hf).1;rw[B]at hp h;have p:=sV (P:=Js S f.ty) (λn u w=>⟨(jU u w).1,(jU u w).2,aM _,rfl,λq=>absurd q o,λ_=>rfl⟩) _ _ _ _ hp y (by have:=hw.len.2.2 r.num;omega) ((hw.vals r.num).ht f hf c);exact jM g i F d _ r.e e deep m' h hd j he (hw.put Te (vT hf c p.1 p.2))
      .rw[dG k2]at h;exact jM g i F d _ r.e e deep m' h hd j he t
  .rw[dG q]at h;cases h;exact hw.V ha
def kB.V {w:aw}{P Q:ax}{v:Value}{fs:List fB}(h:kB w P v fs)(a:∀b,P b->b<w.heap.size->Q b):kB w Q v fs:=d5.V h a
def jb:AC.toList= [109,97,112]:=Ti
def mh:MF.toList= [114,101,112,101,97,116,101,100]:=Ti
def uj:og.toList= [115,116,114,105,110,103]:=Ti
def tm:eS.toList= []:=Ti
def kB.sets {w:aw}{P:ax}{v:Value}{fs:List fB}(h:kB w P v fs){c:Nat}{cs:aq}{T:TypeId}(K:dP w c cs T)(d:T≠178)(vs:ay)(o:Nat):kB (w.setCells c o vs) P v fs:=
 ⟨dR h.1 (λb f=>eI (c:=c) _ b (λe=>by
  subst e;have⟨g,a⟩:=eo h.1 f
  exact d (K.ty a)) vs o),h.2⟩
def RO (w:aw)(P:ax)(sb:Nat)(S:eE)(f:fB)(h:iE w P sb S)(x:S.ms.length<=4000)(u:∀b,w.heap.size<=b->P b):
  Calls prog 298 #[ag sb,.agg (fI f).toArray] w (OG w P (fS S f)):=by
 unfold fI;have K:=(dP.new w #[ae f.name,ae f.ty,ae f.key,ae f.how,aa f.num] 178).alloc (ak #[S8,ah] 111);have e:=dP.new1 w (ak #[ae f.name,ae f.ty,ae f.key,ae f.how,aa f.num] 178) #[S8,ah] 111;have o:=(Tb w).alloc (aD _) (ak #[ae f.name,ae f.ty,ae f.key,ae f.how,aa f.num] 178);have B:=o.alloc Tf (ak #[S8,ah] 111);have⟨z,A⟩:=K.I;have v:=h.G B;go_in
 cases hm:(f.how.toList== [109,97,112])
 .have j:Hid (fS S f=S.msg f.ty):=(by unfold fS fB.isMap gP;rw[jb,hm];rfl);go_wp2_with fail;generalize(w.alloc (ak #[ae f.name,ae f.ty,ae f.key,ae f.how,aa f.num] 178)).alloc (ak #[S8,ah] 111)=w1 at*;refine(EY _ P sb S f.ty v x).V ?_;intro q w2 k
  cases h2:S.msg f.ty with
  |none=>
   rw[h2]at k;obtain⟨rfl,a⟩:=k;have c:=e.G a e.lt;have⟨m,n⟩:=c.I;go_wp2;refine dJ (kW results298 _ _ rfl (c.sets_all [_,_] rfl) underlying111 Tj) rfl ?_;rw[j.o,h2]
   exact⟨rfl,fH Te [_,_] 0 (B.J ⟨a.os,a.tape,a.output,a.size,λi l=>a.block i (by have:=B.size;omega)⟩)⟩
  |some d=>
   rw[h2]at k;obtain⟨t,rfl,g,a⟩:=k;obtain⟨r,s,rfl⟩:=g.form;have c:=e.G a e.lt;have⟨m,n⟩:=c.I;go_wp2;refine dJ (kW results298 _ _ rfl (c.sets_all [_,_] rfl) underlying111 Tj) rfl ?_;rw[j.o,h2];exact⟨_,rfl,g.sets c Th [_,_] 0,fH Te [_,_] 0 (B.J ⟨a.os,a.tape,a.output,a.size,λi l=>a.block i (by have:=B.size;omega)⟩)⟩
 .have j:Hid (fS S f=some (eX f)):=(by unfold fS fB.isMap gP;rw[jb,hm];rfl);go_wp2_with fail;generalize(w.alloc (ak #[ae f.name,ae f.ty,ae f.key,ae f.how,aa f.num] 178)).alloc (ak #[S8,ah] 111)=w1 at*;refine(Nx _ f).V ?_;rintro q w2 ⟨t,rfl,g,a⟩;obtain⟨r,s,rfl⟩:=g.form;have c:=e.G a e.lt;have⟨m,n⟩:=c.I;go_wp2;refine dJ (kW results298 _ _ rfl (c.sets_all [_,_] rfl) underlying111 Tj) rfl ?_;rw[j.o];have p:=B.J ⟨a.os,a.tape,a.output,a.size,λi l=>a.block i (by have:=B.size;omega)⟩;exact⟨_,rfl,(g.V (λb y _=>u b (by have:=B.size;omega))).sets c Th [_,_] 0,fH Te [_,_] 0 p⟩
def Bo (S:eE):Prop:=∀x∈S.es,ip x.toList=false
def gi (S:eE){t:au}{l:an}{k:Nat}(h:(t.toList==l)=true)(a:vg lA l 0=some k):S.base t=k:=by
 unfold eE.base;rw[eq_of_beq h,a]
def xX:∀(l:List (an)) (s:an) (k:Nat),(∀x∈l,(s==x)=false)->vg l s k=none
 | [],_,_,_=>rfl
 |x::l,s,k,h=>by
  rw[vg,h x (co ..),dG Tf];exact xX l s (k+1) (λy a=>h y (cv _ a))
def xY:∀(l:List (an)) (s:an) (k j:Nat),vg l s k=some j->k<=j/\∃x,l[j-k]?=some x/\(s==x)=true
 | [],_,_,_,h=>by simp[vg]at h
 |x::l,s,k,j,h=>by
  rw[vg]at h;split at h;.rename_i c;simp only[Option.some.injEq]at h;subst h;exact⟨aD _,x,Tf,c⟩
  .have⟨d,y,a,b⟩:=xY l s (k+1) j h;refine⟨Te,y,?_,b⟩;rw[show j-k=(j-(k+1))+1 from by omega];simpa using a
def qN (S:eE){t:au}{l:an}{k:Nat}(h:(t.toList==l)=false)(f:lA[k]?=some l)(d:k<15):S.base t≠k:=by
 unfold eE.base
 cases hi:vg lA t.toList 0 with
 |none=>
  simp only
  split<;>omega
 |some j=>
  have⟨_,x,a,b⟩:=xY _ _ _ _ hi;intro e;have c:j=k:=e;subst c;rw[Nat.sub_zero,f]at a;cases a;rw[h]at b;cases b
def Ny (S:eE){t:au}(hm:eC S.es t=false):S.base t≠15:=by
 unfold eE.base
 cases hi:vg lA t.toList 0 with
 |none=>simp[hm]
 |some j=>
  have⟨_,x,a,_⟩:=xY _ _ _ _ hi;have:j<15:=(by have:=bt.1 a;obtain⟨b,_⟩:=this;simpa [lA]using b);simp only;omega
def EZ {S:eE}(a:Bo S){t:au}(h:ip t.toList=true):eC S.es t=false:=by
 unfold eC;rw[de];intro x c b;have:=a x c;rw[eq_of_beq b,h]at this;cases this
def Ln (w:aw)(P:ax)(sb:Nat)(S:eE)(t:au)(h:iE w P sb S)(i:Bo S)(m:S.es.length<=4000):
  Calls prog 307 #[ag sb,ae t] w λe w'=>e= .returned (aa (S.wire t))/\w'=w:=by
 have⟨z,s,cs,l,u,v,y,g⟩:=h.at_;obtain⟨p,o,q,rfl⟩:=dO g.1;have⟨A,B⟩:=l.I;go_in
 cases q0:(t.toList== [105,110,116,51,50]);rotate_left
 .have a:S.wire t=ed 0:=by unfold eE.wire;rw[gi S (k:=0) q0 Th]
  have b:Hid (S.wire t=ed 0):=a;clear a;go_wp2;go_ret;exact⟨by rw[b.o];rfl,rfl⟩
 cases q1:(t.toList== [105,110,116,54,52]);rotate_left
 .have a:S.wire t=ed 1:=by unfold eE.wire;rw[gi S (k:=1) q1 Th]
  have b:Hid (S.wire t=ed 1):=a;clear a;go_wp2;go_ret;exact⟨by rw[b.o];rfl,rfl⟩
 cases q2:(t.toList== [117,105,110,116,51,50]);rotate_left
 .have a:S.wire t=ed 2:=by unfold eE.wire;rw[gi S (k:=2) q2 Th]
  have b:Hid (S.wire t=ed 2):=a;clear a;go_wp2;go_ret;exact⟨by rw[b.o];rfl,rfl⟩
 cases q3:(t.toList== [117,105,110,116,54,52]);rotate_left
 .have a:S.wire t=ed 3:=by unfold eE.wire;rw[gi S (k:=3) q3 Th]
  have b:Hid (S.wire t=ed 3):=a;clear a;go_wp2;go_ret;exact⟨by rw[b.o];rfl,rfl⟩
 cases q4:(t.toList== [115,105,110,116,51,50]);rotate_left
 .have a:S.wire t=ed 4:=by unfold eE.wire;rw[gi S (k:=4) q4 Th]
  have b:Hid (S.wire t=ed 4):=a;clear a;go_wp2;go_ret;exact⟨by rw[b.o];rfl,rfl⟩
 cases q5:(t.toList== [115,105,110,116,54,52]);rotate_left
 .have a:S.wire t=ed 5:=by unfold eE.wire;rw[gi S (k:=5) q5 Th]
  have b:Hid (S.wire t=ed 5):=a;clear a;go_wp2;go_ret;exact⟨by rw[b.o];rfl,rfl⟩
 cases q6:(t.toList== [98,111,111,108]);rotate_left
 .have a:S.wire t=ed 6:=by unfold eE.wire;rw[gi S (k:=6) q6 Th]
  have b:Hid (S.wire t=ed 6):=a;clear a;go_wp2;go_ret;exact⟨by rw[b.o];rfl,rfl⟩
 cases q7:(t.toList== [102,105,120,101,100,54,52]);rotate_left
 .have a:S.wire t=ed 8:=by unfold eE.wire;rw[gi S (k:=8) q7 Th]
  have b:Hid (S.wire t=ed 8):=a;clear a;go_wp2;go_ret;exact⟨by rw[b.o];rfl,rfl⟩
 cases q8:(t.toList== [115,102,105,120,101,100,54,52]);rotate_left
 .have a:S.wire t=ed 10:=by unfold eE.wire;rw[gi S (k:=10) q8 Th]
  have b:Hid (S.wire t=ed 10):=a;clear a;go_wp2;go_ret;exact⟨by rw[b.o];rfl,rfl⟩
 cases q9:(t.toList== [100,111,117,98,108,101]);rotate_left
 .have a:S.wire t=ed 12:=by unfold eE.wire;rw[gi S (k:=12) q9 Th]
  have b:Hid (S.wire t=ed 12):=a;clear a;go_wp2;go_ret;exact⟨by rw[b.o];rfl,rfl⟩
 cases q10:(t.toList== [102,105,120,101,100,51,50]);rotate_left
 .have a:S.wire t=ed 7:=by unfold eE.wire;rw[gi S (k:=7) q10 Th]
  have b:Hid (S.wire t=ed 7):=a;clear a;go_wp2;go_ret;exact⟨by rw[b.o];rfl,rfl⟩
 cases q11:(t.toList== [115,102,105,120,101,100,51,50]);rotate_left
 .have a:S.wire t=ed 9:=by unfold eE.wire;rw[gi S (k:=9) q11 Th]
  have b:Hid (S.wire t=ed 9):=a;clear a;go_wp2;go_ret;exact⟨by rw[b.o];rfl,rfl⟩
 cases q12:(t.toList== [102,108,111,97,116]);rotate_left
 .have a:S.wire t=ed 11:=by unfold eE.wire;rw[gi S (k:=11) q12 Th]
  have b:Hid (S.wire t=ed 11):=a;clear a;go_wp2;go_ret;exact⟨by rw[b.o];rfl,rfl⟩
 have f:S.wire t=if eC S.es t then 0 else 2:=by
  unfold eE.wire eE.base;cases hs:(t.toList== [115,116,114,105,110,103])
  .cases hy:(t.toList== [98,121,116,101,115]);.rw[xX lA t.toList 0 (by simp only[lA,aR,cp,or_false];rintro x (rfl|rfl|rfl|rfl|rfl|rfl|rfl|rfl|rfl|rfl|rfl|rfl|rfl|rfl|rfl)<;>assumption)];cases eC S.es t<;>rfl
   .rw[EZ i (by rw[eq_of_beq hy];decide),eq_of_beq hy];rfl
  .rw[EZ i (by rw[eq_of_beq hs];decide),eq_of_beq hs];rfl
 have d:Hid (S.wire t=if eC S.es t then 0 else 2):=f;clear f;go_wp2_with fail;refine(MD _ _ _ S.es t m g.1).V ?_;rintro e _ ⟨⟨r,rfl,n⟩,rfl⟩;have c:=n.ge;cases hm:eC S.es t;.rw[hm]at c;have j:¬0<=r:=of_decide_eq_false c;go_wp2;go_ret;exact⟨by rw[d.o,hm];rfl,rfl⟩
 .rw[hm]at c;have j:0<=r:=dI c;go_wp2;go_ret;exact⟨by rw[d.o,hm];rfl,rfl⟩
def Du (w:aw)(P:ax)(sb:Nat)(S:eE)(f:fB)(h:iE w P sb S)(b:Bo S)(d:S.es.length<=4000):
  Calls prog 223 #[ag sb,.agg (fI f).toArray] w λe w'=>e= .returned (aa (ff S f))/\aj w w':=by
 unfold fI;have⟨B,K⟩:=eY w #[ae f.name,ae f.ty,ae f.key,ae f.how,aa f.num] 178;have⟨i,j⟩:=K.I;have c:=h.G B;go_in
 cases hm:(f.how.toList== [109,97,112]);.have a:Hid (ff S f=S.wire f.ty):=(by unfold ff fB.isMap gP;rw[jb,hm];rfl);go_wp2_with fail;refine(Ln _ P sb S f.ty c b d).V ?_;rintro g _ ⟨rfl,rfl⟩;go_wp2;go_ret;exact⟨by rw[a.o];rfl,B⟩
 .have a:Hid (ff S f=2):=(by unfold ff fB.isMap gP;rw[jb,hm];rfl);go_wp2;go_ret;exact⟨by rw[a.o];rfl,B⟩
def tq (w:aw)(P:ax)(sb:Nat)(S:eE)(t:au)(n:Int)(h:iE w P sb S)(B:Bo S)(C:S.es.length<=4000)(j:0<=n)(d:n<2^64):
  Calls prog 309 #[ag sb,ae t,.int .u64 n] w λe w'=>e= .returned (.int .u64 (jc (S.base t) n))/\w'=w:=by
 have⟨M,I,cs,A,J,K,L,l⟩:=h.at_;obtain⟨G,F,H,rfl⟩:=dO l.1;have⟨N,O⟩:=A.I;have m:n.tmod 4294967296=n%4294967296:=cN j;go_in
 cases q0:(t.toList== [105,110,116,51,50]);rotate_left;.have a:Hid (S.base t=0):=gi S (k:=0) q0 Th;go_wp2_with fail;refine(wY _ n).V ?_;rintro e _ ⟨rfl,rfl⟩;go_wp2;go_ret;exact⟨by rw[a.o];rfl,rfl⟩
 cases q1:(t.toList== [115,102,105,120,101,100,51,50]);rotate_left;.have a:Hid (S.base t=9):=gi S (k:=9) q1 Th;go_wp2_with fail;refine(wY _ n).V ?_;rintro e _ ⟨rfl,rfl⟩;go_wp2;go_ret;exact⟨by rw[a.o];rfl,rfl⟩
 cases q2:(t.toList== [117,105,110,116,51,50]);rotate_left;.have a:Hid (S.base t=2):=gi S (k:=2) q2 Th;go_wp2;go_ret;exact⟨by rw[a.o];rfl,rfl⟩
 cases q3:(t.toList== [115,105,110,116,51,50]);rotate_left;.have a:Hid (S.base t=4):=gi S (k:=4) q3 Th;go_wp2_with fail;refine(CJ _ (n%4294967296) Te Te).V ?_;rintro e _ ⟨rfl,rfl⟩;go_wp2;go_ret;exact⟨by rw[a.o];rfl,rfl⟩
 cases q4:(t.toList== [115,105,110,116,54,52]);rotate_left;.have a:Hid (S.base t=5):=gi S (k:=5) q4 Th;go_wp2_with fail;refine(CJ _ n j d).V ?_;rintro e _ ⟨rfl,rfl⟩;go_wp2;go_ret;exact⟨by rw[a.o];rfl,rfl⟩
 cases q5:(t.toList== [98,111,111,108]);rotate_left
 .have a:Hid (S.base t=6):=gi S (k:=6) q5 Th;by_cases hp:0<n;.go_wp2;go_ret;exact⟨MX (by rw[a.o];simp[jc,hp]),rfl⟩
  .go_wp2;go_ret;exact⟨MX (by rw[a.o];simp[jc,hp]),rfl⟩
 have i:jc (S.base t) n=if eC S.es t then vh n else n:=by
  cases hm:eC S.es t;.have f:S.base t≠0/\S.base t≠9/\S.base t≠15/\S.base t≠2/\S.base t≠4/\S.base t≠5/\S.base t≠6:=(by exact⟨qN S q0 rfl Th,qN S q1 rfl Th,Ny S hm,qN S q2 rfl Th,qN S q3 rfl Th,qN S q4 rfl Th,qN S q5 rfl Th⟩);obtain⟨q,z,o,s,u,v,y⟩:=f;simp[jc,q,z,o,s,u,v,y]
  .have f:S.base t=15:=by
    have b:ip t.toList=false:=by
     cases b:ip t.toList;.rfl
     .rw[EZ B b]at hm;cases hm
    unfold eE.base
    rw[xX lA t.toList 0 (λx E=>by
     cases hc:(t.toList==x);.rfl
     .exfalso;rw[eq_of_beq hc]at b;have:ip x=true:=by unfold ip;exact List.contains_iff_mem.2 E
      rw[this]at b
      cases b),hm]
    rfl
   rw[f];rfl
 have g:Hid (jc (S.base t) n=if eC S.es t then vh n else n):=i;clear i;go_wp2_with fail;refine(MD _ _ _ S.es t C l.1).V ?_;rintro e _ ⟨⟨r,rfl,D⟩,rfl⟩;have c:=D.ge;cases hm:eC S.es t;.rw[hm]at c;have p:¬0<=r:=of_decide_eq_false c;go_wp2;go_ret;exact⟨by rw[g.o,hm];rfl,rfl⟩
 .rw[hm]at c;have p:0<=r:=dI c;go_wp2_with fail;refine(wY _ n).V ?_;rintro e _ ⟨rfl,rfl⟩;go_wp2;go_ret;exact⟨by rw[g.o,hm];rfl,rfl⟩
def Q7 (w:aw)(P:ax)(sb:Nat)(S:eE)(d:MT)(fv:Value)(deep:Nat)(h:iE w P sb S)(E:S.ms.length<=4000)(k:kB w P fv d.fs)(A:gP d.name eS=true->2<=d.fs.length):
  Calls prog 219 #[ag sb,.agg #[ae d.name,fv],aa deep] w λe w'=>e= .returned (.bool (ng S d deep))/\aj w w':=by
 obtain⟨p,n,rfl⟩:=k.form;have⟨B,K⟩:=eY w #[ae d.name,.slice p d.fs.length n] 111;have⟨O,Q⟩:=K.I;have z:=h.G B;go_in
 cases hn:(d.name.toList== []);.have b:Hid (ng S d deep=decide (8<deep)):=(by unfold ng gP;rw[tm,hn];rfl);go_wp2;go_ret;exact⟨im (by rw[b.o,decide_eq_true_iff];simp;try omega),B⟩
 .by_cases h8:deep=8
  .subst h8;have hlen:=A (by unfold gP;rw[tm];exact hn)
   obtain⟨m,f1,rest,j⟩:∃m f1 rest,d.fs=m::f1::rest:=by
    match hd:d.fs,hlen with
    | [],h=>simp at h
    | [_],h=>simp at h
    |x::y::r,_=>exact⟨x,y,r,rfl⟩
   have b:Hid (ng S d 8=(S.msg f1.ty).isSome):=(by unfold ng gP;rw[tm,hn,j];rfl);obtain⟨g,rfl,v,C,l⟩:=k.get (i:=1) (f:=f1) (by rw[j];rfl);have⟨G,H,I,J,L⟩:=l (w.S6 #[ae d.name,Ta g d.fs.length n] 111) (B.block g C);have F:(1:Int)<(d.fs.length:Int):=Te;simp only[Nat.reduceMul,Nat.reduceAdd]at H;clear l j G I J L;go_wp2_with fail;refine(EY _ P sb S f1.ty z E).V ?_;intro N w2 c
   cases h2:S.msg f1.ty with
   |none=>
    rw[h2]at c;obtain⟨rfl,a⟩:=c;go_wp2;go_ret
    exact⟨by rw[b.o,h2];rfl,(B.J ⟨a.os,a.tape,a.output,a.size,λi D=>a.block i (by have:=B.size;omega)⟩).alloc (by have:=B.size;have:=a.size;omega) _⟩
   |some M=>
    rw[h2]at c;obtain⟨t,rfl,o,a⟩:=c;obtain⟨q,s,rfl⟩:=o.form;go_wp2;go_ret;exact⟨by rw[b.o,h2];rfl,(B.J ⟨a.os,a.tape,a.output,a.size,λi D=>a.block i (by have:=B.size;omega)⟩).alloc (by have:=B.size;have:=a.size;omega) _⟩
  .have u:¬(deep:Int)=8:=Te;have b:Hid (ng S d deep=decide (8<deep)):=(by unfold ng gP;rw[tm,hn,dH (by simp[h8])];rfl);go_wp2;go_ret;exact⟨im (by rw[b.o,decide_eq_true_iff];simp;try omega),B⟩
end Go.Proofs.YtfebdimolnobaaaGreatDoor
