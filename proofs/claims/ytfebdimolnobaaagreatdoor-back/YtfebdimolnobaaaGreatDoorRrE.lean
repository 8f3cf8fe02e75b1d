import Derived.Test.YtfebdimolnobaaaGreatDoorTreeOK
import Derived.Lib.ValidLaws
set_option maxRecDepth 100000
set_option maxHeartbeats 8000000
set_option linter.all false
namespace Go.Proofs.YtfebdimolnobaaaGreatDoor
open Go.RowKit Go.Proofs.Tryz
section
open Vo
def zJ (s:au)(j:Nat):Int:=IR s (s.size-j) j
def DF (s:au):zJ s s.size=0:=by unfold zJ;rw[Nat.sub_self];rfl
def As {s:au}{i:Nat}(h:i<s.size):zJ s i=256*zJ s (i+1)+fZ s i:=by
 unfold zJ;rw[show s.size-i=(s.size-(i+1))+1 from by omega,IR,dP h]
def BG:∀(k:Nat) (s:au) (j:Nat),s.size=j+k->0<=zJ s j/\zJ s j<256^k
 |0,s,j,h=>by
  rw[show j=s.size from by omega,DF]
  decide
 |k+1,s,j,h=>by
  have ih:=BG k s (j+1) Vc;have hr:=kO s j;rw[As Vc,Int.pow_succ];omega
def Oj {x n:Int}(hx:0<=x)(h0:0<=n)(h1:n<256)(h2:x*256+n<2^64):bits .or .u64 (x*256) n=x*256+n:=by
 obtain⟨a,rfl⟩:=bF hx;obtain⟨b,rfl⟩:=bF h0;have e:((a:Int)*256)=((a*256:Nat):Int):=Vc;rw[e]at h2⊢;have hb:b<2^8:=show b<256 by omega
 have e2:a*256=a<<<8:=by rw[dv]
 rw[bits_or_u64_nat (a*256) b Vc Vc,e2,<-dg hb];omega
def DG (w:aw)(s:au)(hs:s.size<=8):Calls prog 406 #[ag s] w λe w'=>e= .returned (.int .u64 (xB s))/\w'=w:=by
 have e0:xB s=zJ s 0:=rfl;rw[e0];go_in
 go_wp2;go_loopw [3,4] (λv i wr=>∃(k:Nat),k<=s.size/\i=aa ((k:Int)-1)/\v= .int .u64 (zJ s k)/\w=wr) (λ_ i _=>((intOf i)+1).toNat)
 case atStart=>exact⟨s.size,aE _,rfl,by rw[DF],rfl⟩
 case round=>
  obtain⟨k,hk,rfl,rfl,rfl⟩:=hrel
  cases k with
  |zero=>
   go_wp2;go_ret
   exact⟨rfl,rfl⟩
  |succ i=>
   have Vu:i<s.size:=Vc;have Vw:=jJ (t:=s) (k:=i) Vu;have Vs:=kO s i;have Vr:=As Vu;have Vp:=BG (s.size-(i+1)) s (i+1) Vc;have Vq:=BG (s.size-i) s i Vc
   have hp:(256:Int)^(s.size-i)<=256^8:=by
    have:=du (n:=256) Vf (show s.size-i<=8 by omega)
    exact_mod_cast this
   obtain⟨c,hc⟩:=Y9 (fZ s i);rw[hc]at Vw Vs Vr;obtain⟨x,hx⟩:=Y9 (zJ s (i+1));rw[hx]at Vr Vp⊢;have Vt:x*256+c<2^64:=(by rw[Vr]at Vq;have h3:(256:Int)^8=2^64:=Vf;omega);have hw1:IntKind.u64.wrap (x*256)=x*256:=gD Vc Vc;have hw2:IntKind.u64.wrap c=c:=gD Vc Vc;have hb:=Oj Vp.1 Vs.1 Vs.2 Vt;have hgi:(0:Int)<=(i:Int):=Vc;have Vx:(i:Int)+1-1=(i:Int):=Vc;have Vv:((i+1:Nat):Int)-1=(i:Int):=Vc;rw[Vv];clear Vv Vx Vp Vq hp e0;go_wp2;go_roundw
   case rel=>exact⟨i,Vc,rfl,by rw[Vr];congr 1;omega,trivial⟩
   case measure=>simp[intOf]
def jt (s:au)(a:Nat)(k:Nat):Fx (Int×Nat):=if a+k<=s.size then .ok (xB (s.extract a (a+k)),a+k)else .error (6,a)
def um (s:au)(a k:Nat):pL s a k=if a+k<=s.size then .ok (s.extract a (a+k),a+k)else .error (6,(a:Int)):=by
 unfold pL;by_cases h:a+k<=s.size;.rw[dP h,dP Vc];simp
 .rw[dO h,dO Vc]
def BH (w:aw)(rb:Nat)(s:au)(a:Nat)(deep:Int)(h:ee w rb s a deep)(ha:a<=s.size)(hs:s.size<=2^47):
  Calls prog 352 #[ah rb] w (pS w rb s deep (jt s a 4) (Value.int .u64)):=by
 have HT:=xH w rb s a deep 4 h ha hs Vf Vf;rw[show(4:Int)=((4:Nat):Int)from rfl,um]at HT;unfold jt;by_cases Vp:a+4<=s.size
 .rw[dP Vp]at HT⊢;go_in
  go_wp2_with fail;refine HT.V ?_;rintro e w2 ⟨hk,he,hr⟩;obtain rfl:e= .returned (ag (s.extract a (a+4))):=he;go_wp2_with fail;refine(DG w2 (s.extract a (a+4)) (by rw[bg];omega)).V ?_;rintro e w3 ⟨rfl,rfl⟩;go_wp2;go_ret;exact⟨hk,rfl,hr⟩
 .rw[dO Vp]at HT⊢;go_in
  go_wp2_with fail;refine HT.V ?_;rintro e w2 ⟨hk,he⟩;obtain rfl:e=dY 6 a:=he;unfold dY;go_wp2;exact⟨rfl,hk,rfl⟩
def wC (w:aw)(rb:Nat)(s:au)(a:Nat)(deep:Int)(h:ee w rb s a deep)(ha:a<=s.size)(hs:s.size<=2^47):
  Calls prog 353 #[ah rb] w (pS w rb s deep (jt s a 8) (Value.int .u64)):=by
 have HT:=xH w rb s a deep 8 h ha hs Vf Vf;rw[show(8:Int)=((8:Nat):Int)from rfl,um]at HT;unfold jt;by_cases Vp:a+8<=s.size
 .rw[dP Vp]at HT⊢;go_in
  go_wp2_with fail;refine HT.V ?_;rintro e w2 ⟨hk,he,hr⟩;obtain rfl:e= .returned (ag (s.extract a (a+8))):=he;go_wp2_with fail;refine(DG w2 (s.extract a (a+8)) (by rw[bg];omega)).V ?_;rintro e w3 ⟨rfl,rfl⟩;go_wp2;go_ret;exact⟨hk,rfl,hr⟩
 .rw[dO Vp]at HT⊢;go_in
  go_wp2_with fail;refine HT.V ?_;rintro e w2 ⟨hk,he⟩;obtain rfl:e=dY 6 a:=he;unfold dY;go_wp2;exact⟨rfl,hk,rfl⟩
def sV (w:aw)(n:Int):Calls prog 348 #[.int .u64 n] w λe w'=>e= .returned (.int .u64 (n%4294967296))/\w'=w:=by
 have e1:IntKind.u64.wrap (IntKind.u32.wrap n)=n%4294967296:=(by rw[IntKind.wrap_u32];exact gD Vc Vc);go_in
 go_wp2;go_ret;exact⟨rfl,rfl⟩
def pp (w:aw)(n:Int):Calls prog 347 #[.int .u64 n] w λe w'=>e= .returned (.int .u64 (mN n))/\w'=w:=by
 have e1:IntKind.u64.wrap (IntKind.i32.wrap n)=mN n:=by
  rw[IntKind.wrap_i32];unfold mN;split;.rw[show(n+2147483648)%4294967296-2147483648=n%4294967296 from by omega];exact gD Vc Vc
  .simp[IntKind.wrap,IntKind.bits,IntKind.signed];omega
 have e2:IntKind.u64.wrap (wrap32 n)=mN n:=(by rw[<-e1];congr 1;rw[IntKind.wrap_i32];unfold wrap32;rfl);go_in
 go_wp2;go_ret;exact⟨rfl,rfl⟩
def wD (w:aw)(n:Int)(h0:0<=n):Calls prog 351 #[.int .u64 n] w λe w'=>e= .returned (.int .u64 (if 0<n then 1 else 0))/\w'=w:=by
 by_cases h:0<n
 .have hd:(n==0)=false:=Ve;rw[dP h];go_in
  go_wp2;go_ret;exact⟨rfl,rfl⟩
 .obtain rfl:n=0:=Vc;rw[dO h];go_in
  go_wp2;go_ret;exact⟨rfl,rfl⟩
def rN {n:Int}(h0:0<=n)(h1:n<2^64):bits .xor .u64 n 18446744073709551615=18446744073709551615-n:=by
 obtain⟨a,rfl⟩:=bF h0;have hx:(BitVec.ofInt 64 (a:Int)).toNat=a:=(by rw[BitVec.ofInt_natCast,BitVec.toNat_ofNat];exact Nat.mod_eq_of_lt Vc);show IntKind.u64.wrap (((BitVec.ofInt 64 (a:Int))^^^(BitVec.ofInt 64 18446744073709551615)).toNat:Int)=_;have e1:BitVec.ofInt 64 18446744073709551615=BitVec.allOnes 64:=Vf;rw[e1,BitVec.xor_allOnes,BitVec.toNat_not,hx];rw[gD Vc Vc];omega
def rO {n:Int}(h0:0<=n)(h1:n<2^64):bits .xor .u64 n 0=n:=by
 obtain⟨a,rfl⟩:=bF h0;have hx:(BitVec.ofInt 64 (a:Int)).toNat=a:=(by rw[BitVec.ofInt_natCast,BitVec.toNat_ofNat];exact Nat.mod_eq_of_lt Vc);show IntKind.u64.wrap (((BitVec.ofInt 64 (a:Int))^^^(BitVec.ofInt 64 0)).toNat:Int)=_;have e1:BitVec.ofInt 64 0=0#64:=Vf;rw[e1,BitVec.xor_zero,hx];exact gD Vc Vc
def BI {n:Int}(h0:0<=n)(h1:n<2^64):bits .and .u64 n 1=n%2:=by
 obtain⟨a,rfl⟩:=bF h0;rw[show(1:Int)=((1:Nat):Int)from rfl,bits_and_u64_nat a 1 Vc Vc,Nat.and_one_is_mod];omega
def Fp (w:aw)(n:Int)(h0:0<=n)(h1:n<2^64):Calls prog 350 #[.int .u64 n] w λe w'=>e= .returned (.int .u64 (Dg n))/\w'=w:=by
 have hb:=BI h0 h1;unfold Dg;by_cases h:n%2=1
 .rw[dP h];rw[h]at hb;have hw:IntKind.u64.wrap (-1)=18446744073709551615:=Vf;have hx:=rN (n:=n/2) Vc Vc;go_in
  go_wp2;go_ret;exact⟨rfl,rfl⟩
 .rw[dO h];have h2:n%2=0:=Vc;rw[h2]at hb;have hw:IntKind.u64.wrap 0=0:=Vf;have hx:=rO (n:=n/2) Vc Vc;go_in
  go_wp2;go_ret;exact⟨rfl,rfl⟩
def Ks (w:aw)(n:Int):Calls prog 349 #[.int .u64 n] w λe w'=>e= .returned (.int .u64 (Dg (n%4294967296)))/\w'=w:=by
 go_in
 go_wp2_with fail;refine(sV w n).V ?_;rintro e w2 ⟨rfl,rfl⟩;go_wp2_with fail;refine(Fp _ (n%4294967296) Vc Vc).V ?_;rintro e w2 ⟨rfl,rfl⟩;go_wp2;go_ret;exact⟨rfl,rfl⟩
def UOK (w:aw):Prop:=Lib.Utf8Tabs 2 3 w
def UOK.lt1 {w:aw}(h:UOK w):2<w.heap.size:=aV _ _ (h.1 0 Vf)
def UOK.lt2 {w:aw}(h:UOK w):3<w.heap.size:=aV _ _ (h.2 0 Vf).1
def UOK.O {w w':aw}(h:UOK w)(hb:w'.heap[2]?=w.heap[2]?)(hb2:w'.heap[3]?=w.heap[3]?):UOK w':=
 ⟨λc hc=>(bC (a:=(aj 2 c)) hb).J (h.1 c hc), λi hi=>⟨(bC (a:=(aj 3 (2*i))) hb2).J (h.2 i hi).1,(bC (a:=(aj 3 (2*i+1))) hb2).J (h.2 i hi).2⟩⟩
def BJ (w:aw)(s:au)(hs:s.size<=2^47)(hu:UOK w):U8 325 #[ag s] w λe w'=>e= .returned (.bool (Lib.validD s.data.toList))/\ak w w':=
 Any.utf8_ValidString Tryz.laysVs s w Vc hu
def GX (s:au)(w:aw)(h:s.size<=2^47):
  Calls prog 108 #[ag s] w λe w'=>e= .returned (ag s)/\ak w w':=by
 go_in
 go_wp2_with fail;refine(AnyPu.stringslite_Clone Tryz.laysPu25 s _ Vc).V ?_;rintro e w1 ⟨rfl,hb⟩;go_wp2;go_ret;exact⟨rfl,hb⟩
def ju {s:au}{a z e:Nat}(h:fk s a= .ok (z,e)):a<z/\z<=e/\e<=s.size:=by
 unfold fk at h;split at h;.cases h
 .rename_i x hv;have⟨v0,v1,v2,v3⟩:=jj (m:=x.1) (z:=x.2) hv;split at h;.simp at h;obtain⟨rfl,rfl⟩:=h;omega
  .cases h
def GY (s:au)(z e:Nat):(s.extract 0 e).extract z (s.extract 0 e).size=s.extract z e:=by
 apply cN;simp only[cJ];apply Array.ext;.simp
 .intro i h1 h2;simp
def om (s:au)(a:Nat):Fx (au×Nat):=
 match fk s a with
 | .error x=> .error x
 | .ok x=> .ok (s.extract x.1 x.2,x.2)
def rP (s:au)(a:Nat):Fx (au×Nat):=
 match fk s a with
 | .error x=> .error x
 | .ok x=>if Lib.validD (s.extract x.1 x.2).data.toList then .ok (s.extract x.1 x.2,x.2)else .error (10,x.1)
def GZ (w:aw)(rb:Nat)(s:au)(a:Nat)(deep:Int)(h:ee w rb s a deep)(hs:s.size<=2^47):
  Calls prog 270 #[ah rb] w (pS w rb s deep (om s a) Value.string):=by
 obtain⟨r,HR⟩:∃r,Hid (om s a=r):=⟨_,rfl⟩;rw[HR.o];go_in
 go_wp2_with fail;refine(oI w rb s a deep h hs).V ?_
 cases hv:fk s a with
 |error x=>
  rintro e w2 ⟨hk,he⟩;obtain rfl:e=dY x.1 x.2:=he;obtain rfl:r= .error x:=by rw[<-HR.o,om,hv]
  unfold dY;go_wp2
  exact⟨rfl,hk,rfl⟩
 |ok x=>
  obtain⟨z,en⟩:=x;have⟨v1,v2,v3⟩:=ju hv;obtain rfl:r= .ok (s.extract z en,en):=by rw[<-HR.o,om,hv]
  rintro e w2 ⟨hk,nb,rfl,VA,VB,Vp,Vu⟩;have Vp:ee w2 nb (s.extract 0 en) z deep:=Vp;have hsz:(s.extract 0 en).size=en:=by rw[bg];omega
  go_wp2_with fail;have HL:=Fo w2 nb (s.extract 0 en) z deep Vp Vc;rw[GY]at HL;refine HL.V ?_;rintro e w3 ⟨rfl,q,rfl⟩;go_wp2_with fail;refine(GX (s.extract z en) _ (by rw[bg];omega)).V ?_;rintro e w4 ⟨rfl,b4⟩;go_wp2;go_ret;exact⟨(hk.drewN q).J (ec.oB b4),rfl,dX.G (Vu.drewN q) b4 (dX.lt Vu)⟩
def Kt (w:aw)(rb:Nat)(s:au)(a:Nat)(deep:Int)(h:ee w rb s a deep)(hs:s.size<=2^47)(hu:UOK w)(hu1:rb≠2)(hu2:rb≠3):
  Calls prog 269 #[ah rb] w (pS w rb s deep (rP s a) Value.string):=by
 obtain⟨r,HR⟩:∃r,Hid (rP s a=r):=⟨_,rfl⟩;rw[HR.o];go_in
 go_wp2_with fail;refine(oI w rb s a deep h hs).V ?_
 cases hv:fk s a with
 |error x=>
  rintro e w2 ⟨hk,he⟩;obtain rfl:e=dY x.1 x.2:=he;obtain rfl:r= .error x:=by rw[<-HR.o,rP,hv]
  unfold dY;go_wp2
  exact⟨rfl,hk,rfl⟩
 |ok x=>
  obtain⟨z,en⟩:=x;have⟨v1,v2,v3⟩:=ju hv;rintro e w2 ⟨hk,nb,rfl,VA,VB,Vp,Vu⟩;have Vp:ee w2 nb (s.extract 0 en) z deep:=Vp;have hsz:(s.extract 0 en).size=en:=by rw[bg];omega
  have Vv:UOK w2:=hu.O (hk.block _ hu.lt1 (by simp;exact λe=>hu1 e.sy)) (hk.block _ hu.lt2 (by simp;exact λe=>hu2 e.sy))
  have HL:Hid (∀w3:aw,ee w3 nb (s.extract 0 en) z deep->U8 272 #[ah nb] w3 λe w'=>e= .returned (ag (s.extract z en))/\∃q,w'=w3.drewN q):=λw3 h3=>by
   have:=Fo w3 nb (s.extract 0 en) z deep h3 Vc;rw[GY]at this;exact this
  have Vw:(s.extract z en).size<=2^47:=by rw[bg];omega
  have HV:Hid (∀w3:aw,UOK w3->U8 325 #[ag (s.extract z en)] w3 λe w'=>e= .returned (.bool (Lib.validD (s.extract z en).data.toList))/\ak w3 w'):=λw3 h3=>BJ w3 _ Vw h3
  have HC:Hid (∀w3:aw,U8 108 #[ag (s.extract z en)] w3 λe w'=>e= .returned (ag (s.extract z en))/\ak w3 w'):=λw3=>GX _ w3 Vw
  have HE:Hid (r=if Lib.validD (s.extract z en).data.toList then .ok (s.extract z en,en)else .error (10,(z:Int))):=(by show r=_;rw[<-HR.o,rP,hv]);clear HR hsz Vw;generalize s.extract z en=X at*;generalize Lib.validD X.data.toList=vd at*;go_wp2_with fail;refine(HL.o w2 Vp).V ?_;rintro e w3 ⟨rfl,q,rfl⟩;have Vq:=Vp.drewN q;have Vr:ee (w2.drewN q) rb s en deep:=Vu.drewN q;have Vy:=hk.drewN q;have Vz:UOK (w2.drewN q):=Vv.O rfl rfl;generalize w2.drewN q=w3 at*;go_wp2_with fail;refine(HV.o w3 Vz).V ?_;rintro e w4 ⟨rfl,b4⟩;have Vs:ee w4 nb (s.extract 0 en) z deep:=dX.G Vq b4 (dX.lt Vq);have Vt:ee w4 rb s en deep:=dX.G Vr b4 (dX.lt Vr);have Vx:=Vy.J (ec.oB b4);cases vd;.obtain rfl:r= .error (10,(z:Int)):=HE.o;have⟨k1,k2⟩:=dX.I Vs;go_wp2_with fail;refine(JM _ _ _).V ?_;rintro e w5 ⟨rfl,rfl⟩;go_wp2;exact⟨rfl,Vx,rfl⟩
  .obtain rfl:r= .ok (X,en):=HE.o;go_wp2_with fail;refine(HL.o w4 Vs).V ?_;rintro e w5 ⟨rfl,q5,rfl⟩;go_wp2_with fail;refine(HC.o _).V ?_;rintro e w6 ⟨rfl,b6⟩;go_wp2;go_ret;exact⟨(Vx.drewN q5).J (ec.oB b6),rfl,dX.G (Vt.drewN q5) b6 (dX.lt Vt)⟩
def lZ (s:au)(a:Nat)(kind:Int):Fx (Unit×Nat):=
 if kind=0 then(match iT s a s.size with| .error x=> .error x| .ok x=> .ok ((),x.2))
 else if kind=1 then(match jt s a 8 with| .error x=> .error x| .ok x=> .ok ((),x.2))
 else if kind=5 then(match jt s a 4 with| .error x=> .error x| .ok x=> .ok ((),x.2))
 else(match fk s a with| .error x=> .error x| .ok x=> .ok ((),x.2))
def Ku (w:aw)(rb:Nat)(s:au)(deep:Int)(r:Fx (Unit×Nat))(e:Ending)(w':aw):Prop:=
 ec [rb] w w'/\(match r with
 | .error x=>e=dY x.1 x.2
 | .ok x=>e= .returned (.tuple #[])/\ee w' rb s x.2 deep)
def vq (s:au)(a k:Nat):(match pL s a k with| .error x=>Except.error x| .ok x=> .ok ((),x.2):Fx (Unit×Nat))=(match jt s a k with| .error x=> .error x| .ok x=> .ok ((),x.2)):=by
 rw[um,jt];by_cases h:a+k<=s.size;.rw[dP h,dP h]
 .rw[dO h,dO h]
def BK (w:aw)(rb:Nat)(s:au)(a:Nat)(deep kind:Int)(h:ee w rb s a deep)(ha:a<=s.size)(hs:s.size<=2^47)(hk:kind=0\/kind=1\/kind=2\/kind=5):
  Calls prog 134 #[ah rb,aa kind] w (Ku w rb s deep (lZ s a kind)):=by
 have h8:=xH w rb s a deep 8 h ha hs Vf Vf;have h4:=xH w rb s a deep 4 h ha hs Vf Vf;rcases hk with rfl|rfl|rfl|rfl
 .have e0:lZ s a 0=(match iT s a s.size with| .error x=> .error x| .ok x=> .ok ((),x.2)):=rfl;rw[e0];obtain⟨r,HR⟩:∃r,Hid ((match iT s a s.size with| .error x=> .error x| .ok x=> .ok ((),x.2):Fx (Unit×Nat))=r):=⟨_,rfl⟩;rw[HR.o];go_in
  go_wp2_with fail;refine(nr w rb s a deep h hs).V ?_
  cases hv:iT s a s.size with
  |error x=>
   rintro e w2 ⟨hk,he⟩;obtain rfl:e=dY x.1 x.2:=he;obtain rfl:r= .error x:=by rw[<-HR.o,hv]
   unfold dY;go_wp2
   exact⟨rfl,hk,rfl⟩
  |ok x=>
   rintro e w2 ⟨hk,rfl,hr⟩;obtain rfl:r= .ok ((),x.2):=by rw[<-HR.o,hv]
   go_wp2;go_end0;exact⟨hk,rfl,hr⟩
 .have e0:lZ s a 1=(match pL s a 8 with| .error x=> .error x| .ok x=> .ok ((),x.2)):=(vq s a 8).sy;rw[e0];obtain⟨r,HR⟩:∃r,Hid ((match pL s a 8 with| .error x=> .error x| .ok x=> .ok ((),x.2):Fx (Unit×Nat))=r):=⟨_,rfl⟩;rw[HR.o];go_in
  go_wp2_with fail;refine h8.V ?_
  cases hv:pL s a 8 with
  |error x=>
   rintro e w2 ⟨hk,he⟩;obtain rfl:e=dY x.1 x.2:=he;obtain rfl:r= .error x:=by rw[<-HR.o,hv]
   unfold dY;go_wp2
   exact⟨rfl,hk,rfl⟩
  |ok x=>
   rintro e w2 ⟨hk,rfl,hr⟩;obtain rfl:r= .ok ((),x.2):=by rw[<-HR.o,hv]
   go_wp2;go_end0;exact⟨hk,rfl,hr⟩
 .have e0:lZ s a 2=(match fk s a with| .error x=> .error x| .ok x=> .ok ((),x.2)):=rfl;rw[e0];obtain⟨r,HR⟩:∃r,Hid ((match fk s a with| .error x=> .error x| .ok x=> .ok ((),x.2):Fx (Unit×Nat))=r):=⟨_,rfl⟩;rw[HR.o];go_in
  go_wp2_with fail;refine(oI w rb s a deep h hs).V ?_
  cases hv:fk s a with
  |error x=>
   rintro e w2 ⟨hk,he⟩;obtain rfl:e=dY x.1 x.2:=he;obtain rfl:r= .error x:=by rw[<-HR.o,hv]
   unfold dY;go_wp2
   exact⟨rfl,hk,rfl⟩
  |ok x=>
   rintro e w2 ⟨hk,nb,rfl,_,_,_,hr⟩;obtain rfl:r= .ok ((),x.2):=by rw[<-HR.o,hv]
   go_wp2;go_end0;exact⟨hk,rfl,hr⟩
 .have e0:lZ s a 5=(match pL s a 4 with| .error x=> .error x| .ok x=> .ok ((),x.2)):=(vq s a 4).sy;rw[e0];obtain⟨r,HR⟩:∃r,Hid ((match pL s a 4 with| .error x=> .error x| .ok x=> .ok ((),x.2):Fx (Unit×Nat))=r):=⟨_,rfl⟩;rw[HR.o];go_in
  go_wp2_with fail;refine h4.V ?_
  cases hv:pL s a 4 with
  |error x=>
   rintro e w2 ⟨hk,he⟩;obtain rfl:e=dY x.1 x.2:=he;obtain rfl:r= .error x:=by rw[<-HR.o,hv]
   unfold dY;go_wp2
   exact⟨rfl,hk,rfl⟩
  |ok x=>
   rintro e w2 ⟨hk,rfl,hr⟩;obtain rfl:r= .ok ((),x.2):=by rw[<-HR.o,hv]
   go_wp2;go_end0;exact⟨hk,rfl,hr⟩
end
section
open Go.Lib
def sZ (s:au)(k:Nat):fZ s k=((s.data.toList.getD k 0).toNat:Int):=by
 have hz:s.data.size=s.size:=rfl;unfold fZ;by_cases h:k<s.size;.rw[dif_pos h,cr,bO,bU (show k<s.data.size from h)];rfl
 .rw[dif_neg h,cr,bO,cI Vc];rfl
def si (n:Nat)(b0 b1 b2 b3:Int):Option Nat:=
 if 240<=b0 then
  (if n<4 then none else if b1<128\/191<b1 then none else if b2<128\/191<b2 then none else if b3<128\/191<b3 then none else
   if 64*(64*(64*(b0-240)+b1-128)+b2-128)+b3-128<65536\/1114111<64*(64*(64*(b0-240)+b1-128)+b2-128)+b3-128\/(55296<=64*(64*(64*(b0-240)+b1-128)+b2-128)+b3-128/\64*(64*(64*(b0-240)+b1-128)+b2-128)+b3-128<=57343)then none else some 4)
 else if 224<=b0 then
  (if n<3 then none else if b1<128\/191<b1 then none else if b2<128\/191<b2 then none else
   if 64*(64*(b0-224)+b1-128)+b2-128<2048\/1114111<64*(64*(b0-224)+b1-128)+b2-128\/(55296<=64*(64*(b0-224)+b1-128)+b2-128/\64*(64*(b0-224)+b1-128)+b2-128<=57343)then none else some 3)
 else if 192<=b0 then
  (if n<2 then none else if b1<128\/191<b1 then none else
   if 64*(b0-192)+b1-128<128\/1114111<64*(b0-192)+b1-128\/(55296<=64*(b0-192)+b1-128/\64*(b0-192)+b1-128<=57343)then none else some 2)
 else if 128<=b0 then none
 else(if n<1 then none else if b0<0\/1114111<b0\/(55296<=b0/\b0<=57343)then none else some 1)
def Ss (s:au):Tu s=si s.size (fZ s 0) (fZ s 1) (fZ s 2) (fZ s 3):=by
 unfold Tu si Sp;by_cases h1:240<=fZ s 0
 .rw[dP h1,dP h1];by_cases h2:s.size<4;.rw[dP h2,dP h2]
  .rw[dO h2,dO h2];show(match JX s 3 1 (fZ s 0-240)with|none=>none|some c=>_)=_;unfold JX;by_cases g1:fZ s 1<128\/191<fZ s 1;.rw[dP g1,dP g1]
   .rw[dO g1,dO g1];unfold JX;by_cases g2:fZ s 2<128\/191<fZ s 2;.rw[dP g2,dP g2]
    .rw[dO g2,dO g2];unfold JX;by_cases g3:fZ s 3<128\/191<fZ s 3;.rw[dP g3,dP g3]
     .rw[dO g3,dO g3];rfl
 .rw[dO h1,dO h1];by_cases h3:224<=fZ s 0
  .rw[dP h3,dP h3];by_cases h2:s.size<3;.rw[dP h2,dP h2]
   .rw[dO h2,dO h2];show(match JX s 2 1 (fZ s 0-224)with|none=>none|some c=>_)=_;unfold JX;by_cases g1:fZ s 1<128\/191<fZ s 1;.rw[dP g1,dP g1]
    .rw[dO g1,dO g1];unfold JX;by_cases g2:fZ s 2<128\/191<fZ s 2;.rw[dP g2,dP g2]
     .rw[dO g2,dO g2];rfl
  .rw[dO h3,dO h3];by_cases h4:192<=fZ s 0
   .rw[dP h4,dP h4];by_cases h2:s.size<2;.rw[dP h2,dP h2]
    .rw[dO h2,dO h2];show(match JX s 1 1 (fZ s 0-192)with|none=>none|some c=>_)=_;unfold JX;by_cases g1:fZ s 1<128\/191<fZ s 1;.rw[dP g1,dP g1]
     .rw[dO g1,dO g1];rfl
   .rw[dO h4,dO h4];rfl
def xJ {n b0 b1 b2 b3:Nat}(hd:decodeN n b0 b1 b2 b3=(65533,1))(hu:si n b0 b1 b2 b3=none):
  si n b0 b1 b2 b3=if(decodeN n b0 b1 b2 b3).1=65533/\(decodeN n b0 b1 b2 b3).2=1 then none else some (decodeN n b0 b1 b2 b3).2:=by grind
def Hc {n b0 b1 b2 b3 c k:Nat}(hd:decodeN n b0 b1 b2 b3=(c,k))(hu:si n b0 b1 b2 b3=some k)(Vp:¬(c=65533/\k=1)):
  si n b0 b1 b2 b3=if(decodeN n b0 b1 b2 b3).1=65533/\(decodeN n b0 b1 b2 b3).2=1 then none else some (decodeN n b0 b1 b2 b3).2:=by
 rw[hu,hd,dO Vp]
def Ky (n b0 b1 b2 b3:Nat)(hn:0<n)(h0:b0<256)(h1:b1<256)(h2:b2<256)(h3:b3<256):
  si n b0 b1 b2 b3=if(decodeN n b0 b1 b2 b3).1=65533/\(decodeN n b0 b1 b2 b3).2=1 then none else some (decodeN n b0 b1 b2 b3).2:=by
 by_cases c0:b0<128
 .refine Hc (c:=b0) (k:=1) ?_ ?_ Vc;.unfold decodeN;rw[dP c0]
  .unfold si;rw[dO Vc,dO Vc,dO Vc,dO Vc,dO Vc,dO Vc]
 .by_cases c1:b0<192
  .refine xJ ?_ ?_;.unfold decodeN;rw[dO c0,dO (λq=>Vc),dO (λq=>Vc),dO (λq=>Vc)]
   .unfold si;rw[dO Vc,dO Vc,dO Vc,dP Vc]
  .by_cases c2:b0<224
   .have e0:b0/32=6:=Vc
    have hu:si n b0 b1 b2 b3=if n<2 then none else if(b1:Int)<128\/191<(b1:Int)then none else
      if 64*((b0:Int)-192)+b1-128<128\/1114111<64*((b0:Int)-192)+b1-128\/(55296<=64*((b0:Int)-192)+b1-128/\64*((b0:Int)-192)+b1-128<=57343)then none else some 2:=by
     unfold si;rw[dO Vc,dO Vc,dP Vc]
    by_cases g:1<n/\b1/64=2
    .by_cases q:b0%32*64+b1%64>=128
     .refine Hc (c:=b0%32*64+b1%64) (k:=2) ?_ ?_ Vc;.unfold decodeN;rw[dO c0,dP ⟨e0,g⟩,dP q]
      grind
     .refine xJ ?_ ?_;.unfold decodeN;rw[dO c0,dP ⟨e0,g⟩,dO q]
      grind
    .refine xJ ?_ ?_;.unfold decodeN;rw[dO c0,dO (λq=>g q.2),dO (λq=>Vc),dO (λq=>Vc)]
     grind
   .by_cases c3:b0<240
    .have e0:b0/16=14:=Vc
     have hu:si n b0 b1 b2 b3=if n<3 then none else if(b1:Int)<128\/191<(b1:Int)then none else if(b2:Int)<128\/191<(b2:Int)then none else
       if 64*(64*((b0:Int)-224)+b1-128)+b2-128<2048\/1114111<64*(64*((b0:Int)-224)+b1-128)+b2-128\/(55296<=64*(64*((b0:Int)-224)+b1-128)+b2-128/\64*(64*((b0:Int)-224)+b1-128)+b2-128<=57343)then none else some 3:=by
      unfold si;rw[dO Vc,dP Vc]
     by_cases g:(1<n/\b1/64=2)/\(2<n/\b2/64=2);.obtain⟨⟨g1,g2⟩,g3,g4⟩:=g;have hd:decodeN n b0 b1 b2 b3=if b0%16*4096+b1%64*64+b2%64>=2048/\(b0%16*4096+b1%64*64+b2%64<55296\/(57344<=b0%16*4096+b1%64*64+b2%64/\b0%16*4096+b1%64*64+b2%64<=1114111))then(b0%16*4096+b1%64*64+b2%64,3)else(65533,1):=(by unfold decodeN;rw[dO c0,dO (λq=>Vc),dP ⟨e0,⟨g1,g2⟩,g3,g4⟩]);grind
     .refine xJ ?_ ?_;.unfold decodeN;rw[dO c0,dO (λq=>Vc),dO (λq=>g q.2),dO (λq=>Vc)]
      grind
    .have hu:si n b0 b1 b2 b3=if n<4 then none else if(b1:Int)<128\/191<(b1:Int)then none else if(b2:Int)<128\/191<(b2:Int)then none else if(b3:Int)<128\/191<(b3:Int)then none else
       if 64*(64*(64*((b0:Int)-240)+b1-128)+b2-128)+b3-128<65536\/1114111<64*(64*(64*((b0:Int)-240)+b1-128)+b2-128)+b3-128\/(55296<=64*(64*(64*((b0:Int)-240)+b1-128)+b2-128)+b3-128/\64*(64*(64*((b0:Int)-240)+b1-128)+b2-128)+b3-128<=57343)then none else some 4:=by
      unfold si;rw[dP Vc]
     by_cases g:b0/8=30/\(1<n/\b1/64=2)/\(2<n/\b2/64=2)/\(3<n/\b3/64=2);.have hd:decodeN n b0 b1 b2 b3=if b0%8*262144+b1%64*4096+b2%64*64+b3%64>=65536/\(b0%8*262144+b1%64*4096+b2%64*64+b3%64<55296\/(57344<=b0%8*262144+b1%64*4096+b2%64*64+b3%64/\b0%8*262144+b1%64*4096+b2%64*64+b3%64<=1114111))then(b0%8*262144+b1%64*4096+b2%64*64+b3%64,4)else(65533,1):=(by unfold decodeN;rw[dO c0,dO (λq=>Vc),dO (λq=>Vc),dP g]);grind
     .refine xJ ?_ ?_;.unfold decodeN;rw[dO c0,dO (λq=>Vc),dO (λq=>Vc),dO g]
      .rw[hu];by_cases q:n<4;.rw[dP q]
       .rw[dO q];by_cases q1:(b1:Int)<128\/191<(b1:Int);.rw[dP q1]
        .rw[dO q1];by_cases q2:(b2:Int)<128\/191<(b2:Int);.rw[dP q2]
         .rw[dO q2];by_cases q3:(b3:Int)<128\/191<(b3:Int);.rw[dP q3]
          .rw[dO q3,dP Vc]
def Au:∀(f:Nat) (s:au),s.size<=f->Sq f s=validD s.data.toList
 |0,s,h=>by
  have e:s.data.toList= []:=bE (by rw[Array.length_toList];exact Nat.le_zero.1 h);rw[e]
  rfl
 |f+1,s,h=>by
  unfold Sq;by_cases h0:s.size=0;.rw[dP h0];have e:s.data.toList= []:=bE (by rw[Array.length_toList];exact h0);rw[e];rfl
  .rw[dO h0];have hl:s.data.toList.length=s.size:=Vi;have Vp:s.data.toList≠ []:=λe=>by grind
   rw[validD_step _ Vp,Ss,sZ,sZ,sZ,sZ,decodeL_N,hl];rw[Ky s.size _ _ _ _ Vc (UInt8.toNat_lt _) (UInt8.toNat_lt _) (UInt8.toNat_lt _) (UInt8.toNat_lt _)];have hw:=decodeL_width s.data.toList;rw[decodeL_N,hl]at hw;generalize decodeN s.size (s.data.toList.getD 0 0).toNat (s.data.toList.getD 1 0).toNat (s.data.toList.getD 2 0).toNat (s.data.toList.getD 3 0).toNat=D at*;by_cases hD:D.1=65533/\D.2=1;.rw[dP hD,dP hD]
   .rw[dO hD,dO hD];show Sq f (s.extract D.2 s.size)=_;rw[Au f _ (by rw[bg];omega)];congr 1;rw[cJ,Array.toList_extract];simp[List.extract];rw[ch (by grind)]
def ur (s:au):Te s=validD s.data.toList:=Au s.size s (aE _)
end
end Go.Proofs.YtfebdimolnobaaaGreatDoor
