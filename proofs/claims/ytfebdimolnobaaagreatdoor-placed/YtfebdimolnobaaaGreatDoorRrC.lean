import Derived.Test.YtfebdimolnobaaaGreatDoorBuL
import Derived.Shelf.Unicode.ValidAny
set_option maxRecDepth 100000
set_option maxHeartbeats 8000000
set_option linter.all false
namespace Go.Proofs.YtfebdimolnobaaaGreatDoor
open Go.RowKit
section
attribute [local go_sem↓] Go.wp_at_zero Go.wp_at_succ
def mI (s:am)(a:Nat)(n:Int):Fx (am×Nat):=if(a:Int)+n<=s.size then .ok (s.extract a (a+n.toNat),a+n.toNat)else .error (6,a)
theorem sV (w:an)(rb:Nat)(s:am)(a:Nat)(deep:Int)(n:Int)(h:dn w rb s a deep)(ha:a<=s.size)(hs:s.size<=140737488355328)(hn0:0<=n)(hn1:n<18446744073709551616):
  Calls Tryz.prog 196 #[ag rb,.int .u64 n] w (ni w rb s deep (mI s a n) Value.string):=by
 obtain⟨L,hL⟩:∃L,s.extract a s.size=L:=⟨_,rfl⟩;have hsz:L.size=s.size-a:=by rw[<-hL,aR];omega
 have N7:Hid (∀(w:an),dn w rb s a deep->Calls Tryz.prog 272 #[ag rb] w fun e w'=>e= .returned (ae L)/\∃q,w'=w.drewN q):=fun w h=>by
  rw[<-hL];exact AE w rb s a deep h ha
 have hw:IntKind.u64.wrap (L.size:Int)=(L.size:Int):=eR (by omega) (by omega);unfold mI
 by_cases hle:(a:Int)+n<=s.size
 ·rw[if_pos hle];obtain⟨k,rfl⟩:=bf hn0;have Oa:Hid (a+k<=s.size):=by show a+k<=s.size;omega
  have hki:(k:Int)<=140737488355328:=by omega
  have hai:(a:Int)<=140737488355328:=by omega
  have hd:decide (L.size<k)=false:=by simp;omega
  have hw2:IntKind.i64.wrap (k:Int)=(k:Int):=by simp[IntKind.wrap,IntKind.bits,IntKind.signed];omega
  clear hL hsz hle hn0 hn1 ha hs;go_enter Tryz.func196,Tryz.ntmps196
  go_wp2_with fail
  refine(N7.out _ h).mono ?_;rintro e w2 ⟨rfl,q,rfl⟩;have h2:=h.drewN q;have K2:dl [rb] w (w.drewN q):=(dl.refl _ _).drewN q;generalize w.drewN q=wq at*;obtain⟨k1,k2⟩:=de.rules h2;clear h N7;go_wp2_with fail
  have h3:dn (wq.setCell (ai rb 1) (aa ((a:Int)+(k:Int)))) rb s (a+k) deep:=by unfold dn;simpa using de.set h2 1 (aa ((a:Int)+(k:Int)))
  have K3:=K2.set1 (c:=rb) (by simp) 1 (aa ((a:Int)+(k:Int)));refine(sj _ _ _ _ _ a h3 (by omega) Oa.out).mono ?_;rintro e w3 ⟨rfl,q2,rfl⟩;go_wp2;go_ret;exact⟨K3.drewN q2,rfl,h3.drewN q2⟩
 ·rw[if_neg hle];obtain⟨k,rfl⟩:=bf hn0;have hd:decide (L.size<k)=true:=by simp;omega
  clear hL hsz hle hn0 hn1 ha hs;go_enter Tryz.func196,Tryz.ntmps196
  go_wp2_with fail
  refine(N7.out _ h).mono ?_;rintro e w2 ⟨rfl,q,rfl⟩;have h2:=h.drewN q;have K2:dl [rb] w (w.drewN q):=(dl.refl _ _).drewN q;generalize w.drewN q=wq at*;obtain⟨k1,k2⟩:=de.rules h2;go_wp2_with fail
  refine(Ed _ _ _).mono ?_;rintro e w4 ⟨rfl,rfl⟩;go_wp2;exact⟨rfl,K2,rfl⟩
def dS (s:am)(a:Nat):Fx (Nat×Nat):=
 match fA s a s.size with
 | .error x=> .error x
 | .ok x=>if(x.2:Int)+x.1<=s.size then .ok (x.2,x.2+x.1.toNat)else .error (6,x.2)
def BT (w:an)(rb:Nat)(s:am)(deep:Int)(r:Fx (Nat×Nat))(e:Ending)(w':an):Prop:=
 dl [rb] w w'/\(match r with
 | .error x=>e=da x.1 x.2
 | .ok x=>∃nb,e= .returned (ag nb)/\w.heap.size<=nb/\nb≠rb/\dn w' nb (s.extract 0 x.2) x.1 deep/\dn w' rb s x.2 deep)
theorem lK (w:an)(rb:Nat)(s:am)(a:Nat)(deep:Int)(h:dn w rb s a deep)(hs:s.size<=140737488355328):
  Calls Tryz.prog 197 #[ag rb] w (BT w rb s deep (dS s a)):=by
 obtain⟨r,HR⟩:∃r,Hid (dS s a=r):=⟨_,rfl⟩;rw[HR.out];go_enter Tryz.func197,Tryz.ntmps197
 go_wp2_with fail
 refine(gj w rb s a deep h hs).mono ?_
 cases hv:fA s a s.size with
 |error x=>
  rintro e w2 ⟨hk,he⟩;obtain rfl:e=da x.1 x.2:=he;obtain rfl:r= .error x:=by rw[<-HR.out,dS,hv]
  unfold da;go_wp2;exact⟨rfl,hk,rfl⟩
 |ok x=>
  obtain⟨n,z⟩:=x;obtain⟨v0,v1,v2,v3⟩:=fW hv;rintro e w2 ⟨hk,he,hr⟩;have hr:=hr;obtain rfl:e= .returned (.int .u64 n):=he;obtain⟨k1,k2⟩:=de.rules hr;go_wp2_with fail
  refine(sV w2 rb s z deep n hr v3 hs v0 v1).mono ?_;unfold mI
  by_cases hle:(z:Int)+n<=s.size
  ·rw[if_pos hle];obtain rfl:r= .ok (z,z+n.toNat):=by rw[<-HR.out,dS,hv];simp only;rw[if_pos hle]
   rintro e w3 ⟨N8,N3,N2⟩;have N3:=N3;subst N3;obtain⟨m,hm⟩:∃m,z+n.toNat=m:=⟨_,rfl⟩;have N2:=N2;rw[hm]at N2;have HM:Hid (z+n.toNat=m):=hm;have hml:m<=s.size:=by omega
   have K3:=hk.trans N8;have hlt:rb<w3.heap.size:=de.lt N2;have hlt0:rb<w.heap.size:=de.lt h;obtain⟨k1,k2⟩:=de.rules N2;have h4:de w3.drew rb #[ae s,aa m,aa deep] 244:=N2;go_wp2_with fail
   go_region_held3 (fun w'=>w'.cell? (ai rb 0)=some (ae s)/\w'.cell? (ai rb 1)=some (aa m)/\w'.cell? (ai rb 2)=some (aa deep))
    (first|exact⟨(h4.alloc _).cell 0,(h4.alloc _).cell 1,(h4.alloc _).cell 2⟩|exact⟨h4.cell 0,h4.cell 1,h4.cell 2⟩)
    (fail)
   all_goals
    go_wp2;go_ret;have hn:=de.newAt (w:=w3) rfl #[ae (s.extract 0 m),aa z,aa deep] 244;exact⟨(K3.alloc _).drew,_,rfl,by have:=K3.size;omega,by omega,by show dn _ _ (s.extract 0 (z+n.toNat)) z deep;rw[HM.out];exact hn,by show dn _ _ s (z+n.toNat) deep;rw[HM.out];exact h4.alloc _⟩
  ·rw[if_neg hle];obtain rfl:r= .error (6,(z:Int)):=by rw[<-HR.out,dS,hv];simp only;rw[if_neg hle]
   rintro e w3 ⟨N8,N3⟩;obtain rfl:e=da 6 z:=N3;unfold da;go_wp2;exact⟨rfl,hk.trans N8,rfl⟩
def kx (s:am)(a:Nat)(deep lv:Int):Fx (Nat×Nat):=
 match dS s a with
 | .error x=> .error x
 | .ok x=>if 8<deep+lv then .error (11,x.1)else .ok x
def EG (w:an)(rb:Nat)(s:am)(deep:Int)(r:Fx (Nat×Nat))(e:Ending)(w':an):Prop:=
 dl [rb] w w'/\(match r with
 | .error x=>e=da x.1 x.2
 | .ok x=>∃nb,e= .returned (ag nb)/\w.heap.size<=nb/\nb≠rb/\dn w' nb (s.extract 0 x.2) x.1 (deep+1)/\dn w' rb s x.2 deep)
theorem lL (w:an)(rb:Nat)(s:am)(a:Nat)(deep lv:Int)(h:dn w rb s a deep)(hs:s.size<=140737488355328)(hd0:0<=deep)(hd1:deep<=8)(hl0:0<=lv)(hl1:lv<=2):
  Calls Tryz.prog 185 #[ag rb,aa lv] w (EG w rb s deep (kx s a deep lv)):=by
 obtain⟨r,HR⟩:∃r,Hid (kx s a deep lv=r):=⟨_,rfl⟩;rw[HR.out];go_enter Tryz.func185,Tryz.ntmps185
 go_wp2_with fail
 refine(lK w rb s a deep h hs).mono ?_
 cases hv:dS s a with
 |error x=>
  rintro e w2 ⟨hk,he⟩;obtain rfl:e=da x.1 x.2:=he;obtain rfl:r= .error x:=by rw[<-HR.out,kx,hv]
  unfold da;go_wp2;exact⟨rfl,hk,rfl⟩
 |ok x=>
  rintro e w2 ⟨hk,nb,rfl,Oe,Oc,Od,Of⟩;obtain⟨k1,k2⟩:=de.rules Od
  by_cases hd:8<deep+lv
  ·obtain rfl:r= .error (11,(x.1:Int)):=by rw[<-HR.out,kx,hv];simp only;rw[if_pos hd]
   go_wp2_with fail
   refine(Ed _ _ _).mono ?_;rintro e w4 ⟨rfl,rfl⟩;go_wp2;exact⟨rfl,hk,rfl⟩
  ·have hdd:decide (8<deep+lv)=false:=by simp;omega
   obtain rfl:r= .ok x:=by rw[<-HR.out,kx,hv];simp only;rw[if_neg hd]
   go_wp2;go_ret;have h5:dn (w2.setCell (ai nb 2) (aa (deep+1))) nb (s.extract 0 x.2) x.1 (deep+1):=by unfold dn;simpa using de.set Od 2 (aa (deep+1))
   have h6:dn (w2.setCell (ai nb 2) (aa (deep+1))) rb s x.2 deep:=de.other Of 2 _ Oc;refine⟨?_,nb,rfl,Oe,Oc,h5,h6⟩;exact⟨hk.os,hk.tape,hk.output,by simpa using hk.size,fun k N8 Oa=>by rw[dd,if_neg (by omega)];exact hk.block k N8 Oa⟩
def iH (s:am)(a:Nat):Fx ((Int×Int)×Nat):=
 match fA s a s.size with
 | .error x=> .error x
 | .ok x=>if x.1/8<1\/536870911<x.1/8 then .error (8,a)else if x.1%8=0\/x.1%8=1\/x.1%8=2\/x.1%8=5 then .ok ((x.1/8,x.1%8),x.2)else .error (9,a)
theorem EH (w:an)(rb:Nat)(s:am)(a:Nat)(deep:Int)(h:dn w rb s a deep)(hs:s.size<=140737488355328):
  Calls Tryz.prog 131 #[ag rb] w (ni w rb s deep (iH s a) (fun x=> .agg #[aa x.1,aa x.2])):=by
 obtain⟨r,HR⟩:∃r,Hid (iH s a=r):=⟨_,rfl⟩;rw[HR.out];have h1:dn (w.alloc (ak #[aa 0,aa 0] 237)) rb s a deep:=de.alloc h _;have K1:dl [rb] w (w.alloc (ak #[aa 0,aa 0] 237)):=(dl.refl _ _).alloc _;have B1:=de.new w #[aa 0,aa 0] 237;have hlt:rb<w.heap.size:=de.lt h;obtain⟨k1,k2⟩:=de.rules h1;go_enter Tryz.func131,Tryz.ntmps131
 go_wp2_with fail
 generalize(w.alloc (ak #[aa 0,aa 0] 237))=w1 at*;clear k1 k2;refine(gj w1 rb s a deep h1 hs).mono ?_
 cases hv:fA s a s.size with
 |error x=>
  rintro e w2 ⟨hk,he⟩;obtain rfl:e=da x.1 x.2:=he;obtain rfl:r= .error x:=by rw[<-HR.out,iH,hv]
  unfold da;go_wp2;exact⟨rfl,K1.trans hk,rfl⟩
 |ok x=>
  obtain⟨t,z⟩:=x;obtain⟨v0,v1,v2,v3⟩:=fW hv;rintro e w2 ⟨hk,he,hr⟩;have hr:dn w2 rb s z deep:=hr;obtain rfl:e= .returned (.int .u64 t):=he;have K2:=K1.trans hk;have B2:de w2 w.heap.size #[aa 0,aa 0] 237:=(hk.block _ B1.lt (by simp;omega)).trans B1;have q1:t.tdiv 8=t/8:=Int.tdiv_eq_ediv_of_nonneg v0;have q2:t.tmod 8=t%8:=Int.tmod_eq_emod_of_nonneg v0;have N2:IntKind.i64.wrap (t%8)=t%8:=by simp[IntKind.wrap,IntKind.bits,IntKind.signed];omega
  have N3:Hid (∀x y:Value,dl [rb] w ((w2.setCell (ai w.heap.size 0) x).setCell (ai w.heap.size 1) y)):=fun x y=>
   ⟨K2.os,K2.tape,K2.output,by simpa using K2.size,fun k N8 Oa=>by rw[dd,if_neg (by omega),dd,if_neg (by omega)];exact K2.block k N8 Oa⟩
  have N7:Hid (∀x y:Value,dn ((w2.setCell (ai w.heap.size 0) x).setCell (ai w.heap.size 1) y) rb s z deep):=fun x y=>(de.other hr 0 x (by omega)).other 1 y (by omega)
  have Ob:t/8<=536870911->IntKind.i64.wrap (t/8)=t/8:=fun h=>by simp[IntKind.wrap,IntKind.bits,IntKind.signed];omega
  obtain⟨y7,y8⟩:=B2.rules
  by_cases hA:t/8=0
  ·obtain rfl:r= .error (8,(a:Int)):=by rw[<-HR.out,iH,hv];simp only;rw[if_pos (by omega)]
   rw[hA]at q1;go_wp2_with fail
   refine(Ed _ _ _).mono ?_;rintro e w4 ⟨rfl,rfl⟩;go_wp2;exact⟨rfl,K2,rfl⟩
  ·have hA2:(t/8==0)=false:=by simp;omega
   by_cases hB:536870911<t/8
   ·obtain rfl:r= .error (8,(a:Int)):=by rw[<-HR.out,iH,hv];simp only;rw[if_pos (by omega)]
    go_wp2_with fail
    refine(Ed _ _ _).mono ?_;rintro e w4 ⟨rfl,rfl⟩;go_wp2;exact⟨rfl,K2,rfl⟩
   ·have hB2:decide (536870911<t/8)=false:=by simp;omega
    have hw8:=Ob (by omega);clear Ob
    by_cases g0:t%8=0
    ·obtain rfl:r= .ok ((t/8,0),z):=by rw[<-HR.out,iH,hv];simp only;rw[if_neg (by omega),if_pos (by omega),g0]
     rw[g0]at q2;clear g0 N2;go_wp2;exact bodyPost_ret (dw Tryz.results131 _ _ rfl ((B2.set 0 _).set 1 _) Tryz.underlying237 (by kernel_rfl)) rfl ⟨N3.out _ _,rfl,N7.out _ _⟩
    have b0:(t%8==0)=false:=by simp[g0]
    by_cases g1:t%8=1
    ·obtain rfl:r= .ok ((t/8,1),z):=by rw[<-HR.out,iH,hv];simp only;rw[if_neg (by omega),if_pos (by omega),g1]
     rw[g1]at q2;clear g1 N2;go_wp2;exact bodyPost_ret (dw Tryz.results131 _ _ rfl ((B2.set 0 _).set 1 _) Tryz.underlying237 (by kernel_rfl)) rfl ⟨N3.out _ _,rfl,N7.out _ _⟩
    have b1:(t%8==1)=false:=by simp[g1]
    by_cases g2:t%8=2
    ·obtain rfl:r= .ok ((t/8,2),z):=by rw[<-HR.out,iH,hv];simp only;rw[if_neg (by omega),if_pos (by omega),g2]
     rw[g2]at q2;clear g2 N2;go_wp2;exact bodyPost_ret (dw Tryz.results131 _ _ rfl ((B2.set 0 _).set 1 _) Tryz.underlying237 (by kernel_rfl)) rfl ⟨N3.out _ _,rfl,N7.out _ _⟩
    have b2:(t%8==2)=false:=by simp[g2]
    by_cases g5:t%8=5
    ·obtain rfl:r= .ok ((t/8,5),z):=by rw[<-HR.out,iH,hv];simp only;rw[if_neg (by omega),if_pos (by omega),g5]
     rw[g5]at q2;clear g5 N2;go_wp2;exact bodyPost_ret (dw Tryz.results131 _ _ rfl ((B2.set 0 _).set 1 _) Tryz.underlying237 (by kernel_rfl)) rfl ⟨N3.out _ _,rfl,N7.out _ _⟩
    have b5:(t%8==5)=false:=by simp[g5]
    obtain rfl:r= .error (9,(a:Int)):=by rw[<-HR.out,iH,hv];simp only;rw[if_neg (by omega),if_neg (by omega)]
    go_wp2_with fail
    refine(Ed _ _ _).mono ?_;rintro e w4 ⟨rfl,rfl⟩;go_wp2;exact⟨rfl,K2,rfl⟩
def uN (s:am)(j:Nat):Int:=Lh s (s.size-j) j
theorem yK (s:am):uN s s.size=0:=by unfold uN;rw[Nat.sub_self];rfl
theorem vz {s:am}{i:Nat}(h:i<s.size):uN s i=256*uN s (i+1)+eB s i:=by
 unfold uN;rw[show s.size-i=(s.size-(i+1))+1 from by omega,Lh,if_pos h]
theorem wY:∀(k:Nat) (s:am) (j:Nat),s.size=j+k->0<=uN s j/\uN s j<256^k
 |0,s,j,h=>by
  rw[show j=s.size from by omega,yK];decide
 |k+1,s,j,h=>by
  have ih:=wY k s (j+1) (by omega);have hr:=jl s j;rw[vz (by omega),Int.pow_succ];omega
theorem Ht {x n:Int}(hx:0<=x)(h0:0<=n)(h1:n<256)(h2:x*256+n<18446744073709551616):bits .or .u64 (x*256) n=x*256+n:=by
 obtain⟨a,rfl⟩:=bf hx;obtain⟨b,rfl⟩:=bf h0;have e:((a:Int)*256)=((a*256:Nat):Int):=by omega
 rw[e]at h2⊢;have hb:b<2^8:=show b<256 by omega
 have e2:a*256=a<<<8:=by rw[cK]
 rw[bits_or_u64_nat (a*256) b (by omega) (by omega),e2,<-Nat.shiftLeft_add_eq_or_of_lt hb];omega
theorem yL (w:an)(s:am)(hs:s.size<=8):Calls Tryz.prog 406 #[ae s] w fun e w'=>e= .returned (.int .u64 (Au s))/\w'=w:=by
 have e0:Au s=uN s 0:=rfl;rw[e0];go_enter Tryz.func406,Tryz.ntmps406
 go_wp2;go_loopw [3,4] (fun v i wr=>∃(k:Nat),k<=s.size/\i=aa ((k:Int)-1)/\v= .int .u64 (uN s k)/\w=wr) (fun _ i _=>((intOf i)+1).toNat)
 case atStart=>exact⟨s.size,ay _,rfl,by rw[yK],rfl⟩
 case round=>
  obtain⟨k,hk,rfl,rfl,rfl⟩:=hrel
  cases k with
  |zero=>
   go_wp2;go_ret;exact⟨rfl,rfl⟩
  |succ i=>
   have Ob:i<s.size:=by omega
   have Od:=gY (t:=s) (k:=i) Ob;have N8:=jl s i;have N7:=vz Ob;have N2:=wY (s.size-(i+1)) s (i+1) (by omega);have N3:=wY (s.size-i) s i (by omega)
   have hp:(256:Int)^(s.size-i)<=256^8:=by
    have:=cJ (n:=256) (by decide) (show s.size-i<=8 by omega)
    exact_mod_cast this
   obtain⟨c,hc⟩:∃c,eB s i=c:=⟨_,rfl⟩;rw[hc]at Od N8 N7;obtain⟨x,hx⟩:∃x,uN s (i+1)=x:=⟨_,rfl⟩;rw[hx]at N7 N2⊢
   have Oa:x*256+c<18446744073709551616:=by
    rw[N7]at N3;have h3:(256:Int)^8=18446744073709551616:=by decide
    omega
   have hw1:IntKind.u64.wrap (x*256)=x*256:=eR (by omega) (by omega);have hw2:IntKind.u64.wrap c=c:=eR (by omega) (by omega);have hb:=Ht N2.1 N8.1 N8.2 Oa;have hgi:(0:Int)<=(i:Int):=by omega
   have Oe:(i:Int)+1-1=(i:Int):=by omega
   have Oc:((i+1:Nat):Int)-1=(i:Int):=by omega
   rw[Oc];clear Oc Oe N2 N3 hp e0;go_wp2;go_roundw
   case rel=>exact⟨i,by omega,rfl,by rw[N7];congr 1;omega,trivial⟩
   case measure=>simp[intOf]
def fh (s:am)(a:Nat)(k:Nat):Fx (Int×Nat):=if a+k<=s.size then .ok (Au (s.extract a (a+k)),a+k)else .error (6,a)
theorem qA (s:am)(a k:Nat):mI s a k=if a+k<=s.size then .ok (s.extract a (a+k),a+k)else .error (6,(a:Int)):=by
 unfold mI
 by_cases h:a+k<=s.size
 ·rw[if_pos h,if_pos (by omega)];simp
 ·rw[if_neg h,if_neg (by omega)]
theorem qB (w:an)(rb:Nat)(s:am)(a:Nat)(deep:Int)(h:dn w rb s a deep)(ha:a<=s.size)(hs:s.size<=140737488355328):
  Calls Tryz.prog 352 #[ag rb] w (ni w rb s deep (fh s a 4) (Value.int .u64)):=by
 have HT:=sV w rb s a deep 4 h ha hs (by decide) (by decide);rw[show(4:Int)=((4:Nat):Int)from rfl,qA]at HT;unfold fh
 by_cases N2:a+4<=s.size
 ·rw[if_pos N2]at HT⊢;go_enter Tryz.func352,Tryz.ntmps352
  go_wp2_with fail
  refine HT.mono ?_;rintro e w2 ⟨hk,he,hr⟩;obtain rfl:e= .returned (ae (s.extract a (a+4))):=he;go_wp2_with fail
  refine(yL w2 (s.extract a (a+4)) (by rw[aR];omega)).mono ?_;rintro e w3 ⟨rfl,rfl⟩;go_wp2;go_ret;exact⟨hk,rfl,hr⟩
 ·rw[if_neg N2]at HT⊢;go_enter Tryz.func352,Tryz.ntmps352
  go_wp2_with fail
  refine HT.mono ?_;rintro e w2 ⟨hk,he⟩;obtain rfl:e=da 6 a:=he;unfold da;go_wp2;exact⟨rfl,hk,rfl⟩
theorem oc (w:an)(rb:Nat)(s:am)(a:Nat)(deep:Int)(h:dn w rb s a deep)(ha:a<=s.size)(hs:s.size<=140737488355328):
  Calls Tryz.prog 353 #[ag rb] w (ni w rb s deep (fh s a 8) (Value.int .u64)):=by
 have HT:=sV w rb s a deep 8 h ha hs (by decide) (by decide);rw[show(8:Int)=((8:Nat):Int)from rfl,qA]at HT;unfold fh
 by_cases N2:a+8<=s.size
 ·rw[if_pos N2]at HT⊢;go_enter Tryz.func353,Tryz.ntmps353
  go_wp2_with fail
  refine HT.mono ?_;rintro e w2 ⟨hk,he,hr⟩;obtain rfl:e= .returned (ae (s.extract a (a+8))):=he;go_wp2_with fail
  refine(yL w2 (s.extract a (a+8)) (by rw[aR];omega)).mono ?_;rintro e w3 ⟨rfl,rfl⟩;go_wp2;go_ret;exact⟨hk,rfl,hr⟩
 ·rw[if_neg N2]at HT⊢;go_enter Tryz.func353,Tryz.ntmps353
  go_wp2_with fail
  refine HT.mono ?_;rintro e w2 ⟨hk,he⟩;obtain rfl:e=da 6 a:=he;unfold da;go_wp2;exact⟨rfl,hk,rfl⟩
theorem pS (w:an)(n:Int):Calls Tryz.prog 348 #[.int .u64 n] w fun e w'=>e= .returned (.int .u64 (n%4294967296))/\w'=w:=by
 have e1:IntKind.u64.wrap (IntKind.u32.wrap n)=n%4294967296:=by
  rw[IntKind.wrap_u32];exact eR (by omega) (by omega)
 go_enter Tryz.func348,Tryz.ntmps348
 go_wp2;go_ret;exact⟨rfl,rfl⟩
theorem jm (w:an)(n:Int):Calls Tryz.prog 347 #[.int .u64 n] w fun e w'=>e= .returned (.int .u64 (qy n))/\w'=w:=by
 have e1:IntKind.u64.wrap (IntKind.i32.wrap n)=qy n:=by
  rw[IntKind.wrap_i32];unfold qy
  split
  ·rw[show(n+2147483648)%4294967296-2147483648=n%4294967296 from by omega];exact eR (by omega) (by omega)
  ·simp[IntKind.wrap,IntKind.bits,IntKind.signed];omega
 have e2:IntKind.u64.wrap (wrap32 n)=qy n:=by
  rw[<-e1]
  congr 1;rw[IntKind.wrap_i32];unfold wrap32;rfl
 go_enter Tryz.func347,Tryz.ntmps347
 go_wp2;go_ret;exact⟨rfl,rfl⟩
theorem sk (w:an)(n:Int)(h0:0<=n):Calls Tryz.prog 351 #[.int .u64 n] w fun e w'=>e= .returned (.int .u64 (if 0<n then 1 else 0))/\w'=w:=by
 by_cases h:0<n
 ·have hd:(n==0)=false:=by simp;omega
  rw[if_pos h];go_enter Tryz.func351,Tryz.ntmps351
  go_wp2;go_ret;exact⟨rfl,rfl⟩
 ·obtain rfl:n=0:=by omega
  rw[if_neg h];go_enter Tryz.func351,Tryz.ntmps351
  go_wp2;go_ret;exact⟨rfl,rfl⟩
theorem oM {n:Int}(h0:0<=n)(h1:n<18446744073709551616):bits .xor .u64 n 18446744073709551615=18446744073709551615-n:=by
 obtain⟨a,rfl⟩:=bf h0
 have hx:(BitVec.ofInt 64 (a:Int)).toNat=a:=by
  rw[BitVec.ofInt_natCast,BitVec.toNat_ofNat];exact Nat.mod_eq_of_lt (by omega)
 show IntKind.u64.wrap (((BitVec.ofInt 64 (a:Int))^^^(BitVec.ofInt 64 18446744073709551615)).toNat:Int)=_;have e1:BitVec.ofInt 64 18446744073709551615=BitVec.allOnes 64:=by decide
 rw[e1,BitVec.xor_allOnes,BitVec.toNat_not,hx];rw[eR (by omega) (by omega)];omega
theorem oN {n:Int}(h0:0<=n)(h1:n<18446744073709551616):bits .xor .u64 n 0=n:=by
 obtain⟨a,rfl⟩:=bf h0
 have hx:(BitVec.ofInt 64 (a:Int)).toNat=a:=by
  rw[BitVec.ofInt_natCast,BitVec.toNat_ofNat];exact Nat.mod_eq_of_lt (by omega)
 show IntKind.u64.wrap (((BitVec.ofInt 64 (a:Int))^^^(BitVec.ofInt 64 0)).toNat:Int)=_;have e1:BitVec.ofInt 64 0=0#64:=by decide
 rw[e1,BitVec.xor_zero,hx];exact eR (by omega) (by omega)
theorem wZ {n:Int}(h0:0<=n)(h1:n<18446744073709551616):bits .and .u64 n 1=n%2:=by
 obtain⟨a,rfl⟩:=bf h0;rw[show(1:Int)=((1:Nat):Int)from rfl,bits_and_u64_nat a 1 (by omega) (by omega),Nat.and_one_is_mod];omega
theorem AF (w:an)(n:Int)(h0:0<=n)(h1:n<18446744073709551616):Calls Tryz.prog 350 #[.int .u64 n] w fun e w'=>e= .returned (.int .u64 (En n))/\w'=w:=by
 have hb:=wZ h0 h1;unfold En
 by_cases h:n%2=1
 ·rw[if_pos h];rw[h]at hb;have hw:IntKind.u64.wrap (-1)=18446744073709551615:=by decide
  have hx:=oM (n:=n/2) (by omega) (by omega);go_enter Tryz.func350,Tryz.ntmps350
  go_wp2;go_ret;exact⟨rfl,rfl⟩
 ·rw[if_neg h];have h2:n%2=0:=by omega
  rw[h2]at hb;have hw:IntKind.u64.wrap 0=0:=by decide
  have hx:=oN (n:=n/2) (by omega) (by omega);go_enter Tryz.func350,Tryz.ntmps350
  go_wp2;go_ret;exact⟨rfl,rfl⟩
theorem EI (w:an)(n:Int):Calls Tryz.prog 349 #[.int .u64 n] w fun e w'=>e= .returned (.int .u64 (En (n%4294967296)))/\w'=w:=by
 go_enter Tryz.func349,Tryz.ntmps349
 go_wp2_with fail
 refine(pS w n).mono ?_;rintro e w2 ⟨rfl,rfl⟩;go_wp2_with fail
 refine(AF _ (n%4294967296) (by omega) (by omega)).mono ?_;rintro e w2 ⟨rfl,rfl⟩;go_wp2;go_ret;exact⟨rfl,rfl⟩
end
end Go.Proofs.YtfebdimolnobaaaGreatDoor
namespace Go.Proofs
open Go.Shelf
def Tryz.laysVs_ren:Go.Shelf.Ren:=⟨fun|196=>325|259=>393|n=>n,fun|9=>9|4=>4|3=>3|5=>5|12=>12|119=>459|0=>0|46=>295|139=>462|138=>461|53=>53|n=>n,fun|3=>2|4=>3|n=>n⟩
theorem Tryz.laysVs:Go.Proofs.Lays.n196 Tryz.prog Tryz.laysVs_ren:={
 mixed:=by kernel_rfl
 f196:=Tryz.func325.trans (congrArg some (by kernel_rfl))
 f259:=Tryz.func393.trans (congrArg some (by kernel_rfl))
 t0:=Tryz.underlying0
 a0:=Tryz.isAgg0
 z0:=Tryz.sizeOf0
 v0:=Tryz.zeroValue0
 t3:=Tryz.underlying3
 a3:=Tryz.isAgg3
 z3:=Tryz.sizeOf3
 v3:=Tryz.zeroValue3
 t4:=Tryz.underlying4
 a4:=Tryz.isAgg4
 z4:=Tryz.sizeOf4
 v4:=Tryz.zeroValue4
 t5:=Tryz.underlying5
 a5:=Tryz.isAgg5
 z5:=Tryz.sizeOf5
 v5:=Tryz.zeroValue5
 t9:=Tryz.underlying9
 a9:=Tryz.isAgg9
 z9:=Tryz.sizeOf9
 v9:=Tryz.zeroValue9
 t12:=Tryz.underlying12
 a12:=Tryz.isAgg12
 z12:=Tryz.sizeOf12
 v12:=Tryz.zeroValue12
 t46:=Tryz.underlying295
 a46:=Tryz.isAgg295
 z46:=Tryz.sizeOf295
 v46:=Tryz.zeroValue295
 t53:=Tryz.underlying53
 a53:=Tryz.isAgg53
 z53:=Tryz.sizeOf53
 v53:=Tryz.zeroValue53
 t119:=Tryz.underlying459
 a119:=Tryz.isAgg459
 z119:=Tryz.sizeOf459
 t138:=Tryz.underlying461
 a138:=Tryz.isAgg461
 z138:=Tryz.sizeOf461
 v138:=Tryz.zeroValue461
 t139:=Tryz.underlying462
 a139:=Tryz.isAgg462
 z139:=Tryz.sizeOf462
 v139:=Tryz.zeroValue462
 g3:=by kernel_rfl
 g4:=by kernel_rfl}
end Go.Proofs
namespace Go.Proofs.YtfebdimolnobaaaGreatDoor
open Go.RowKit
section
attribute [local go_sem↓] Go.wp_at_zero Go.wp_at_succ
def UOK (w:an):Prop:=Lib.Utf8Tabs 2 3 w
theorem UOK.lt1 {w:an}(h:UOK w):2<w.heap.size:=aN _ _ (h.1 0 (by decide))
theorem UOK.lt2 {w:an}(h:UOK w):3<w.heap.size:=aN _ _ (h.2 0 (by decide)).1
theorem UOK.keep {w w':an}(h:UOK w)(hb:w'.heap[2]?=w.heap[2]?)(hb2:w'.heap[3]?=w.heap[3]?):UOK w':=
 ⟨fun c hc=>(aZ (a:=(ai 2 c)) hb).trans (h.1 c hc), fun i hi=>⟨(aZ (a:=(ai 3 (2*i))) hb2).trans (h.2 i hi).1,(aZ (a:=(ai 3 (2*i+1))) hb2).trans (h.2 i hi).2⟩⟩
theorem xd (w:an)(s:am)(hs:s.size<=140737488355328)(hu:UOK w):Calls Tryz.prog 325 #[ae s] w fun e w'=>e= .returned (.bool (Lib.validD s.data.toList))/\aj w w':=
 Any.utf8_ValidString Tryz.laysVs s w (by omega) hu
theorem BU (s:am)(w:an)(h:s.size<=140737488355328):
  Calls Tryz.prog 108 #[ae s] w fun e w'=>e= .returned (ae s)/\aj w w':=by
 go_enter Tryz.func108,Tryz.ntmps108
 go_wp2_with fail
 refine(AnyPu.stringslite_Clone Tryz.laysPu25 s _ (by omega)).mono ?_;rintro e w1 ⟨rfl,hb⟩;go_wp2;go_ret;exact⟨rfl,hb⟩
theorem gq {s:am}{a z e:Nat}(h:dS s a= .ok (z,e)):a<z/\z<=e/\e<=s.size:=by
 unfold dS at h
 split at h
 ·cases h
 ·rename_i x hv
  obtain⟨v0,v1,v2,v3⟩:=fW (m:=x.1) (z:=x.2) hv
  split at h
  ·simp at h;obtain⟨rfl,rfl⟩:=h;omega
  ·cases h
theorem BX (s:am)(z e:Nat):(s.extract 0 e).extract z (s.extract 0 e).size=s.extract z e:=by
 apply cF;simp only[cG];apply Array.ext
 ·simp
 ·intro i h1 h2;simp
def lr (s:am)(a:Nat):Fx (am×Nat):=
 match dS s a with
 | .error x=> .error x
 | .ok x=> .ok (s.extract x.1 x.2,x.2)
def oO (s:am)(a:Nat):Fx (am×Nat):=
 match dS s a with
 | .error x=> .error x
 | .ok x=>if Lib.validD (s.extract x.1 x.2).data.toList then .ok (s.extract x.1 x.2,x.2)else .error (10,x.1)
theorem BY (w:an)(rb:Nat)(s:am)(a:Nat)(deep:Int)(h:dn w rb s a deep)(hs:s.size<=140737488355328):
  Calls Tryz.prog 270 #[ag rb] w (ni w rb s deep (lr s a) Value.string):=by
 obtain⟨r,HR⟩:∃r,Hid (lr s a=r):=⟨_,rfl⟩;rw[HR.out];go_enter Tryz.func270,Tryz.ntmps270
 go_wp2_with fail
 refine(lK w rb s a deep h hs).mono ?_
 cases hv:dS s a with
 |error x=>
  rintro e w2 ⟨hk,he⟩;obtain rfl:e=da x.1 x.2:=he;obtain rfl:r= .error x:=by rw[<-HR.out,lr,hv]
  unfold da;go_wp2;exact⟨rfl,hk,rfl⟩
 |ok x=>
  obtain⟨z,en⟩:=x;obtain⟨v1,v2,v3⟩:=gq hv;obtain rfl:r= .ok (s.extract z en,en):=by rw[<-HR.out,lr,hv]
  rintro e w2 ⟨hk,nb,rfl,Oh,Oi,N2,Ob⟩;have N2:dn w2 nb (s.extract 0 en) z deep:=N2;have hsz:(s.extract 0 en).size=en:=by rw[aR];omega
  go_wp2_with fail
  have HL:=AE w2 nb (s.extract 0 en) z deep N2 (by omega);rw[BX]at HL;refine HL.mono ?_;rintro e w3 ⟨rfl,q,rfl⟩;go_wp2_with fail
  refine(BU (s.extract z en) _ (by rw[aR];omega)).mono ?_;rintro e w4 ⟨rfl,b4⟩;go_wp2;go_ret;exact⟨(hk.drewN q).trans (dl.of_below b4),rfl,de.below (Ob.drewN q) b4 (de.lt Ob)⟩
theorem EJ (w:an)(rb:Nat)(s:am)(a:Nat)(deep:Int)(h:dn w rb s a deep)(hs:s.size<=140737488355328)(hu:UOK w)(hu1:rb≠2)(hu2:rb≠3):
  Calls Tryz.prog 269 #[ag rb] w (ni w rb s deep (oO s a) Value.string):=by
 obtain⟨r,HR⟩:∃r,Hid (oO s a=r):=⟨_,rfl⟩;rw[HR.out];go_enter Tryz.func269,Tryz.ntmps269
 go_wp2_with fail
 refine(lK w rb s a deep h hs).mono ?_
 cases hv:dS s a with
 |error x=>
  rintro e w2 ⟨hk,he⟩;obtain rfl:e=da x.1 x.2:=he;obtain rfl:r= .error x:=by rw[<-HR.out,oO,hv]
  unfold da;go_wp2;exact⟨rfl,hk,rfl⟩
 |ok x=>
  obtain⟨z,en⟩:=x;obtain⟨v1,v2,v3⟩:=gq hv;rintro e w2 ⟨hk,nb,rfl,Oh,Oi,N2,Ob⟩;have N2:dn w2 nb (s.extract 0 en) z deep:=N2;have hsz:(s.extract 0 en).size=en:=by rw[aR];omega
  have Oc:UOK w2:=hu.keep (hk.block _ hu.lt1 (by simp;exact fun e=>hu1 e.symm)) (hk.block _ hu.lt2 (by simp;exact fun e=>hu2 e.symm))
  have HL:Hid (∀w3:an,dn w3 nb (s.extract 0 en) z deep->Calls Tryz.prog 272 #[ag nb] w3 fun e w'=>e= .returned (ae (s.extract z en))/\∃q,w'=w3.drewN q):=fun w3 h3=>by
   have:=AE w3 nb (s.extract 0 en) z deep h3 (by omega);rw[BX]at this;exact this
  have Od:(s.extract z en).size<=140737488355328:=by rw[aR];omega
  have HV:Hid (∀w3:an,UOK w3->Calls Tryz.prog 325 #[ae (s.extract z en)] w3 fun e w'=>e= .returned (.bool (Lib.validD (s.extract z en).data.toList))/\aj w3 w'):=fun w3 h3=>xd w3 _ Od h3
  have HC:Hid (∀w3:an,Calls Tryz.prog 108 #[ae (s.extract z en)] w3 fun e w'=>e= .returned (ae (s.extract z en))/\aj w3 w'):=fun w3=>BU _ w3 Od
  have HE:Hid (r=if Lib.validD (s.extract z en).data.toList then .ok (s.extract z en,en)else .error (10,(z:Int))):=by
   show r=_;rw[<-HR.out,oO,hv]
  clear HR hsz Od;generalize s.extract z en=X at*;generalize Lib.validD X.data.toList=vd at*;go_wp2_with fail
  refine(HL.out w2 N2).mono ?_;rintro e w3 ⟨rfl,q,rfl⟩;have N3:=N2.drewN q;have N7:dn (w2.drewN q) rb s en deep:=Ob.drewN q;have Of:=hk.drewN q;have Og:UOK (w2.drewN q):=Oc.keep rfl rfl;generalize w2.drewN q=w3 at*;go_wp2_with fail
  refine(HV.out w3 Og).mono ?_;rintro e w4 ⟨rfl,b4⟩;have N8:dn w4 nb (s.extract 0 en) z deep:=de.below N3 b4 (de.lt N3);have Oa:dn w4 rb s en deep:=de.below N7 b4 (de.lt N7);have Oe:=Of.trans (dl.of_below b4)
  cases vd
  ·obtain rfl:r= .error (10,(z:Int)):=HE.out;obtain⟨k1,k2⟩:=de.rules N8;go_wp2_with fail
   refine(Ed _ _ _).mono ?_;rintro e w5 ⟨rfl,rfl⟩;go_wp2;exact⟨rfl,Oe,rfl⟩
  ·obtain rfl:r= .ok (X,en):=HE.out;go_wp2_with fail
   refine(HL.out w4 N8).mono ?_;rintro e w5 ⟨rfl,q5,rfl⟩;go_wp2_with fail
   refine(HC.out _).mono ?_;rintro e w6 ⟨rfl,b6⟩;go_wp2;go_ret;exact⟨(Oe.drewN q5).trans (dl.of_below b6),rfl,de.below (Oa.drewN q5) b6 (de.lt Oa)⟩
def jz (s:am)(a:Nat)(kind:Int):Fx (Unit×Nat):=
 if kind=0 then(match fA s a s.size with| .error x=> .error x| .ok x=> .ok ((),x.2))
 else if kind=1 then(match fh s a 8 with| .error x=> .error x| .ok x=> .ok ((),x.2))
 else if kind=5 then(match fh s a 4 with| .error x=> .error x| .ok x=> .ok ((),x.2))
 else(match dS s a with| .error x=> .error x| .ok x=> .ok ((),x.2))
def EK (w:an)(rb:Nat)(s:am)(deep:Int)(r:Fx (Unit×Nat))(e:Ending)(w':an):Prop:=
 dl [rb] w w'/\(match r with
 | .error x=>e=da x.1 x.2
 | .ok x=>e= .returned (.tuple #[])/\dn w' rb s x.2 deep)
theorem rk (s:am)(a k:Nat):(match mI s a k with| .error x=>Except.error x| .ok x=> .ok ((),x.2):Fx (Unit×Nat))=(match fh s a k with| .error x=> .error x| .ok x=> .ok ((),x.2)):=by
 rw[qA,fh]
 by_cases h:a+k<=s.size
 ·rw[if_pos h,if_pos h]
 ·rw[if_neg h,if_neg h]
theorem xf (w:an)(rb:Nat)(s:am)(a:Nat)(deep kind:Int)(h:dn w rb s a deep)(ha:a<=s.size)(hs:s.size<=140737488355328)(hk:kind=0\/kind=1\/kind=2\/kind=5):
  Calls Tryz.prog 134 #[ag rb,aa kind] w (EK w rb s deep (jz s a kind)):=by
 have h8:=sV w rb s a deep 8 h ha hs (by decide) (by decide);have h4:=sV w rb s a deep 4 h ha hs (by decide) (by decide)
 rcases hk with rfl|rfl|rfl|rfl
 ·have e0:jz s a 0=(match fA s a s.size with| .error x=> .error x| .ok x=> .ok ((),x.2)):=rfl;rw[e0];obtain⟨r,HR⟩:∃r,Hid ((match fA s a s.size with| .error x=> .error x| .ok x=> .ok ((),x.2):Fx (Unit×Nat))=r):=⟨_,rfl⟩;rw[HR.out];go_enter Tryz.func134,Tryz.ntmps134
  go_wp2_with fail
  refine(gj w rb s a deep h hs).mono ?_
  cases hv:fA s a s.size with
  |error x=>
   rintro e w2 ⟨hk,he⟩;obtain rfl:e=da x.1 x.2:=he;obtain rfl:r= .error x:=by rw[<-HR.out,hv]
   unfold da;go_wp2;exact⟨rfl,hk,rfl⟩
  |ok x=>
   rintro e w2 ⟨hk,rfl,hr⟩;obtain rfl:r= .ok ((),x.2):=by rw[<-HR.out,hv]
   go_wp2;go_end0;exact⟨hk,rfl,hr⟩
 ·have e0:jz s a 1=(match mI s a 8 with| .error x=> .error x| .ok x=> .ok ((),x.2)):=(rk s a 8).symm;rw[e0];obtain⟨r,HR⟩:∃r,Hid ((match mI s a 8 with| .error x=> .error x| .ok x=> .ok ((),x.2):Fx (Unit×Nat))=r):=⟨_,rfl⟩;rw[HR.out];go_enter Tryz.func134,Tryz.ntmps134
  go_wp2_with fail
  refine h8.mono ?_
  cases hv:mI s a 8 with
  |error x=>
   rintro e w2 ⟨hk,he⟩;obtain rfl:e=da x.1 x.2:=he;obtain rfl:r= .error x:=by rw[<-HR.out,hv]
   unfold da;go_wp2;exact⟨rfl,hk,rfl⟩
  |ok x=>
   rintro e w2 ⟨hk,rfl,hr⟩;obtain rfl:r= .ok ((),x.2):=by rw[<-HR.out,hv]
   go_wp2;go_end0;exact⟨hk,rfl,hr⟩
 ·have e0:jz s a 2=(match dS s a with| .error x=> .error x| .ok x=> .ok ((),x.2)):=rfl;rw[e0];obtain⟨r,HR⟩:∃r,Hid ((match dS s a with| .error x=> .error x| .ok x=> .ok ((),x.2):Fx (Unit×Nat))=r):=⟨_,rfl⟩;rw[HR.out];go_enter Tryz.func134,Tryz.ntmps134
  go_wp2_with fail
  refine(lK w rb s a deep h hs).mono ?_
  cases hv:dS s a with
  |error x=>
   rintro e w2 ⟨hk,he⟩;obtain rfl:e=da x.1 x.2:=he;obtain rfl:r= .error x:=by rw[<-HR.out,hv]
   unfold da;go_wp2;exact⟨rfl,hk,rfl⟩
  |ok x=>
   rintro e w2 ⟨hk,nb,rfl,_,_,_,hr⟩;obtain rfl:r= .ok ((),x.2):=by rw[<-HR.out,hv]
   go_wp2;go_end0;exact⟨hk,rfl,hr⟩
 ·have e0:jz s a 5=(match mI s a 4 with| .error x=> .error x| .ok x=> .ok ((),x.2)):=(rk s a 4).symm;rw[e0];obtain⟨r,HR⟩:∃r,Hid ((match mI s a 4 with| .error x=> .error x| .ok x=> .ok ((),x.2):Fx (Unit×Nat))=r):=⟨_,rfl⟩;rw[HR.out];go_enter Tryz.func134,Tryz.ntmps134
  go_wp2_with fail
  refine h4.mono ?_
  cases hv:mI s a 4 with
  |error x=>
   rintro e w2 ⟨hk,he⟩;obtain rfl:e=da x.1 x.2:=he;obtain rfl:r= .error x:=by rw[<-HR.out,hv]
   unfold da;go_wp2;exact⟨rfl,hk,rfl⟩
  |ok x=>
   rintro e w2 ⟨hk,rfl,hr⟩;obtain rfl:r= .ok ((),x.2):=by rw[<-HR.out,hv]
   go_wp2;go_end0;exact⟨hk,rfl,hr⟩
end
theorem eG {b:am}{e:Nat}(h:e<=b.size):(b.extract 0 e).size=e:=by rw[aR];omega
theorem Hu {b:am}{e k:Nat}(h:e<=b.size)(hk:k<e):eB (b.extract 0 e) k=eB b k:=by
 unfold eB;rw[dif_pos (by rw[eG h];exact hk),dif_pos (by omega)]
 congr 2;rw[ByteArray.getElem_extract];simp
theorem BZ {b:am}{a e:Nat}(h:e<=b.size):∀f i n,lD (b.extract 0 e) a e f i n=lD b a e f i n
 |0,i,n=>rfl
 |f+1,i,n=>by
  unfold lD
  by_cases hl:a+i<e
  ·rw[if_pos hl,if_pos hl,Hu h hl,BZ h f]
  ·rw[if_neg hl,if_neg hl]
theorem sl {b:am}{a e:Nat}(h:e<=b.size):fA (b.extract 0 e) a (b.extract 0 e).size=fA b a e:=by
 rw[eG h];exact BZ h 10 0 0
theorem iE {b:am}{e z k:Nat}(h:e<=b.size)(hk:k<=e):(b.extract 0 e).extract z k=b.extract z k:=by
 apply cF;simp only[cG];apply Array.ext
 ·simp;omega
 ·intro i h1 h2;simp
theorem pT {b:am}{a e k:Nat}(h:e<=b.size):fh (b.extract 0 e) a k=if a+k<=e then .ok (Au (b.extract a (a+k)),a+k)else .error (6,(a:Int)):=by
 unfold fh;rw[eG h]
 by_cases hl:a+k<=e
 ·rw[if_pos hl,if_pos hl,iE h hl]
 ·rw[if_neg hl,if_neg hl]
theorem yM {b:am}{a e:Nat}(h:e<=b.size):dS (b.extract 0 e) a=(match fA b a e with| .error x=> .error x| .ok x=>if(x.2:Int)+x.1<=e then .ok (x.2,x.2+x.1.toNat)else .error (6,x.2)):=by
 unfold dS;rw[sl h,eG h]
 all_goals (cases fA b a e<;>rfl)
theorem EL {b:am}{a e:Nat}(h:e<=b.size):iH (b.extract 0 e) a=(match fA b a e with
  | .error x=> .error x
  | .ok x=>if x.1/8<1\/536870911<x.1/8 then .error (8,a)else if x.1%8=0\/x.1%8=1\/x.1%8=2\/x.1%8=5 then .ok ((x.1/8,x.1%8),x.2)else .error (9,a)):=by
 unfold iH;rw[sl h]
 all_goals (cases fA b a e<;>rfl)
def Hv (s:am)(a:Nat):Fx rK:=
 match iH s a with
 | .error x=> .error x
 | .ok x=>
  if x.1.2=0 then(match fA s x.2 s.size with| .error y=> .error y| .ok y=> .ok ⟨x.1.1,0,a,x.2,y.2,y.1⟩)
  else if x.1.2=1 then(match fh s x.2 8 with| .error y=> .error y| .ok y=> .ok ⟨x.1.1,1,a,x.2,y.2,y.1⟩)
  else if x.1.2=5 then(match fh s x.2 4 with| .error y=> .error y| .ok y=> .ok ⟨x.1.1,5,a,x.2,y.2,y.1⟩)
  else(match dS s x.2 with| .error y=> .error y| .ok y=> .ok ⟨x.1.1,2,a,y.1,y.2,0⟩)
theorem Ca {b:am}{a e:Nat}(h:e<=b.size):Hv (b.extract 0 e) a=fF b a e:=by
 unfold Hv fF;rw[EL h]
 cases hv:fA b a e with
 |error x=>rfl
 |ok x=>
  obtain⟨t,fr⟩:=x;simp only
  by_cases h1:t/8<1\/536870911<t/8
  ·rw[if_pos h1,if_pos h1]
  ·rw[if_neg h1,if_neg h1]
   by_cases k0:t%8=0
   ·rw[if_pos (.inl k0),if_pos k0];simp only;rw[if_pos k0,sl h]
    cases fA b fr e<;>rfl
   ·by_cases k1:t%8=1
    ·rw[if_pos (.inr (.inl k1)),if_neg k0,if_pos k1];simp only;rw[if_neg k0,if_pos k1,pT h]
     by_cases q:fr+8<=e
     ·rw[if_pos q,if_pos q]
     ·rw[if_neg q,if_neg q]
    ·by_cases k5:t%8=5
     ·rw[if_pos (.inr (.inr (.inr k5))),if_neg k0,if_neg k1,if_pos k5];simp only;rw[if_neg k0,if_neg k1,if_pos k5,pT h]
      by_cases q:fr+4<=e
      ·rw[if_pos q,if_pos q]
      ·rw[if_neg q,if_neg q]
     ·by_cases k2:t%8=2
      ·rw[if_pos (.inr (.inr (.inl k2))),if_neg k0,if_neg k1,if_neg k5,if_pos k2];simp only;rw[if_neg k0,if_neg k1,if_neg k5,yM h]
       cases hw:fA b fr e with
       |error y=>rfl
       |ok y=>
        obtain⟨n,bh⟩:=y;simp only
        by_cases q:(bh:Int)+n<=e
        ·rw[if_pos q,if_pos q]
        ·rw[if_neg q,if_neg q]
      ·rw[if_neg (by omega),if_neg k0,if_neg k1,if_neg k5,if_neg k2]
section
attribute [local go_sem↓] Go.wp_at_zero Go.wp_at_succ
def gF (k:Nat):Bool:=decide (k<=12)||decide (k=15)
def iT (k:Nat):Bool:=decide (k=0)||decide (k=1)||decide (k=4)||decide (k=5)||decide (k=9)||decide (k=10)||decide (k=15)
theorem AG (w:an)(k:Nat)(pv:Value)(hk:k<=16):Calls Tryz.prog 283 #[.agg #[aa k,pv]] w fun e w'=>e= .returned (Value.bool (gF k))/\aj w w':=by
 have B0:∀o,aj w (w.alloc o):=fun o=>(Below.refl w.heap.size w).alloc (ay _) o
 rcases(show k=0\/k=1\/k=2\/k=3\/k=4\/k=5\/k=6\/k=7\/k=8\/k=9\/k=10\/k=11\/k=12\/k=13\/k=14\/k=15\/k=16 from by omega)with rfl|rfl|rfl|rfl|rfl|rfl|rfl|rfl|rfl|rfl|rfl|rfl|rfl|rfl|rfl|rfl|rfl
 all_goals
  go_enter Tryz.func283,Tryz.ntmps283
  go_wp2;go_ret;exact⟨rfl,B0 _⟩
theorem mx (w:an)(k:Nat)(pv:Value)(hk:k<=16):Calls Tryz.prog 189 #[.agg #[aa k,pv]] w fun e w'=>e= .returned (Value.bool (iT k))/\aj w w':=by
 have B0:∀o,aj w (w.alloc o):=fun o=>(Below.refl w.heap.size w).alloc (ay _) o
 rcases(show k=0\/k=1\/k=2\/k=3\/k=4\/k=5\/k=6\/k=7\/k=8\/k=9\/k=10\/k=11\/k=12\/k=13\/k=14\/k=15\/k=16 from by omega)with rfl|rfl|rfl|rfl|rfl|rfl|rfl|rfl|rfl|rfl|rfl|rfl|rfl|rfl|rfl|rfl|rfl
 all_goals
  go_enter Tryz.func189,Tryz.ntmps189
  go_wp2;go_ret;exact⟨rfl,B0 _⟩
theorem nj (w:an)(k:Nat)(pv:Value)(hk:k<=16):Calls Tryz.prog 208 #[.agg #[aa k,pv]] w fun e w'=>e= .returned (Value.int .i64 (dL k))/\aj w w':=by
 have B0:∀o,aj w (w.alloc o):=fun o=>(Below.refl w.heap.size w).alloc (ay _) o
 rcases(show k=0\/k=1\/k=2\/k=3\/k=4\/k=5\/k=6\/k=7\/k=8\/k=9\/k=10\/k=11\/k=12\/k=13\/k=14\/k=15\/k=16 from by omega)with rfl|rfl|rfl|rfl|rfl|rfl|rfl|rfl|rfl|rfl|rfl|rfl|rfl|rfl|rfl|rfl|rfl
 all_goals
  go_enter Tryz.func208,Tryz.ntmps208
  go_wp2;go_ret;exact⟨rfl,B0 _⟩
end
end Go.Proofs.YtfebdimolnobaaaGreatDoor
