import Derived.Test.YtfebdimolnobaaaGreatDoorPlG
import Derived.Test.YtfebdimolnobaaaGreatDoorItB
set_option maxRecDepth 100000
set_option maxHeartbeats 8000000
set_option linter.all false
namespace Go.Proofs.YtfebdimolnobaaaGreatDoor
open Go.RowKit
section
attribute [local go_sem↓] Go.wp_at_zero Go.wp_at_succ
theorem rF (x:Nat):(x|||1)/2=x/2:=by
 have h1:=Nat.shiftRight_or_distrib (a:=x) (b:=1) (i:=1);simpa [Nat.shiftRight_succ]using h1
theorem xI (x:Nat):(x|||1)=x\/(x|||1)=x+1:=by
 have h:=rF x
 have h2:(x|||1)%2=1:=by
  have:=Nat.and_one_is_mod (x|||1);rw[<-this,Nat.and_or_distrib_right];simp
  rcases Nat.mod_two_eq_zero_or_one x with q|q<;>rw[q]<;>rfl
 omega
theorem vW {x:Nat}(h:x≠0)(h1:x<18446744073709551616):Lib.bitLen (x|||1)=Lib.bitLen x:=by
 have:=xI x;have hh:=rF x;have N8:x|||1<2^64:=Nat.or_lt_two_pow h1 (by decide)
 rw[Lib.bitLen_half x h h1,Lib.bitLen_half (x|||1) (by omega) N8,hh]
theorem zT:∀(f x:Nat),x<128^(f+1)->x<18446744073709551616->(xH f x).length=(Lib.bitLen (x|||1)+6)/7
 |f,x,h,h1=>by
  by_cases hx:x<128
  ·have e:(xH f (x:Int)).length=1:=by
    have:(x:Int)<128:=by omega
    cases f<;>simp[xH,this]
   have:∀k:Fin 128,1=(Lib.bitLen (k.val|||1)+6)/7:=by decide+kernel
   rw[e];exact this ⟨x,hx⟩
  ·cases f with
   |zero=>simp at h;omega
   |succ f=>
    have hb:Lib.bitLen (x|||1)=7+Lib.bitLen (x/128):=by
     rw[vW (by omega) h1];exact Lib.bitLen_shift 7 x (by omega) h1
    have ih:=zT f (x/128) (by rw[Nat.pow_succ]at h;omega) (by omega);rw[vW (by omega) (by omega)]at ih;rw[xH,if_neg (by omega),bn,show((x:Int)/128)=((x/128:Nat):Int)by omega,ih,hb];omega
theorem zU (x:Int)(w:an)(h0:0<=x)(h1:x<=18446744073709551615):Calls Tryz.prog 255 #[.int .u64 x] w fun e w'=>e= .returned (aa (Lib.bitLen x.toNat))/\w'=w:=Any.bits_Len64 Tryz.laysLn x w h0 h1
theorem LS {w:an}{fb:Nat}{a b c d e:Value}{T:TypeId}(h:de w fb #[a,b,c,d,e] T):w.cell? (ai fb 0)=some a/\w.cell? (ai fb 2)=some c/\w.cell? (ai fb 3)=some d:=⟨h.cell 0,h.cell 2,h.cell 3⟩
section
variable (w:an)
theorem lW (x:Int)(h0:0<=x)(h1:x<18446744073709551616):Calls Tryz.prog 328 #[.int .u64 x] w fun e w'=>e= .returned (aa (vi x).length)/\w'=w:=by
 obtain⟨n,rfl⟩:=bf h0;have hor:bits .or .u64 (n:Int) 1=((n|||1:Nat):Int):=bits_or_u64_nat n 1 (by omega) (by omega);have N8:n|||1<2^64:=Nat.or_lt_two_pow (by omega) (by decide)
 have hl:=zU ((n|||1:Nat):Int) w (by omega) (by omega);have hs:(vi (n:Int)).length=(Lib.bitLen (n|||1)+6)/7:=zT 9 n (by omega) (by omega);have Oa:=(om 9 (n:Int)).1;rw[Int.toNat_natCast]at hl;rw[hs];have hle2:(Lib.bitLen (n|||1)+6)/7<=10:=by rw[<-hs];exact Oa
 clear hs Oa;generalize Lib.bitLen (n|||1)=y at*;generalize n|||1=o at*
 go_enter Tryz.func328,Tryz.ntmps328
 go_wp2_with fail
 refine hl.mono ?_;rintro e w2 ⟨rfl,rfl⟩;go_wp2;go_ret;exact⟨by rw[show(((y+6)/7:Nat):Int)=((y:Int)+6)/7 by omega];rfl,rfl⟩
theorem JP {n k:Int}(h0:0<=n)(h1:n<=536870911)(k0:0<=k)(k1:k<8):bits .or .u64 (n*8) k=n*8+k:=by
 obtain⟨a,rfl⟩:=bf h0;obtain⟨c,rfl⟩:=bf k0;rw[show(a:Int)*8=((a*8:Nat):Int)by omega,bits_or_u64_nat (a*8) c (by omega) (by omega),show a*8=a<<<3 by rw[cK],<-Nat.shiftLeft_add_eq_or_of_lt (by omega:c<2^3),cK];omega
theorem FX (n k:Int)(h0:0<=n)(h1:n<=536870911)(k0:0<=k)(k1:k<8):Calls Tryz.prog 316 #[.agg #[aa n,aa k]] w fun e w'=>e= .returned (.int .u64 (n*8+k))/\aj w w':=by
 have ho:=JP h0 h1 k0 k1;have m1:n%18446744073709551616=n:=by omega
 have m2:k%18446744073709551616=k:=by omega
 have m3:n*8%18446744073709551616=n*8:=by omega
 obtain⟨k1,k2⟩:=(de.new w #[aa n,aa k] 237).rules;go_enter Tryz.func316,Tryz.ntmps316
 go_wp2;go_ret;exact⟨rfl,(Below.refl _ _).alloc (ay _) _⟩
def gP (n k:Int):List UInt8:=vi (n*8+k)
theorem I7 (n k:Int)(h0:0<=n)(h1:n<=536870911)(k0:0<=k)(k1:k<8):Calls Tryz.prog 242 #[.agg #[aa n,aa k]] w fun e w'=>e= .returned (aa (gP n k).length)/\aj w w':=by
 obtain⟨r1,r2⟩:=(de.new w #[aa n,aa k] 237).rules;have B1:aj w (w.alloc (ak #[aa n,aa k] 237)):=(Below.refl _ _).alloc (ay _) _;go_enter Tryz.func242,Tryz.ntmps242
 go_wp2_with fail
 refine(FX _ n k h0 h1 k0 k1).mono ?_;rintro e w2 ⟨rfl,b2⟩;go_wp2_with fail
 refine(lW _ (n*8+k) (by omega) (by omega)).mono ?_;rintro e w3 ⟨rfl,rfl⟩;go_wp2;go_ret;exact⟨rfl,dH B1 b2⟩
theorem qR (x:List UInt8)(h:x.length<=140737488355328):Calls Tryz.prog 243 #[aa x.length] w fun e w'=>e= .returned (aa (fm x).length)/\w'=w:=by
 have m1:(x.length:Int)%18446744073709551616=x.length:=by omega
 have hl:=(om 9 (x.length:Int)).1;have hL:(fm x).length=(vi x.length).length+x.length:=by rw[fm,aH]
 have hz:=lW w x.length (by omega) (by omega);rw[hL];rw[show(xH 9 (x.length:Int))=vi x.length from rfl]at hl;generalize(vi (x.length:Int)).length=y at*;generalize x.length=n at*;go_enter Tryz.func243,Tryz.ntmps243
 go_wp2_with fail
 refine hz.mono ?_;rintro e w2 ⟨rfl,rfl⟩;go_wp2;go_ret;exact⟨by rw[Int.natCast_add];rfl,rfl⟩
def FY (v:Int):Int:=if v<9223372036854775808 then 2*v else 36893488147419103231-2*v
theorem qe (v:Int)(h0:0<=v)(h1:v<18446744073709551616):Calls Tryz.prog 321 #[.int .u64 v] w fun e w'=>e= .returned (.int .u64 (FY v))/\w'=w:=by
 unfold FY
 by_cases h:v<9223372036854775808
 ·rw[if_pos h];have hd:v/9223372036854775808=0:=by omega
  have hx:=oN (n:=v*2) (by omega) (by omega);have hm:v*2%18446744073709551616=v*2:=by omega
  go_enter Tryz.func321,Tryz.ntmps321
  go_wp2;go_ret;exact⟨by rw[Int.mul_comm 2 v];rfl,rfl⟩
 ·rw[if_neg h];have hd:v/9223372036854775808=1:=by omega
  have hm:IntKind.u64.wrap (v*2)=v*2-18446744073709551616:=by simp[IntKind.wrap,IntKind.bits,IntKind.signed];omega
  have hw:IntKind.u64.wrap (-1)=18446744073709551615:=by decide
  have hx:=oM (n:=v*2-18446744073709551616) (by omega) (by omega);go_enter Tryz.func321,Tryz.ntmps321
  go_wp2;go_ret;exact⟨by rw[show(36893488147419103231:Int)-2*v=18446744073709551615-(v*2-18446744073709551616)by omega];rfl,rfl⟩
end
def vX (mp:am->Option Nat)(g:GF):Int:=if fG mp g then 2 else dL (dC mp g)
theorem FZ (k:Nat):dL k<8:=by
 unfold dL
 repeat' split
 all_goals omega
theorem qf (mp:am->Option Nat)(g:GF):0<=vX mp g/\vX mp g<8:=by
 have:=FZ (dC mp g);unfold vX
 split<;>omega
theorem d6.on {B b:Nat}{l:List UInt8}{w w':an}(h:d6 w B b (dx b) l)(hb:aj w w'):d6 w' B b (dx b) l:=by
 obtain⟨h1,v,h2,h3,h4⟩:=h;exact⟨h1,v,de.below h2 hb (de.lt h2),dO hb h3,h4⟩
theorem dj {n m:Nat}{a b:an}(h:Below n a b)(hm:m<=n):Below m a b:=⟨h.os,h.tape,h.output,h.size,fun i hi=>h.block i (by omega)⟩
section
variable {B b:Nat} {l:List UInt8} {w:an}
theorem F0 (n k:Int)(h0:0<=n)(h1:n<=536870911)(k0:0<=k)(k1:k<8)(h:d6 w B b (dx b) l)(hlen:l.length+(gP n k).length<=140737488355328)(hBw:B<=w.heap.size):
  Calls Tryz.prog 230 #[dx b,.agg #[aa n,aa k]] w (gu B b l (gP n k) w):=by
 obtain⟨r1,r2⟩:=(de.new w #[aa n,aa k] 237).rules;have B1:aj w (w.alloc (ak #[aa n,aa k] 237)):=(Below.refl _ _).alloc (ay _) _;go_enter Tryz.func230,Tryz.ntmps230
 go_wp2_with fail
 refine(FX _ n k h0 h1 k0 k1).mono ?_;rintro e w2 ⟨rfl,b2⟩;have b3:=dH B1 b2;have hs:=b3.size;go_wp2_with fail
 refine(lV (n*8+k) (h.on b3) (by omega) (by omega) hlen (by omega)).mono ?_;rintro e w3 ⟨rfl,q1,q2⟩;go_wp2;go_end0;exact⟨rfl,q1,(Wr.of b3 hBw).trans q2⟩
end
section
variable (w:an) (P:ap) (mp:am->Option Nat) (g:GF) (fb:Nat)
theorem tS (h:dP w P mp g fb):Calls Tryz.prog 231 #[ag fb] w fun e w'=>e= .returned (.agg #[aa g.f.num,aa (vX mp g)])/\aj w w':=by
 obtain⟨pv,rv,h1,_,N3,Oc⟩:=h.blk;obtain⟨pq,rfl⟩:=eT Oc;obtain⟨ra,rn,rc,rfl⟩:=df N3.1;obtain⟨B1,KR⟩:=di w #[aa 0,aa 0] 237;have N7:=jW _ P mp g fb (h.keep (fun b _ hl=>B1.block b hl));have Od:=jA mp g;have hW:=fun W=>nj W (dC mp g) (.pointer pq) Od
 clear Oc N3 h;unfold vX
 cases hpk:fG mp g with
 |true=>
  rw[hpk]at N7;go_enter Tryz.func231,Tryz.ntmps231
  go_wp2_with fail
  refine N7.mono ?_;rintro e w2 ⟨rfl,b2⟩;have b3:=dH B1 b2;obtain⟨k3,k4⟩:=(de.below h1 b3 h1.lt).rules;have N2:=KR.below b2 KR.lt;obtain⟨k5,k6⟩:=N2.rules;go_wp2;refine bodyPost_ret (dw Tryz.results231 _ _ rfl ((N2.set 0 _).set 1 _) Tryz.underlying237 (by kernel_rfl)) rfl ?_;exact⟨rfl,(b3.setCell (p:=(ai w.heap.size 0)) (ay _) _).setCell (p:=(ai w.heap.size 1)) (ay _) _⟩
 |false=>
  rw[hpk]at N7;generalize dL (dC mp g)=wb at*;go_enter Tryz.func231,Tryz.ntmps231
  go_wp2_with fail
  refine N7.mono ?_;rintro e w2 ⟨rfl,b2⟩;have b3:=dH B1 b2;have K2:=de.below h1 b3 h1.lt;have N2:=KR.below b2 KR.lt;have hf2:=K2.lt;have hr2:=N2.lt;have hfw:=h1.lt;go_upto_region 3 with fail
  go_region_held2 (fun W=>W.cell? (ai fb 0)=some (aa g.f.num)/\W.cell? (ai fb 2)=some (aa (dC mp g))/\W.cell? (ai fb 3)=some (.pointer pq))
   ((refine LS (b:=aa g.form) (e:= .slice ra rn rc) (T:=220) ?_;repeat (first|exact K3|exact K2|refine de.drew ?_|refine de.other ?_ _ _ (by first|exact of_eq_false (by assumption)|omega))))
   (first|(go_at_call 208;refine(hW _).mono ?_;rintro e w3 ⟨rfl,b4⟩;have b5:aj w2 w3:=dH (Below.refl _ _).drew b4;have K3:=K2.below b5 K2.lt;have Ob:=N2.below b5 N2.lt;obtain⟨k5,k6⟩:=Ob.rules))
  all_goals
   go_wp2;refine bodyPost_ret (dw Tryz.results231 _ _ rfl ((Ob.set 0 _).set 1 _) Tryz.underlying237 (by kernel_rfl)) rfl ?_;exact⟨rfl,((dH b3 b5).setCell (p:=(ai w.heap.size 0)) (ay _) _).setCell (p:=(ai w.heap.size 1)) (ay _) _⟩
end
end
theorem JQ (a:Addr):a.add 0=a:=by unfold Addr.add;simp
theorem jI {w:an}{a:Addr}{n j:Nat}{x:Option Value}(h:w.cell? (a.add (n+(j+1)))=x):w.cell? (ai ((a.add n).block) ((a.add n).off+(j+1)))=x:=by
 rw[show((ai ((a.add n).block) ((a.add n).off+(j+1))):Addr)=a.add (n+(j+1))by unfold Addr.add;by_cases h:n=0<;>simp[h,Nat.add_assoc]];exact h
def je (w:an)(Z:ap)(v:Value)(n:Nat)(xs:aq):Prop:=
 ∃a c,v= .slice a n c/\n<=c/\(0<n->∃ad:Addr,a=some ad/\Z ad.block/\ad.block<w.heap.size/\∀w':an,w'.heap[ad.block]?=w.heap[ad.block]?->∀p u,xs[p]?=some u->w'.cell? (ad.add p)=some u)
section
variable {w w':an} {Z Y:ap} {v:Value} {n:Nat} {xs:aq}
theorem je.form (h:je w Z v n xs):∃a c,v= .slice a n c:=by
 obtain⟨a,c,h,_⟩:=h;exact⟨a,c,h⟩
theorem je.cap {a:aw}{c:Nat}(h:je w Z (.slice a n c) n xs):n<=c:=by
 obtain⟨a',c',h,h2,_⟩:=h
 cases h
 exact h2
theorem je.at {a:aw}{m c:Nat}(h:je w Z (.slice a m c) n xs)(hn:0<n):∃ad:Addr,a=some ad/\Z ad.block/\ad.block<w.heap.size/\∀w':an,w'.heap[ad.block]?=w.heap[ad.block]?->∀p u,xs[p]?=some u->w'.cell? (ad.add p)=some u:=by
 obtain⟨a',c',h,_,h3⟩:=h
 cases h
 exact h3 hn
theorem je.keep (h:je w Z v n xs)(hk:∀b,Z b->b<w.heap.size->w'.heap[b]?=w.heap[b]?):je w' Z v n xs:=by
 obtain⟨a,c,h1,h2,h3⟩:=h;refine⟨a,c,h1,h2,fun hn=> ?_⟩;obtain⟨ad,q1,q2,q3,q4⟩:=h3 hn;have e:=hk _ q2 q3;refine⟨ad,q1,q2,?_,fun w2 h2=>q4 w2 (h2.trans e)⟩;rw[bo q3]at e;exact(Array.getElem?_eq_some_iff.1 e).1
theorem je.mono (h:je w Z v n xs)(hz:∀b,Z b->b<w.heap.size->Y b):je w Y v n xs:=by
 obtain⟨a,c,h1,h2,h3⟩:=h;refine⟨a,c,h1,h2,fun hn=> ?_⟩;obtain⟨ad,q1,q2,q3,q4⟩:=h3 hn;exact⟨ad,q1,hz _ q2 q3,q3,q4⟩
theorem dJ.rd {T:TypeId}{k:Nat}(h:dJ w Z T k v n xs):je w Z v n xs:=by
 obtain⟨a,c,rfl⟩:=gS h.1;refine⟨a,c,rfl,?_,fun hn=> ?_⟩
 ·rcases h.1.2 with⟨h1,h2⟩|⟨g,cap,cur,h1,h2,h3,h4,h5,h6,h7⟩
  ·cases h1;omega
  ·cases h1;omega
 ·obtain⟨g,rfl,_,N3,hc⟩:=dE h.1 hn;refine⟨(ai g 0),rfl,h.2 g rfl,N3,fun w' hw p u hp=> ?_⟩;have:=hc w' hw p u hp
  rwa [show((ai g 0):Addr).add p=(ai g p)by unfold Addr.add;by_cases h:p=0<;>simp[h]]
end
def mB (P:Value->PM->Prop)(w:an)(Z:ap)(vv:Value)(l:List PV):Prop:=∃N2,je w Z vv l.length N2/\lu P N2 l
def uH (P:Value->PM->Prop)(w:an)(Z:ap):aq->List PF->Prop
 |cs,[]=>cs= []
 |cs,f::fs=>∃vv rest,cs=aa f.1::vv::rest/\mB P w Z vv f.2/\uH P w Z rest fs
def fR:Nat->an->(ap)->Value->PM->Prop
 |0,_,_,_,_=>False
 |k+1,w,Z,v,m=>∃cs,je w Z v m.fs.length cs/\uH (fR k w Z) w Z cs m.fs
theorem mB.keep {P Q:Value->PM->Prop}{w w':an}{Z:ap}(hP:∀v m,P v m->Q v m)(hk:∀b,Z b->b<w.heap.size->w'.heap[b]?=w.heap[b]?){vv:Value}{l:List PV}(h:mB P w Z vv l):mB Q w' Z vv l:=by
 obtain⟨N2,h1,h2⟩:=h;exact⟨N2,h1.keep hk,h2.imp hP⟩
theorem uH.keep {P Q:Value->PM->Prop}{w w':an}{Z:ap}(hP:∀v m,P v m->Q v m)(hk:∀b,Z b->b<w.heap.size->w'.heap[b]?=w.heap[b]?):∀{fs:List PF} {cs:aq},uH P w Z cs fs->uH Q w' Z cs fs
 | [],_,h=>h
 |_::_,_,⟨vv,rest,h1,h2,h3⟩=>⟨vv,rest,h1,h2.keep hP hk,uH.keep hP hk h3⟩
theorem fR.keep {w w':an}{Z:ap}(hk:∀b,Z b->b<w.heap.size->w'.heap[b]?=w.heap[b]?):∀{k:Nat} {v:Value} {m:PM},fR k w Z v m->fR k w' Z v m
 |0,_,_,h=>h
 |_+1,_,_,⟨cs,h1,h2⟩=>⟨cs,h1.keep hk,h2.keep (fun _ _ h=>fR.keep hk h) hk⟩
theorem fR.below {w w':an}{Z:ap}{n:Nat}(hb:Below n w w')(hn:w.heap.size<=n){k:Nat}{v:Value}{m:PM}(h:fR k w Z v m):fR k w' Z v m:=
 h.keep (fun b _ hl=>hb.block b (aC hl hn))
theorem mB.below {w w':an}{Z:ap}{n:Nat}(hb:Below n w w')(hn:w.heap.size<=n){k:Nat}{v:Value}{l:List PV}(h:mB (fR k w Z) w Z v l):mB (fR k w' Z) w' Z v l:=
 h.keep (fun _ _ h=>h.below hb hn) (fun b _ hl=>hb.block b (aC hl hn))
theorem uH.below {w w':an}{Z:ap}{n:Nat}(hb:Below n w w')(hn:w.heap.size<=n){k:Nat}{cs:aq}{l:List PF}(h:uH (fR k w Z) w Z cs l):uH (fR k w' Z) w' Z cs l:=
 h.keep (fun _ _ h=>h.below hb hn) (fun b _ hl=>hb.block b (aC hl hn))
theorem uH.mono {P Q:Value->PM->Prop}{w:an}{Z Y:ap}(hP:∀v m,P v m->Q v m)(hz:∀b,Z b->b<w.heap.size->Y b):∀{fs:List PF} {cs:aq},uH P w Z cs fs->uH Q w Y cs fs
 | [],_,h=>h
 |_::_,_,⟨vv,rest,h1,⟨N2,h2,h4⟩,h3⟩=>⟨vv,rest,h1,⟨N2,h2.mono hz,h4.imp hP⟩,uH.mono hP hz h3⟩
theorem fR.mono {w:an}{Z Y:ap}(hz:∀b,Z b->b<w.heap.size->Y b):∀{k:Nat} {v:Value} {m:PM},fR k w Z v m->fR k w Y v m
 |0,_,_,h=>h
 |_+1,_,_,⟨cs,h1,h2⟩=>⟨cs,h1.mono hz,h2.mono (fun _ _ h=>fR.mono hz h) hz⟩
theorem uH.get {P:Value->PM->Prop}{w:an}{Z:ap}:∀{l:List PF} {cs:aq},uH P w Z cs l->∀{i:Nat} {f:PF},l[i]?=some f->
  ∃vv,mB P w Z vv f.2/\cs[i*2]?=some (aa f.1)/\cs[i*2+1]?=some vv
 | [],_,_,i,v,h=>by simp at h
 |x::l,_,⟨vv,rest,h1,h2,h3⟩,0,v,h=>by
  subst h1;simp at h;subst h;exact⟨vv,h2,rfl,rfl⟩
 |x::l,_,⟨vv,rest,h1,h2,h3⟩,i+1,v,h=>by
  subst h1;obtain⟨vv,q1,q2,q3⟩:=uH.get h3 (i:=i) (f:=v) (by simpa using h);exact⟨vv,q1,by rw[show(i+1)*2=i*2+1+1 by omega];simpa using q2,by rw[show(i+1)*2+1=i*2+1+1+1 by omega];simpa using q3⟩
theorem mB.form {P:Value->PM->Prop}{w:an}{Z:ap}{vv:Value}{l:List PV}(h:mB P w Z vv l):∃a c,vv= .slice a l.length c:=by
 obtain⟨N2,h1,_⟩:=h;exact h1.form
theorem fR.form {k:Nat}{w:an}{Z:ap}{v:Value}{m:PM}(h:fR k w Z v m):∃a c,v= .slice a m.fs.length c:=by
 cases k with
 |zero=>exact h.elim
 |succ k=>
  obtain⟨cs,h1,_⟩:=h;exact h1.form
theorem jK.rn {P Q:Value->PM->Prop}{w:an}{Z:ap}(hP:∀v m,P v m->Q v m):∀{fs:List PF} {cs:aq},jK P w Z cs fs->uH Q w Z cs fs
 | [],_,h=>h
 |_::_,_,⟨vv,rest,h1,⟨N2,h2,h4⟩,h3⟩=>⟨vv,rest,h1,⟨N2,h2.rd,h4.imp hP⟩,jK.rn hP h3⟩
theorem oe.rn {w:an}{Z:ap}:∀{k:Nat} {v:Value} {m:PM},oe k w Z v m->fR k w Z v m
 |0,_,_,h=>h
 |_+1,_,_,⟨cs,h1,h2⟩=>⟨cs,h1.rd,h2.rn (fun _ _ h=>oe.rn h)⟩
section
attribute [local go_sem↓] Go.wp_at_zero Go.wp_at_succ
def ew (x:PV)(mv:Value):Value:= .agg #[.int .u64 x.1,ae x.2.1,mv,ae x.2.2.unk]
abbrev Nz:={x:Int//x≠0}
theorem Nz.ne (x:Nz):x.1≠0:=x.2
def dA (ok:Bool)(w:an)(e:Ending)(w':an):Prop:=aj w w'/\if ok=true then e= .returned (.tuple #[])else∃(x:Nz) (y:Int),e=da x.1 y
theorem dA.ok {w w':an}(b:aj w w'):dA true w (.returned (.tuple #[])) w':=⟨b,rfl⟩
theorem dA.no {w w':an}{x y:Int}(b:aj w w')(hx:x≠0:=by first|decide|exact Nz.ne _):dA false w (da x y) w':=⟨b,⟨x,hx⟩,_,rfl⟩
theorem dA.part {ok:Bool}{w:an}{e:Ending}{w':an}(h:dA ok w e w'):(ok=true/\e= .returned (.tuple #[])/\aj w w')\/(ok=false/\∃(x:Nz) (y:Int),e=da x.1 y/\aj w w'):=by
 obtain⟨h1,h2⟩:=h
 cases ok
 ·rw[if_neg (by simp)]at h2;obtain⟨x,y,q⟩:=h2;exact .inr ⟨rfl,x,y,q,h1⟩
 ·exact .inl ⟨rfl,h2,h1⟩
section
variable (w:an)
theorem fN:Calls Tryz.prog 157 #[.bool true] w fun e w'=>e= .returned (.tuple #[])/\w'=w:=by
 go_enter Tryz.func157,Tryz.ntmps157
 go_wp2;go_end0;exact⟨rfl,rfl⟩
theorem fD:Calls Tryz.prog 157 #[.bool false] w fun e w'=>e=da 12 0/\w'=w:=by
 go_enter Tryz.func157,Tryz.ntmps157
 go_wp2_with fail
 refine(Ed 12 0 _).mono ?_;rintro e w' ⟨rfl,rfl⟩;go_wp2;exact⟨rfl,rfl,rfl⟩
def qS (s:am):Bool:=s.toList.isEmpty
def Aw (m:PM):Bool:=m.fs.isEmpty&&qS m.unk
theorem Cz {α:Type}(l:List α):(((l.length:Nat):Int)==0)=l.isEmpty:=by cases l<;>simp;omega
theorem vY (x:PV)(mv:Value):Calls Tryz.prog 241 #[ew x mv] w (dA (!(decide (x.1=0)&&qS x.2.1)) w):=by
 obtain⟨n,s,m⟩:=x;unfold ew qS;simp only
 by_cases h0:n=0
 ·subst h0;simp only[decide_true];obtain⟨B,K⟩:=di w #[.int .u64 0,ae s,mv,ae m.unk] 55;obtain⟨k1,k2⟩:=K.rules
  cases h1:s.toList.isEmpty
  all_goals
   go_enter Tryz.func241,Tryz.ntmps241
   go_wp2_with fail
   first|refine(fN _).mono ?_|refine(fD _).mono ?_
   rintro e w' ⟨rfl,rfl⟩
   try unfold da
   go_wp2
   first|(go_end0;exact⟨B,rfl⟩)|exact⟨rfl,dA.no B⟩
 ·rw[decide_eq_false h0];obtain⟨B,K⟩:=di w #[.int .u64 n,ae s,mv,ae m.unk] 55;obtain⟨k1,k2⟩:=K.rules;go_enter Tryz.func241,Tryz.ntmps241
  go_wp2_with fail
  first|refine(fN _).mono ?_|refine(fD _).mono ?_
  rintro e w' ⟨rfl,rfl⟩
  try unfold da
  go_wp2
  first|(go_end0;exact⟨B,rfl⟩)|exact⟨rfl,dA.no B⟩
theorem zV (x:PV)(ma:aw)(mc:Nat):Calls Tryz.prog 326 #[ew x (.slice ma x.2.2.fs.length mc)] w (dA (qS x.2.1&&Aw x.2.2) w):=by
 obtain⟨n,s,m⟩:=x;have h3:=Cz m.fs;unfold ew Aw qS;simp only;generalize m.fs.isEmpty=p3 at*;generalize m.fs.length=q3 at*;obtain⟨B,K⟩:=di w #[.int .u64 n,ae s,.slice ma q3 mc,ae m.unk] 55;obtain⟨k1,k2⟩:=K.rules
 cases h1:s.toList.isEmpty<;>cases p3<;>cases h4:m.unk.toList.isEmpty
 all_goals
  go_enter Tryz.func326,Tryz.ntmps326
  go_wp2_with fail
  first|refine(fN _).mono ?_|refine(fD _).mono ?_
  rintro e w' ⟨rfl,rfl⟩
  try unfold da
  go_wp2
  first|(go_end0;exact⟨B,rfl⟩)|exact⟨rfl,dA.no B⟩
theorem Bk (x:PV)(ma:aw)(mc:Nat):Calls Tryz.prog 324 #[ew x (.slice ma x.2.2.fs.length mc)] w (dA (decide (x.1=0)&&Aw x.2.2) w):=by
 obtain⟨n,s,m⟩:=x;have h3:=Cz m.fs;unfold ew Aw qS;simp only;generalize m.fs.isEmpty=p3 at*;generalize m.fs.length=q3 at*
 by_cases h0:n=0
 ·subst h0;simp only[decide_true];obtain⟨B,K⟩:=di w #[.int .u64 0,ae s,.slice ma q3 mc,ae m.unk] 55;obtain⟨k1,k2⟩:=K.rules
  cases p3<;>cases h4:m.unk.toList.isEmpty
  all_goals
   go_enter Tryz.func324,Tryz.ntmps324
   go_wp2_with fail
   first|refine(fN _).mono ?_|refine(fD _).mono ?_
   rintro e w' ⟨rfl,rfl⟩
   try unfold da
   go_wp2
   first|(go_end0;exact⟨B,rfl⟩)|exact⟨rfl,dA.no B⟩
 ·rw[decide_eq_false h0];clear h3;obtain⟨B,K⟩:=di w #[.int .u64 n,ae s,.slice ma q3 mc,ae m.unk] 55;obtain⟨k1,k2⟩:=K.rules;go_enter Tryz.func324,Tryz.ntmps324
  go_wp2_with fail
  first|refine(fN _).mono ?_|refine(fD _).mono ?_
  rintro e w' ⟨rfl,rfl⟩
  try unfold da
  go_wp2
  first|(go_end0;exact⟨B,rfl⟩)|exact⟨rfl,dA.no B⟩
theorem I8 (x:PV)(mv:Value):Calls Tryz.prog 323 #[ew x mv] w (dA (decide (x.1=0)&&qS x.2.1) w):=by
 obtain⟨n,s,m⟩:=x;unfold ew qS;simp only
 by_cases h0:n=0
 ·subst h0;simp only[decide_true];obtain⟨B,K⟩:=di w #[.int .u64 0,ae s,mv,ae m.unk] 55;obtain⟨k1,k2⟩:=K.rules
  cases h1:s.toList.isEmpty
  all_goals
   go_enter Tryz.func323,Tryz.ntmps323
   go_wp2_with fail
   first|refine(fN _).mono ?_|refine(fD _).mono ?_
   rintro e w' ⟨rfl,rfl⟩
   try unfold da
   go_wp2
   first|(go_end0;exact⟨B,rfl⟩)|exact⟨rfl,dA.no B⟩
 ·rw[decide_eq_false h0];obtain⟨B,K⟩:=di w #[.int .u64 n,ae s,mv,ae m.unk] 55;obtain⟨k1,k2⟩:=K.rules;go_enter Tryz.func323,Tryz.ntmps323
  go_wp2_with fail
  first|refine(fN _).mono ?_|refine(fD _).mono ?_
  rintro e w' ⟨rfl,rfl⟩
  try unfold da
  go_wp2
  first|(go_end0;exact⟨B,rfl⟩)|exact⟨rfl,dA.no B⟩
end
def Ir (k:Nat)(n:Int):Bool:=
 if k=0\/k=4\/k=9\/k=15 then n==qy n else if k=2\/k=7\/k=11 then n==n%4294967296 else if k=6 then n==(if 0<n then 1 else 0)else true
theorem vZ {k:Nat}(hk:k<=16):k=0\/k=1\/k=2\/k=3\/k=4\/k=5\/k=6\/k=7\/k=8\/k=9\/k=10\/k=11\/k=12\/k=13\/k=14\/k=15\/k=16:=by omega
theorem Bl (w:an)(k:Nat)(n:Int)(hk:k<=16)(h0:0<=n):Calls Tryz.prog 327 #[aa k,.int .u64 n] w fun e w'=>e= .returned (.bool (Ir k n))/\w'=w:=by
 have H1:=jm w n;have H2:=pS w n;have H3:=sk w n h0;unfold Ir;generalize qy n=a at*;generalize n%4294967296=b at*;generalize(if 0<n then(1:Int)else 0)=c at*
 rcases vZ hk with rfl|rfl|rfl|rfl|rfl|rfl|rfl|rfl|rfl|rfl|rfl|rfl|rfl|rfl|rfl|rfl|rfl
 all_goals
  go_enter Tryz.func327,Tryz.ntmps327
  go_wp2_with (first|(go_at_call 347;refine H1.mono ?_;rintro e w2 ⟨rfl,rfl⟩)|(go_at_call 348;refine H2.mono ?_;rintro e w2 ⟨rfl,rfl⟩)|(go_at_call 351;refine H3.mono ?_;rintro e w2 ⟨rfl,rfl⟩))
  go_ret;exact⟨rfl,rfl⟩
def fB (S:dG)(f:ek):Nat:=if f.isMap then 16 else S.base f.ty
def iJ (S:dG)(f:ek):Bool:=f.isRep&&gF (fB S f)
def mM (S:dG)(f:ek):Int:=if iJ S f then 2 else dL (fB S f)
def tT (S:dG)(d:MT)(num kind:Int):Bool:=
 match dv d.fs num with
 |none=>false
 |some f=>(kind==(dL (fB S f):Int))||((kind==2)&&iJ S f)
def eV (S:dG)(R:MT->PM->List UInt8)(f:ek)(v:PV):List UInt8:=
 if fB S f=16 then fm (match ed S f with|some t=>R t v.2.2|none=> [])
 else if fB S f=13\/fB S f=14 then fm v.2.1.data.toList
 else if fB S f=7\/fB S f=9\/fB S f=11 then zO 4 v.1
 else if fB S f=8\/fB S f=10\/fB S f=12 then zO 8 v.1
 else if fB S f=4\/fB S f=5 then vi (FY v.1)else vi v.1
def ly (S:dG)(R:MT->PM->List UInt8)(f:ek)(l:List PV):List UInt8:=l.flatMap (eV S R f)
def iW (S:dG)(R:MT->PM->List UInt8)(f:ek)(l:List PV):List UInt8:=
 if iJ S f then gP f.num (mM S f)++fm (ly S R f l)else l.flatMap fun v=>gP f.num (mM S f)++eV S R f v
def iL (S:dG)(R:MT->PM->List UInt8)(d:MT)(x:PF):List UInt8:=
 match dv d.fs x.1 with
 |none=> []
 |some f=>iW S R f x.2
def dD (S:dG):Nat->MT->PM->List UInt8
 |0,_,_=> []
 |n+1,d,m=>m.fs.flatMap (iL S (dD S n) d)++m.unk.data.toList
def dZ (S:dG)(R:MT->PM->Bool)(f:ek)(v:PV):Bool:=
 if fB S f=16 then(decide (v.1=0)&&qS v.2.1)&&(match ed S f with|some t=>R t v.2.2|none=>false)
 else if fB S f=13 then(decide (v.1=0)&&Aw v.2.2)&&Lib.validD v.2.1.data.toList
 else if fB S f=14 then decide (v.1=0)&&Aw v.2.2
 else(qS v.2.1&&Aw v.2.2)&&Ir (fB S f) v.1
def MF (e:PV):PV:=
 match e.2.2.fs with
 |(_,k::_)::_=>k
 |_=>PV.none
def GX (sg:Bool)(e:PV):LV:=GV sg ((MF e).1,(MF e).2.1)
def iB (sg:Bool):Option LV->List PV->Bool
 |_,[]=>true
 |last,e::l=>((e.2.2.fs.length==2)&&qS e.2.2.unk)&&(match last with|none=>true|some k=>decide (tL k (GX sg e)<0))&&iB sg (some (GX sg e)) l
def xJ (f:ek)(l:List PV):Bool:=(l.length==1)||((f.isRep||f.isMap)&&decide (1<l.length))
def oW (S:dG)(f:ek)(l:List PV):Bool:=
 if f.isMap then iB (iT (S.base f.key)) none l else if gy f.how eS=true/\fB S f≠16 then(match l with|x::_=> !(decide (x.1=0)&&qS x.2.1)| []=>true)else true
def fL (S:dG)(R:MT->PM->Bool)(f:ek)(l:List PV):Bool:=xJ f l&&l.all (dZ S R f)&&oW S f l
def jR (riv:List Int)(n:Int)(ahead:List PF):Bool:=ahead.all fun y=>decide (y.1<n)&& !decide (y.1∈riv)
def jS (S:dG)(R:MT->PM->Bool)(d:MT):List PF->List PF->Bool
 |_,[]=>true
 |ahead,x::l=>(match dv d.fs x.1 with|none=>false|some f=>jR (uM d f) x.1 ahead&&fL S R f x.2)&&jS S R d (ahead++ [x]) l
def JR (G:Nat->Bool):Fx (Unit×Nat)->Bool
 | .error _=>false
 | .ok y=>G y.2
def LT (fit:Int->Int->Bool)(s:am)(G:Nat->Bool):Fx ((Int×Int)×Nat)->Bool
 | .error _=>false
 | .ok x=> !(fit x.1.1 x.1.2)&&JR G (jz s x.2 x.1.2)
def zW (fit:Int->Int->Bool)(s:am):Nat->Nat->Bool
 |0,_=>false
 |F+1,a=>if a<s.size then LT fit s (zW fit s F) (iH s a)else true
def xK (fit:Int->Int->Bool)(s:am):Bool:=zW fit s (s.size+1) 0
def dm (S:dG):Nat->MT->PM->Bool
 |0,_,_=>false
 |n+1,d,m=>jS S (dm S n) d [] m.fs&&xK (tT S d) m.unk
def kT:Nat->PM->Prop
 |0,_=>False
 |k+1,m=>m.fs.length<=1099511627776/\m.unk.size<=1099511627776/\∀x∈m.fs,x.2.length<=1099511627776/\∀v∈x.2,0<=v.1/\v.1<18446744073709551616/\v.2.1.size<=1099511627776/\kT k v.2.2
theorem mD {b:Nat}{w w1 w2:an}(h:aj w w1)(k:dl [b] w1 w2)(hb:w.heap.size<=b):aj w w2:=
 h.trans ⟨k.os,k.tape,k.output,k.size,fun i hi=>k.block i (aC hi h.size) (by simp;omega)⟩
theorem xL {s:am}{a e:Nat}{x:Int×Int}:∀{f i:Nat} {n:Int},lD s a e f i n= .error x->x.1≠0
 |0,_,_,h=>by
  obtain rfl:=Except.error.inj h;simp
 |f+1,i,n,h=>by
  rw[lD]at h
  split at h
  ·split at h
   ·obtain rfl:=Except.error.inj h;simp
   ·split at h
    ·cases h
    ·exact xL h
  ·obtain rfl:=Except.error.inj h;simp
theorem Is {s:am}{a:Nat}{x:Int×Int}(h:iH s a= .error x):x.1≠0:=by
 unfold iH at h
 split at h
 ·rename_i h1
  obtain rfl:=Except.error.inj h;exact xL h1
 ·split at h
  ·obtain rfl:=Except.error.inj h;simp
  ·split at h
   ·cases h
   ·obtain rfl:=Except.error.inj h;simp
theorem CB {s:am}{a k:Nat}{x:Int×Int}(h:fh s a k= .error x):x.1≠0:=by
 unfold fh at h
 split at h
 ·cases h
 ·obtain rfl:=Except.error.inj h;simp
theorem F3 {s:am}{a:Nat}{k:Int}{x:Int×Int}(h:jz s a k= .error x):x.1≠0:=by
 unfold jz at h
 split at h
 ·split at h
  ·rename_i h1
   obtain rfl:=Except.error.inj h;exact xL h1
  ·cases h
 ·split at h
  ·split at h
   ·rename_i h1
    obtain rfl:=Except.error.inj h;exact CB h1
   ·cases h
  ·split at h
   ·split at h
    ·rename_i h1
     obtain rfl:=Except.error.inj h;exact CB h1
    ·cases h
   ·split at h
    ·rename_i h1
     obtain rfl:=Except.error.inj h;unfold dS at h1
     split at h1
     ·rename_i h2
      obtain rfl:=Except.error.inj h1;exact xL h2
     ·split at h1
      ·cases h1
      ·obtain rfl:=Except.error.inj h1;simp
    ·cases h
theorem Bn {riv:List Int}{n:Int}{fs:List PF}{i:Nat}{x:PF}(hx:fs[i]?=some x):jR riv n (fs.take (i+1))=(jR riv n (fs.take i)&&(decide (x.1<n)&& !decide (x.1∈riv))):=by
 unfold jR;rw[bu,hx];simp
theorem zX {riv:List Int}{n:Int}{fs:List PF}{i j:Nat}(h:i<=j)(hn:jR riv n (fs.take i)=false):jR riv n (fs.take j)=false:=by
 unfold jR at*;rw[List.all_eq_false]at hn⊢;obtain⟨y,h1,h2⟩:=hn;exact⟨y,(List.take_subset_take_left fs h) h1,h2⟩
theorem F4 {Q:Value->PM->Prop}{Z P:ap}(w:an)(a:aw)(c c':Nat)(fs:List PF)(cs:aq)(i:Nat)(n:Int)(rv:Value)(riv:List Int)(hr:je w Z (.slice a fs.length c) fs.length cs)(hf:uH Q w Z cs fs)(hi:i<=fs.length)(hl:fs.length<=1099511627776)
  (hrv:dJ w P 3 1 rv riv.length (eL riv)) (hrl:riv.length<=4194304):
  Calls Tryz.prog 158 #[.slice a i c',aa n,rv] w (dA (jR riv n (fs.take i)) w):=by
 obtain⟨ra,rc,rfl⟩:=gS hrv.1;go_enter Tryz.func158,Tryz.ntmps158
 go_wp2;go_loopw [7,10] (fun _ jv wr=>∃j:Nat,jv=aa j/\j<=i/\Hid (jR riv n (fs.take j)=true)/\aj w wr) (fun _ jv _=>i-(intOf jv).toNat)
 case atStart=>exact⟨0,rfl,aM _,rfl,Below.refl _ _⟩
 case round=>
  obtain⟨j,rfl,hji,HN,B⟩:=hrel
  by_cases hlt:j<i
  ·obtain⟨x,hx⟩:=gx (l:=fs) (i:=j) (by omega);obtain⟨vv,p1,p2,p3⟩:=hf.get hx;obtain⟨va,vc,rfl⟩:=p1.form;obtain⟨g,rfl,hzg,Og,N2⟩:=hr.at (by omega);have t0:=N2 wr (B.block _ Og) _ _ p2;have t1:=jI (N2 wr (B.block _ Og) _ _ p3);have hlj:(j:Int)<(i:Int):=by omega
   obtain⟨B1,K1⟩:=di wr #[aa x.1,.slice va x.2.length vc] 58;have B2:=cY B B1;have HC:=tr _ (.slice ra riv.length rc) riv x.1 (dO B2 hrv.1) hrl
   have HT:Hid (jR riv n (fs.take (j+1))=(decide (x.1<n)&& !decide (x.1∈riv))):=by
    show jR riv n (fs.take (j+1))=_;rw[Bn hx,HN.out,cu]
   obtain⟨k1,k2⟩:=K1.rules;clear N2 p2 p3 hx;generalize decide (x.1∈riv)=q at*
   by_cases h1:x.1<n
   ·cases q
    ·go_wp2_with (first|(go_at_call 238;refine HC.mono ?_;rintro e w2 ⟨rfl,rfl⟩)|(go_at_call 157;refine(fN _).mono ?_;rintro e w2 ⟨rfl,rfl⟩))
     go_roundw
     case rel=>exact⟨j+1,by go_num,by omega,HT.out.trans (by simp[h1]),B2⟩
     case measure=>simp[intOf];omega
    ·go_wp2_with (first|(go_at_call 238;refine HC.mono ?_;rintro e w2 ⟨rfl,rfl⟩)|(go_at_call 157;refine(fD _).mono ?_;rintro e w2 ⟨rfl,rfl⟩;unfold da))
     exact⟨rfl,by rw[zX (by omega) (HT.out.trans (by simp))];exact dA.no B2⟩
   ·go_wp2_with (first|(go_at_call 157;refine(fD _).mono ?_;rintro e w2 ⟨rfl,rfl⟩;unfold da))
    exact⟨rfl,by rw[zX (by omega) (HT.out.trans (by rw[decide_eq_false (by omega)];rfl))];exact dA.no B2⟩
  ·obtain rfl:j=i:=by omega
   go_wp2;go_end0;exact⟨B,by rw[if_pos HN.out]⟩
theorem It (w:an)(x:PV)(mv:Value)(sg:Bool)(h0:0<=x.1)(h1:x.1<18446744073709551616):
  Calls Tryz.prog 267 #[ew x mv,.bool sg] w fun e w'=>e= .returned (kV (GV sg (x.1,x.2.1)))/\aj w w':=by
 have hx:=p7 h0 h1;have K0:=de.new w #[.int .u64 x.1,ae x.2.1,mv,ae x.2.2.unk] 55;have K1:=K0.alloc (ak #[.int .u64 0,ae ⟨#[]⟩] 386);obtain⟨k1,k2⟩:=K1.rules;unfold ew kV GV
 cases sg with
 |true=>
  rw[if_pos rfl];go_enter Tryz.func267,Tryz.ntmps267
  go_wp2;refine bodyPost_ret (dw Tryz.results267 _ _ rfl (de.new1 w _ _ _) Tryz.underlying386 (by kernel_rfl)) rfl ?_;exact⟨rfl,((Below.refl _ _).alloc (ay _) _).alloc (by simp) _⟩
 |false=>
  rw[if_neg (by simp)];go_enter Tryz.func267,Tryz.ntmps267
  go_wp2;refine bodyPost_ret (dw Tryz.results267 _ _ rfl (de.new1 w _ _ _) Tryz.underlying386 (by kernel_rfl)) rfl ?_;exact⟨rfl,((Below.refl _ _).alloc (ay _) _).alloc (by simp) _⟩
theorem wd (w:an)(s:am)(ff:Nat)(cap:aq)(fit:Int->Int->Bool)(hs:s.size<=1099511627776)(hen:∀args w,(callFunc ff args).run Tryz.prog w= .ok (.enter ff args) w)
  (hf:∀(W:an) (n k:Int),aj w W->Calls Tryz.prog ff ((Value.agg #[aa n,aa k]::cap).toArray) W fun e w'=>e= .returned (.bool (fit n k))/\Below W.heap.size W w'):
  Calls Tryz.prog 160 #[ae s,.func (.func ff) #[] cap.toArray] w (dA (xK fit s) w):=by
 obtain⟨P,HP⟩:∃P,Hid (xK fit s=P):=⟨_,rfl⟩;rw[HP.out];have K0:=de.new w #[ae s,aa 0,aa 1] 244;have B0:aj w (w.alloc (.cells #[ae s,aa 0,aa 1] 244)):=(Below.refl _ _).alloc (ay _) _;go_enter Tryz.func160,Tryz.ntmps160
 go_wp2_with fail
 refine(EE w s).mono ?_;rintro e w1 ⟨rfl,rfl⟩;generalize w.alloc (.cells #[ae s,aa 0,aa 1] 244)=w1 at*;go_wp2;go_loopw [5] (fun _ wr=>∃(a F:Nat),a<=s.size/\s.size-a<F/\Hid (zW fit s F a=P)/\dn wr w.heap.size s a 1/\aj w wr) (fun _ wr=>jM wr w.heap.size s.size)
 case atStart=>exact⟨0,s.size+1,aM _,by omega,HP,K0,B0⟩
 case round=>
  obtain⟨a,F,ha,hF,HU,hr,B⟩:=hrel;have Ok:=ph wr w.heap.size s a 1 hr;have HM:Hid (jM wr w.heap.size s.size=s.size-a):=fO hr;go_wp2_with fail
  refine Ok.mono ?_;rintro e w4 ⟨rfl,q,rfl⟩;obtain⟨F,rfl⟩:∃g,F=g+1:=⟨F-1,by omega⟩;have Ol:dn (wr.drewN q) w.heap.size s a 1:=hr;have B4:aj w (wr.drewN q):=gC B q;generalize wr.drewN q=w4 at*
  by_cases hlt:a<s.size
  ·have hd:decide (a<s.size)=true:=decide_eq_true hlt;have Od:=EH w4 w.heap.size s a 1 Ol (by omega);obtain⟨T,hT⟩:∃T,iH s a=T:=⟨_,rfl⟩;rw[hT]at Od;have HT:Hid (iH s a=T):=hT;clear hT
   have N8:Hid (P=LT fit s (zW fit s F) T):=by
    show P=_;rw[<-HU.out,zW,if_pos hlt,HT.out]
   go_wp2_with fail
   refine Od.mono ?_;intro en w6 Ot
   rcases Ot.part with⟨x,rfl,rfl,Ob⟩|⟨x,rfl,rfl,Ob,Oh⟩
   ·have N3:Hid (P=false):=N8.out;have B6:aj w w6:=mD B4 Ob (ay _);unfold da;go_wp2;exact⟨rfl,by rw[N3.out];exact dA.no B6 (Is HT.out)⟩
   ·obtain⟨⟨num,kind⟩,z⟩:=x;obtain⟨kn,Oi,hk4,Ou,Ov⟩:=AV HT.out;simp only at Oi Ou Ov Oh;subst Oi;have B6:aj w w6:=mD B4 Ob (ay _);obtain⟨B7,KT⟩:=di w6 #[aa num,aa kn] 237;have Oe:dn (w6.alloc (ak #[aa num,aa kn] 237)) w.heap.size s z 1:=de.alloc Oh _;have B8:=cY B6 B7;have HF:=hf _ num kn B8;have N7:Hid (P=(!(fit num kn)&&JR (zW fit s F) (jz s z kn))):=N8.out;obtain⟨k1,k2⟩:=KT.rules;clear N8 HU HT;obtain⟨fv,Ow⟩:∃fv,fit num kn=fv:=⟨_,rfl⟩;rw[Ow]at HF N7;go_wp2_with fail
    generalize w6.alloc (ak #[aa num,aa kn] 237)=w7 at*;generalize w6.heap.size=tb at*;refine HF.mono ?_;rintro e w8 ⟨rfl,B9⟩;have Om:dn w8 w.heap.size s z 1:=de.below Oe B9 (de.lt Oe);have Oa:=cY B8 B9;have Oo:=KT.below B9 KT.lt;clear k1 k2;obtain⟨k1,k2⟩:=Oo.rules
    cases fv
    ·have Of:=xf w8 w.heap.size s z 1 kn Om (by omega) (by omega) (by omega);obtain⟨R,hR⟩:∃R,jz s z kn=R:=⟨_,rfl⟩;have HW:Hid (∀y,R= .ok y->z<y.2/\y.2<=s.size):=fun y hy=>sC (hR.trans hy)
     have HE:Hid (∀x,R= .error x->x.1≠0):=fun y hy=>F3 (hR.trans hy)
     have HL:Hid (P=JR (zW fit s F) R):=by
      show P=_;rw[N7.out,hR];rfl
     rw[hR]at Of;clear hR N7;go_wp2_with (go_at_call 157;refine(fN _).mono ?_;rintro e w2 ⟨rfl,rfl⟩)
     refine Of.mono ?_;intro en w9 Ox
     rcases Ox.part with⟨x,rfl,rfl,Oc⟩|⟨y,rfl,rfl,Oc,Oj⟩
     ·have N3:Hid (P=false):=HL.out;unfold da;go_wp2;exact⟨rfl,by rw[N3.out];exact dA.no (mD Oa Oc (ay _)) (HE.out x rfl)⟩
     ·obtain⟨hy1,Oy⟩:=HW.out y rfl;go_wp2;go_roundw
      case rel=>exact⟨y.2,F,Oy,by omega,HL.out.symm,Oj,mD Oa Oc (ay _)⟩
      case measure=>rw[HM.out,fO Oj];omega
    ·have N3:Hid (P=false):=N7.out;go_wp2_with (go_at_call 157;refine(fD _).mono ?_;rintro e w2 ⟨rfl,rfl⟩;unfold da)
     exact⟨rfl,by rw[N3.out];exact dA.no Oa⟩
  ·have hd:decide (a<s.size)=false:=decide_eq_false hlt
   have Oq:Hid (P=true):=by
    show P=true;rw[<-HU.out,zW,if_neg hlt]
   go_wp2;go_end0;exact⟨B4,by rw[Oq.out];rfl⟩
end
end Go.Proofs.YtfebdimolnobaaaGreatDoor
