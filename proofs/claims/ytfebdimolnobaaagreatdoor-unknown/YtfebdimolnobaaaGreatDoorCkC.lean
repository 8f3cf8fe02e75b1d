import Derived.Test.YtfebdimolnobaaaGreatDoorRdJ
set_option maxRecDepth 100000
set_option maxHeartbeats 8000000
set_option linter.all false
namespace Go.Proofs.YtfebdimolnobaaaGreatDoor
open Go.RowKit Go.Proofs.Tryz
section
open Go.Maps
attribute [local go_sem] jQ jR jS
open Vo
def Uf (w:aw)(k:Int)(s:au)(p:Nat):
  Calls prog 260 #[.agg #[aa k,ag s,aa p]] w λe w'=>e= .returned (.bool (ig k s))/\ak w w':=by
 have B0:=(Va w).alloc (aE _) (am #[aa k,ag s,aa p] 148);cases h0:(k==3)
 .go_in
  go_wp2;go_ret;exact⟨ja (by simp only[ig,h0];simp),B0⟩
 .cases h1:(s.toList== [102,108,111,97,116])
  .cases h2:(s.toList== [100,111,117,98,108,101])
   .cases h3:(s.toList== [98,121,116,101,115])
    .go_in
     go_wp2;go_ret;exact⟨ja (by simp only[ig,h0,h1,h2,h3];simp),B0⟩
    .go_in
     go_wp2;go_ret;exact⟨ja (by simp only[ig,h0,h1,h2,h3];simp),B0⟩
   .go_in
    go_wp2;go_ret;exact⟨ja (by simp only[ig,h0,h1,h2];simp),B0⟩
  .go_in
   go_wp2;go_ret;exact⟨ja (by simp only[ig,h0,h1];simp),B0⟩
def pi (types:aA)(k:Int)(s:au):Bool:=k==1&&(decide (20<s.size)|| !fi types s)
def Qs (w:aw)(tb nb mb:Nat)(k:Int)(s:au)(p:Nat)(hk:(k==1)=false):
  Calls prog 261 #[.agg #[.map (some tb),.map (some nb),.map (some mb)],.agg #[aa k,ag s,aa p]] w λe w'=>e= .returned (.tuple #[])/\ak w w':=by
 have⟨B0,KC,KW⟩:=gY w #[.map (some tb),.map (some nb),.map (some mb)] #[aa k,ag s,aa p] 306 148;have⟨r1,r2⟩:=KC.I;have⟨r3,r4⟩:=KW.I;clear r1 r2 r3 r4 KC KW;go_in
 go_wp2;go_end0;exact⟨rfl,B0⟩
def JP (w:aw)(tb nb mb:Nat)(k:Int)(s:au)(p:Nat)(hk:(k==1)=true)(hl:20<s.size):
  Calls prog 261 #[.agg #[.map (some tb),.map (some nb),.map (some mb)],.agg #[aa k,ag s,aa p]] w λe w'=>e=dY 3 p/\ak w w':=by
 have⟨B0,KC,KW⟩:=gY w #[.map (some tb),.map (some nb),.map (some mb)] #[aa k,ag s,aa p] 306 148;have⟨r1,r2⟩:=KC.I;have⟨r3,r4⟩:=KW.I;have hd:(20:Int)<(s.size:Int):=Vc;go_in
 go_wp2_with fail;clear r1 r2 r3 r4;refine wp_region_held_drew (S:=λw'=>w'.cell? (aj w.heap.size 0)=some (.map (some tb))/\w'.cell? (aj (w.heap.size+1) 0)=some (aa k)/\w'.cell? (aj (w.heap.size+1) 1)=some (ag s)/\w'.cell? (aj (w.heap.size+1) 2)=some (aa p)) Vh ⟨KC.cell 0,KW.cell 0,KW.cell 1,KW.cell 2⟩ (λhHeld=> ?_);refine U2 0 (.pointer (some (aj (w.heap.size+1) 1))) hHeld ?_;simp only[Act.put,U6];refine U2 1 (ag s) hHeld ?_;simp only[Act.put,U6];refine U2 2 (aa s.size) hHeld ?_;simp only[Act.put,U6];refine U2 3 (.bool true) hHeld ?_;simp only[Act.put,U6];refine U2 4 (.bool true) hHeld ?_;simp only[Act.put,U6];refine U3 5 undef hHeld ?_;simp only[Act.put,U6];refine U3 6 undef hHeld ?_;simp only[Act.put,U6];refine U3 7 undef hHeld ?_;simp only[Act.put,U6];refine U3 8 undef hHeld ?_;simp only[Act.put,U6];refine U3 9 undef hHeld ?_;simp only[Act.put,U6];refine U3 10 undef hHeld ?_;simp only[Act.put,U6];refine U2 11 (.bool true) hHeld ?_;simp only[Act.put,U6];refine U2 12 (.agg #[aa k,ag s,aa p]) hHeld ?_;simp only[Act.put,U6];refine wpAnyH_ready (rs:= [13]) Vh Vd (AllReadyH.cons rfl (λK hK=> ?_) AllReadyH.nil);clear hK;go_simp;refine(ld _ k s p).V ?_;rintro e w4 ⟨rfl,hb⟩;exact⟨rfl,rfl,B0.drew.J (hb.V Ve)⟩
def JQ (w:aw)(tb nb mb:Nat)(types:aA)(k:Int)(s:au)(p:Nat)(H:fw w tb types)(hk:(k==1)=true)(hl:s.size<=20)(hm:fi types s=false):
  Calls prog 261 #[.agg #[.map (some tb),.map (some nb),.map (some mb)],.agg #[aa k,ag s,aa p]] w λe w'=>e=dY 3 p/\ak w w':=by
 have⟨B0,KC,KW⟩:=gY w #[.map (some tb),.map (some nb),.map (some mb)] #[aa k,ag s,aa p] 306 148;have⟨r1,r2⟩:=KC.I;have⟨r3,r4⟩:=KW.I;have Vr:decide ((20:Int)<(s.size:Int))=false:=Ve;have hx:s.size<=maxLen:=Vj;have H1:fw ((w.U5 #[.map (some tb),.map (some nb),.map (some mb)] 306).U5 #[aa k,ag s,aa p] 148).drew tb types:=H.O (B0.block _ H.lt);go_in
 go_wp2_with fail;clear r1 r2 r3 r4;refine wp_region_held_drew (S:=λw'=>w'.cell? (aj w.heap.size 0)=some (.map (some tb))/\w'.cell? (aj (w.heap.size+1) 0)=some (aa k)/\w'.cell? (aj (w.heap.size+1) 1)=some (ag s)/\w'.cell? (aj (w.heap.size+1) 2)=some (aa p)) Vh ⟨KC.cell 0,KW.cell 0,KW.cell 1,KW.cell 2⟩ (λhHeld=> ?_);refine U2 0 (.pointer (some (aj (w.heap.size+1) 1))) hHeld ?_;simp only[Act.put,U6];refine U2 1 (ag s) hHeld ?_;simp only[Act.put,U6];refine U2 2 (aa s.size) hHeld ?_;simp only[Act.put,U6];refine U2 3 (.bool false) hHeld ?_;simp only[Act.put,U6];refine U2 4 (.bool false) hHeld ?_;simp only[Act.put,U6];refine U2 5 (ah w.heap.size) hHeld ?_;simp only[Act.put,U6];refine U2 6 (.map (some tb)) hHeld ?_;simp only[Act.put,U6];refine U2 7 (.pointer (some (aj (w.heap.size+1) 1))) hHeld ?_;simp only[Act.put,U6];refine U2 8 (ag s) hHeld ?_;simp only[Act.put,U6];refine U2 12 (.agg #[aa k,ag s,aa p]) hHeld ?_;simp only[Act.put,U6];refine wpAnyH_ready (rs:= [9]) Vh Vd (AllReadyH.cons rfl (λK hK=> ?_) AllReadyH.nil);go_simp;refine(Tb _ tb types s H1 hx).V ?_;rw[hm];rintro e w3 ⟨rfl,Vp⟩;have K3:=KC.drew.G Vp Ve;have K4:=KW.drew.G Vp Vd;clear hHeld;refine hK.out _ _ ⟨K3.cell 0,K4.cell 0,K4.cell 1,K4.cell 2⟩ (λhHeld=> ?_);clear hK K;refine U2 10 (.bool true) hHeld ?_;simp only[Act.put,U6];refine U2 11 (.bool true) hHeld ?_;simp only[Act.put,U6];refine wpAnyH_ready (rs:= [13]) Vh Vd (AllReadyH.cons rfl (λK hK=> ?_) AllReadyH.nil);clear hK;go_simp;refine(ld _ k s p).V ?_;rintro e w4 ⟨rfl,hb⟩;exact⟨rfl,rfl,(B0.drew.J (Vp.V Ve)).J (hb.V (by have:=Vp.size;simp at this;omega))⟩
def Qt (w:aw)(tb nb mb:Nat)(types:aA)(k:Int)(s:au)(p:Nat)(H:fw w tb types)(hk:(k==1)=true)(hl:s.size<=20)(hm:fi types s=true):
  Calls prog 261 #[.agg #[.map (some tb),.map (some nb),.map (some mb)],.agg #[aa k,ag s,aa p]] w λe w'=>e= .returned (.tuple #[])/\ak w w':=by
 have⟨B0,KC,KW⟩:=gY w #[.map (some tb),.map (some nb),.map (some mb)] #[aa k,ag s,aa p] 306 148;have⟨r1,r2⟩:=KC.I;have⟨r3,r4⟩:=KW.I;have Vr:decide ((20:Int)<(s.size:Int))=false:=Ve;have hx:s.size<=maxLen:=Vj;have H1:fw ((w.U5 #[.map (some tb),.map (some nb),.map (some mb)] 306).U5 #[aa k,ag s,aa p] 148).drew tb types:=H.O (B0.block _ H.lt);go_in
 go_wp2
 go_region_held3 (λw'=>w'.cell? (aj w.heap.size 0)=some (.map (some tb))/\w'.cell? (aj (w.heap.size+1) 0)=some (aa k)/\w'.cell? (aj (w.heap.size+1) 1)=some (ag s)/\w'.cell? (aj (w.heap.size+1) 2)=some (aa p))
  (first|exact⟨K5.cell 0,K6.cell 0,K6.cell 1,K6.cell 2⟩|exact⟨K3.cell 0,K4.cell 0,K4.cell 1,K4.cell 2⟩|go_keep)
  (first|(go_at_call 179;refine(Tb _ tb types s H1 hx).V ?_;rw[hm];rintro e w3 ⟨rfl,Vp⟩;have K3:=KC.drew.G Vp Ve;have K4:=KW.drew.G Vp Vd)|(go_at_call 123;refine(rX _ k s p).V ?_;rintro e w4 ⟨rfl,Vq⟩;have K5:=K3.G Vq K3.lt;have K6:=K4.G Vq K4.lt))
 go_wp2;go_end0;exact⟨rfl,(B0.drew.J (Vp.V Ve)).J (Vq.V (by have:=Vp.size;simp at this;omega))⟩
def UD (w:aw)(tb nb mb:Nat)(types:aA)(k:Int)(s:au)(p:Nat)(H:fw w tb types):
  U8 261 #[.agg #[.map (some tb),.map (some nb),.map (some mb)],.agg #[aa k,ag s,aa p]] w λe w'=>(if pi types k s then e=dY 3 p else e= .returned (.tuple #[]))/\ak w w':=by
 unfold pi;cases hk:(k==1);.simp only[cT,aU,if_false];exact Qs w tb nb mb k s p hk
 .by_cases hl:20<s.size;.simp only[hl,decide_true,dl,dz,if_true];exact JP w tb nb mb k s p hk hl
  .cases hm:fi types s;.simp only[hl,decide_false,dI,dF,dz,if_true];exact JQ w tb nb mb types k s p H hk Vc hm
   .simp only[hl,decide_false,dA,da,cU,aU,if_false];exact Qt w tb nb mb types k s p H hk Vc hm
def pj (nums:aB)(n:Nat):Bool:=decide (n<1)||(decide (536870911<n)||Bp nums n)
def UE (w:aw)(tb nb mb:Nat)(k:Int)(s:au)(p:Nat)(hok:lg s)(hg:GOK w)(nums:aB)(H:iB w mb nums)(hl:nums.length<5000):
  Calls prog 262 #[.agg #[.map (some tb),.map (some nb),.map (some mb)],.agg #[aa k,ag s,aa p]] w λe w'=>if pj nums (jc s)then e=dY 3 p/\ak w w' else e= .returned (.tuple #[])/\iB w' mb (nums++ [jc s])/\ec [mb] w w':=by
 have⟨B0,Vs,Vt⟩:=gY w #[.map (some tb),.map (some nb),.map (some mb)] #[aa k,ag s,aa p] 306 148;have⟨r1,r2⟩:=Vs.I;have⟨r3,r4⟩:=Vt.I;obtain⟨n,HN⟩:∃n,Hid (jc s=n):=⟨_,rfl⟩;have Vu:Hid (n<2^64):=by have:=NW s;rw[HN.o]at this;exact this
 rw[HN.o];obtain⟨q,hq⟩:=Y9 (pj nums n);rw[hq]
 have hc:((n:Int)<1/\q=true)\/(decide ((n:Int)<1)=false/\(536870911:Int)<(n:Int)/\q=true)\/(decide ((n:Int)<1)=false/\decide ((536870911:Int)<(n:Int))=false/\Bp nums n=q):=by
  rw[<-hq];unfold pj;by_cases h1:n<1;.exact .inl ⟨Vc,by simp[h1]⟩
  .by_cases h2:536870911<n;.exact .inr (.inl ⟨Ve,Vc,by simp[h2]⟩)
   .exact .inr (.inr ⟨Ve,Ve,by simp[h1,h2]⟩)
 clear hq;go_in
 go_wp2_with fail;refine(Td _ k s p hok (hg.O (B0.block _ hg.lt))).V ?_;rw[HN.o];rintro e w2 ⟨rfl,Vr⟩;have KC:=Vs.G Vr Ve;have KW:=Vt.G Vr Vd;have B2:ak w w2:=B0.J (Vr.V Ve);have z2:w.heap.size+1<w2.heap.size:=KW.lt;have HS:Hid (∀W,ak w2 W->W.cell? (aj w.heap.size 2)=some (.map (some mb))/\W.cell? (aj (w.heap.size+1) 0)=some (aa k)/\W.cell? (aj (w.heap.size+1) 1)=some (ag s)/\W.cell? (aj (w.heap.size+1) 2)=some (aa p)):=λW hW=>⟨(KC.G hW KC.lt).cell 2,(KW.G hW KW.lt).cell 0,(KW.G hW KW.lt).cell 1,(KW.G hW KW.lt).cell 2⟩
 have D2:=(Va w2).drew;clear r1 r2 r3 r4 Vs Vt B0 Vr;go_wp2_with fail;have H2:iB w2.drew mb nums:=H.O (B2.block _ H.lt);have Vp:=UA _ mb nums n H2 Vu.o;rcases hc with⟨hd,rfl⟩|⟨Vw,Vx,rfl⟩|⟨Vw,Vx,hm⟩;rotate_right;rw[hm]at Vp;cases q
 .go_region_held3 (λw'=>w'.cell? (aj w.heap.size 2)=some (.map (some mb))/\w'.cell? (aj (w.heap.size+1) 0)=some (aa k)/\w'.cell? (aj (w.heap.size+1) 1)=some (ag s)/\w'.cell? (aj (w.heap.size+1) 2)=some (aa p))
   (first|exact HS.o _ (dU b3 Vv)|exact HS.o _ b3|exact HS.o _ D2)
   (first|(go_at_call 342;refine Vp.V ?_;rintro e w3 ⟨rfl,Vq⟩;have b3:=dU D2 Vq)|(go_at_call 123;refine(rX _ k s p).V ?_;rintro e w4 ⟨rfl,Vv⟩))
  have b4:=dU b3 Vv;have Hk:ak w w4:=dU B2 b4;have H4:iB w4 mb nums:=H.O (Hk.block _ H.lt);have⟨k1,k2⟩:=(KC.G b4 KC.lt).I;go_wp2_with fail;refine(Uz _ mb nums n H4 Vj Vu.o).V ?_;rintro e w5 ⟨rfl,H5,Vy⟩;go_wp2;go_end0;exact⟨rfl,H5,(ec.oB Hk).J Vy⟩
 all_goals refine wp_region_held_drew (S:=λw'=>w'.cell? (aj w.heap.size 2)=some (.map (some mb))/\w'.cell? (aj (w.heap.size+1) 0)=some (aa k)/\w'.cell? (aj (w.heap.size+1) 1)=some (ag s)/\w'.cell? (aj (w.heap.size+1) 2)=some (aa p)) Vh ⟨KC.cell 2,KW.cell 0,KW.cell 1,KW.cell 2⟩ (λhHeld=> ?_)
 .refine U2 0 (.int .u64 (n:Int)) hHeld ?_;simp only[Act.put,U6];refine U2 1 (.bool false) hHeld ?_;simp only[Act.put,U6];refine U2 2 (.bool false) hHeld ?_;simp only[Act.put,U6];refine U2 3 (.int .u64 (n:Int)) hHeld ?_;simp only[Act.put,U6];refine U2 4 (.bool false) hHeld ?_;simp only[Act.put,U6];refine U2 5 (.bool false) hHeld ?_;simp only[Act.put,U6];refine U2 6 (.bool false) hHeld ?_;simp only[Act.put,U6];refine U2 7 (.pointer (some (aj w.heap.size 2))) hHeld ?_;simp only[Act.put,U6];refine U2 8 (.map (some mb)) hHeld ?_;simp only[Act.put,U6];refine U2 9 (.int .u64 (n:Int)) hHeld ?_;simp only[Act.put,U6];refine U2 12 (.agg #[aa k,ag s,aa p]) hHeld ?_;simp only[Act.put,U6];refine wpAnyH_ready (rs:= [10]) Vh Vd (AllReadyH.cons rfl (λK hK=> ?_) AllReadyH.nil);go_simp;refine Vp.V ?_;rintro e w3 ⟨rfl,Vq⟩;have K3:=KC.drew.G Vq KC.lt;have K4:=KW.drew.G Vq KW.lt;clear hHeld;refine hK.out _ _ ⟨K3.cell 2,K4.cell 0,K4.cell 1,K4.cell 2⟩ (λhHeld=> ?_);clear hK K;refine U2 11 (.bool true) hHeld ?_;simp only[Act.put,U6];refine wpAnyH_ready (rs:= [13]) Vh Vd (AllReadyH.cons rfl (λK hK=> ?_) AllReadyH.nil);clear hK;go_simp;refine(ld _ k s p).V ?_;rintro e w4 ⟨rfl,hb⟩;exact⟨rfl,rfl,(B2.drew.J (Vq.V Ve)).J (hb.V (by have:=Vq.size;simp at this;omega))⟩
 .refine U2 0 (.int .u64 (n:Int)) hHeld ?_;simp only[Act.put,U6];refine U2 1 (.bool true) hHeld ?_;simp only[Act.put,U6];refine U2 2 (.bool true) hHeld ?_;simp only[Act.put,U6];refine U3 3 undef hHeld ?_;simp only[Act.put,U6];refine U3 4 undef hHeld ?_;simp only[Act.put,U6];refine U2 5 (.bool true) hHeld ?_;simp only[Act.put,U6];refine U2 6 (.bool true) hHeld ?_;simp only[Act.put,U6];refine U3 7 undef hHeld ?_;simp only[Act.put,U6];refine U3 8 undef hHeld ?_;simp only[Act.put,U6];refine U3 9 undef hHeld ?_;simp only[Act.put,U6];refine U3 10 undef hHeld ?_;simp only[Act.put,U6];refine U2 11 (.bool true) hHeld ?_;simp only[Act.put,U6];refine U2 12 (.agg #[aa k,ag s,aa p]) hHeld ?_;simp only[Act.put,U6];refine wpAnyH_ready (rs:= [13]) Vh Vd (AllReadyH.cons rfl (λK hK=> ?_) AllReadyH.nil);clear hK;go_simp;refine(ld _ k s p).V ?_;rintro e w4 ⟨rfl,hb⟩;exact⟨rfl,rfl,B2.drew.J (hb.V Ve)⟩
 .refine U2 0 (.int .u64 (n:Int)) hHeld ?_;simp only[Act.put,U6];refine U2 1 (.bool false) hHeld ?_;simp only[Act.put,U6];refine U2 2 (.bool false) hHeld ?_;simp only[Act.put,U6];refine U2 3 (.int .u64 (n:Int)) hHeld ?_;simp only[Act.put,U6];refine U2 4 (.bool true) hHeld ?_;simp only[Act.put,U6];refine U2 5 (.bool true) hHeld ?_;simp only[Act.put,U6];refine U2 6 (.bool true) hHeld ?_;simp only[Act.put,U6];refine U3 7 undef hHeld ?_;simp only[Act.put,U6];refine U3 8 undef hHeld ?_;simp only[Act.put,U6];refine U3 9 undef hHeld ?_;simp only[Act.put,U6];refine U3 10 undef hHeld ?_;simp only[Act.put,U6];refine U2 11 (.bool true) hHeld ?_;simp only[Act.put,U6];refine U2 12 (.agg #[aa k,ag s,aa p]) hHeld ?_;simp only[Act.put,U6];refine wpAnyH_ready (rs:= [13]) Vh Vd (AllReadyH.cons rfl (λK hK=> ?_) AllReadyH.nil);clear hK;go_simp;refine(ld _ k s p).V ?_;rintro e w4 ⟨rfl,hb⟩;exact⟨rfl,rfl,B2.drew.J (hb.V Ve)⟩
def JR (l:aB)(h:l.Nodup):Maps.size (setOf (H:=Unit) (.agg []) (l.map rG))=l.length:=by
 rw[size_setOf _ _ (by intro x hx;obtain⟨y,_,rfl⟩:=aR.1 hx;exact trivial)]
 have key:∀(l acc:aB),(acc++l).Nodup->((l.map rG).foldl addKey (acc.map rG))=(acc++l).map rG:=by
  intro l
  induction l with
  |nil=>intro acc _;simp
  |cons x l ih=>
   intro acc Vw;have hx:(acc.map rG).any (λy=>y.sameKey (rG x))=false:=(by rw[List.any_map,dJ];intro y hy;have hne:y≠x:=(by rintro rfl;have:=dK.1 Vw;exact this.2.2 _ hy _ Vd rfl);show¬decide (IntKind.u64=IntKind.u64/\(y:Int)=(x:Int))=true;simp;omega);have e:addKey (acc.map rG) (rG x)=(acc++ [x]).map rG:=(by unfold addKey;simp[hx]);rw[bK,List.foldl_cons,e,ih (acc++ [x]) (by simpa using Vw)];simp
 have:=key l [] (by simpa using h);simp only[dm,aX]at this;rw[this];simp
def kH (types names:aA)(nums:aB)(tk:Int)(ts:au)(tp:Nat)(ns:au)(np:Nat)(ms:au)(mp:Nat):Except Nat (aA×aB):=
 if pi types tk ts then .error tp
 else if iR names ns then .error np
 else if decide (12<=nums.length)then .error np
 else if pj nums (jc ms)then .error mp
 else .ok (names++ [ns],nums++ [jc ms])
def vk (types names:aA)(nums:aB)(form kk:Int)(ks:au)(kp:Nat)(tk:Int)(ts:au)(tp:Nat)(ns:au)(np:Nat)(ms:au)(mp:Nat):Except Nat (aA×aB):=
 if form==4&& !ig kk ks then .error kp else kH types names nums tk ts tp ns np ms mp
def Sn (nb mb:Nat)(w:aw)(r:Except Nat (aA×aB))(e:Ending)(w':aw):Prop:=
 match r with
 | .error p=>e=dY 3 p/\ec [nb,mb] w w'
 | .ok (names,nums)=>e= .returned (.tuple #[])/\fw w' nb names/\iB w' mb nums/\ec [nb,mb] w w'
def UF (w:aw)(tb nb mb:Nat)(types names:aA)(nums:aB)(form kk:Int)(ks:au)(kp:Nat)(tk:Int)(ts:au)(tp:Nat)(nk:Int)(ns:au)(np:Nat)(mk:Int)(ms:au)(mp:Nat)(HT:fw w tb types)(HN:fw w nb names)(HM:iB w mb nums)(d3:nb≠mb)(g1:5≠nb)(hln:names.length<5000)(hlm:nums.length<5000)(Vw:nums.Nodup)(hok:lg ms)(hg:GOK w):
  Calls prog 180 #[.agg #[.map (some tb),.map (some nb),.map (some mb)],.agg #[aa form,aa kk,ag ks,aa kp,aa tk,ag ts,aa tp,aa nk,ag ns,aa np,aa mk,ag ms,aa mp]] w (Sn nb mb w (vk types names nums form kk ks kp tk ts tp ns np ms mp)):=by
 obtain⟨r,HQ⟩:∃r,Hid ((if form==4&& !ig kk ks then .error kp else kH types names nums tk ts tp ns np ms mp)=r):=⟨_,rfl⟩;rw[show vk types names nums form kk ks kp tk ts tp ns np ms mp=r from HQ.o]
 have hf:(form==4)=false\/((form==4)=true/\ig kk ks=true)\/((form==4)=true/\ig kk ks=false):=by
  generalize(form==4)=x;generalize ig kk ks=y
  revert x y;decide
 have⟨B0,Vx,Vq⟩:=gY w #[.map (some tb),.map (some nb),.map (some mb)] #[aa form,aa kk,ag ks,aa kp,aa tk,ag ts,aa tp,aa nk,ag ns,aa np,aa mk,ag ms,aa mp] 306 211;have⟨r1,r2⟩:=Vx.I;have⟨r3,r4⟩:=Vq.I;have VL:=HT.lt;have VE:=HN.lt;have VC:=HM.lt;go_in
 rcases hf with hf|⟨hf,Vy⟩|⟨hf,Vy⟩;have HR:Hid (kH types names nums tk ts tp ns np ms mp=r):=by have:=HQ.o;rw[hf]at this;exact this
 have B2:=B0;have KC:=Vx;have KF:=Vq;clear r1 r2 r3 r4;rotate_left;have HR:Hid (kH types names nums tk ts tp ns np ms mp=r):=by have:=HQ.o;rw[hf,Vy]at this;exact this
 focus
  go_wp2
  go_region_held3 (λw'=>w'.cell? (aj (w.heap.size+1) 1)=some (aa kk)/\w'.cell? (aj (w.heap.size+1) 2)=some (ag ks)/\w'.cell? (aj (w.heap.size+1) 3)=some (aa kp))
   (first|exact⟨K5.cell 1,K5.cell 2,K5.cell 3⟩|exact⟨K3.cell 1,K3.cell 2,K3.cell 3⟩|exact⟨Vq.cell 1,Vq.cell 2,Vq.cell 3⟩)
   (first|(go_at_call 260;refine(Uf _ kk ks kp).V ?_;rw[Vy];rintro e w3 ⟨rfl,Vp⟩;have K3:=Vq.drew.G Vp Vq.lt)|(go_at_call 123;refine(rX _ kk ks kp).V ?_;rintro e w2 ⟨rfl,Vs⟩;have K5:=K3.G Vs K3.lt))
  have B2:ak w w2:=(B0.drew.J (Vp.V Ve)).J (Vs.V (by have:=Vp.size;simp at this;omega));have KC:=(Vx.drew.G Vp Vx.lt).G Vs (by have:=Vp.size;simp at this;omega);have KF:=K5;clear r1 r2 r3 r4 K3 K5 Vp Vs B0 Vx Vq
 rotate_left
 .obtain rfl:r= .error kp:=by rw[<-HQ.o,hf,Vy];rfl
  go_wp2;refine wp_region_held_drew (S:=λw'=>w'.cell? (aj (w.heap.size+1) 1)=some (aa kk)/\w'.cell? (aj (w.heap.size+1) 2)=some (ag ks)/\w'.cell? (aj (w.heap.size+1) 3)=some (aa kp)) Vh ⟨Vq.cell 1,Vq.cell 2,Vq.cell 3⟩ (λhHeld=> ?_);refine U1 0 (.pointer (some (aj (w.heap.size+1) 1))) hHeld ?_;simp only[Act.put,U6];refine U1 1 (.agg #[aa kk,ag ks,aa kp]) hHeld ?_;simp only[Act.put,U6];refine U1 4 (.pointer (some (aj (w.heap.size+1) 1))) hHeld ?_;simp only[Act.put,U6];refine U1 5 (.agg #[aa kk,ag ks,aa kp]) hHeld ?_;simp only[Act.put,U6];refine wpAnyH_ready (rs:= [2]) Vh Vd (AllReadyH.cons rfl (λK hK=> ?_) AllReadyH.nil);clear r1 r2 r3 r4;go_simp;refine(Uf _ kk ks kp).V ?_;rw[Vy];rintro e w3 ⟨rfl,Vp⟩;have K3:=Vq.drew.G Vp Vq.lt;clear hHeld;refine hK.out _ _ ⟨K3.cell 1,K3.cell 2,K3.cell 3⟩ (λhHeld=> ?_);clear hK K;refine U1 3 (.bool true) hHeld ?_;simp only[Act.put,U6];refine wpAnyH_ready (rs:= [6]) Vh Vd (AllReadyH.cons rfl (λK hK=> ?_) AllReadyH.nil);clear hK;go_simp;refine(ld _ kk ks kp).V ?_;rintro e w4 ⟨rfl,hb⟩;exact⟨rfl,rfl,ec.oB ((B0.drew.J (Vp.V Ve)).J (hb.V (by have:=Vp.size;simp at this;omega)))⟩
 all_goals
  have VF:=HT.O (B2.block _ VL);have VM:=HN.O (B2.block _ VE);have VN:=HM.O (B2.block _ VC);have VO:=hg.O (B2.block _ hg.lt);have z2:=KF.lt;have⟨r1,r2⟩:=KC.I;have⟨r3,r4⟩:=KF.I;go_wp2_with fail;clear r1 r2 r3 r4;refine(UD _ tb nb mb types tk ts tp VF).V ?_;cases h1:pi types tk ts;rotate_left
  .rintro e w3 ⟨he,Vp⟩;obtain rfl:e=dY 3 tp:=by simpa using he
   obtain rfl:r= .error tp:=by rw[<-HR.o,kH];simp only[h1,if_true]
   unfold dY;go_wp2;exact⟨rfl,rfl,ec.oB (B2.J (Vp.V B2.size))⟩
  rintro e w3 ⟨he,Vp⟩;obtain rfl:e= .returned (.tuple #[]):=by simpa using he
  have B3:=B2.J (Vp.V B2.size);have VA:=KC.G Vp KC.lt;have Vt:=KF.G Vp KF.lt;have VG:fw w3 nb names:=HN.O (B3.block _ VE);have z3:=Vt.lt;clear KC KF Vp VF VM VN VO;have⟨r1,r2⟩:=VA.I;have⟨r3,r4⟩:=Vt.I;go_wp2_with fail;clear r1 r2 r3 r4;refine(Tc _ nb names nk ns np VG hln).V ?_;cases h2:iR names ns;rotate_left
  .rintro e w4 ⟨rfl,Vs⟩;obtain rfl:r= .error np:=by rw[<-HR.o,kH];simp only[h1,h2,if_true,aU,if_false]
   unfold dY;go_wp2;exact⟨rfl,rfl,ec.oB (B3.J (Vs.V B3.size))⟩
  rintro e w4 ⟨rfl,VJ,Vz⟩;have e1:w.heap.size≠nb:=Vc;have e2:w.heap.size+1≠nb:=Vc;have C4:ec [nb,mb] w w4:=(ec.oB B3).J (Vz.V Vd);have VB:dX w4 w.heap.size #[.map (some tb),.map (some nb),.map (some mb)] 306:=(Vz.block _ VA.lt (by simpa using e1)).J VA;have Vu:dX w4 (w.heap.size+1) #[aa form,aa kk,ag ks,aa kp,aa tk,ag ts,aa tp,aa nk,ag ns,aa np,aa mk,ag ms,aa mp] 211:=(Vz.block _ Vt.lt (by simpa using e2)).J Vt;have VD:iB w4 mb nums:=HM.O ((Vz.block _ (aI VC B3.size) (by simpa using λe=>d3 e.sy)).J (B3.block _ VC));have VH:GOK w4:=hg.O ((Vz.block _ (aI hg.lt B3.size) (by simpa using g1)).J (B3.block _ hg.lt));have Vv:w4.ownsMap prog 53 (unitElem (H:=Unit)) mb nums.length (setOf (.agg []) (nums.map rG)):=VD;have z4:=Vu.lt;clear VA Vt VG;have⟨r1,r2⟩:=VB.I;have⟨r3,r4⟩:=Vu.I;cases h3:decide (12<=nums.length);rotate_left
  .have hd:(12:Int)<=(nums.length:Int):=by have:=of_decide_eq_true h3;omega
   obtain rfl:r= .error np:=by rw[<-HR.o,kH];simp only[h1,h2,h3,if_true,aU,if_false]
   go_wp2_with (at_len;refine wpList_len_own _ rfl _ 304 rfl 53 162 underlying304 _ mb _ _ rfl Vv ?_;rw[JR nums Vw])
   refine(ld _ nk ns np).V ?_;rintro e w5 ⟨rfl,Vr⟩;unfold dY;go_wp2;exact⟨rfl,rfl,C4.J (ec.oB Vr)⟩
  have hd:decide ((12:Int)<=(nums.length:Int))=false:=by have:=of_decide_eq_false h3;simp;omega
  go_wp2_with (at_len;refine wpList_len_own _ rfl _ 304 rfl 53 162 underlying304 _ mb _ _ rfl Vv ?_;rw[JR nums Vw])
  refine(rX _ nk ns np).V ?_;rintro e w5 ⟨rfl,Vr⟩;have C5:=C4.J (ec.oB Vr);have VP:=VB.G Vr VB.lt;have VQ:=Vu.G Vr Vu.lt;have VI:=VJ.O (Vr.block _ VJ.lt);have VR:=VD.O (Vr.block _ VD.lt);have VS:=VH.O (Vr.block _ VH.lt);clear VB Vu r1 r2 r3 r4 hd;have⟨r1,r2⟩:=VP.I;have⟨r3,r4⟩:=VQ.I;go_wp2_with fail;clear r1 r2 r3 r4;refine(UE _ tb nb mb mk ms mp hok VS nums VR hlm).V ?_;cases h4:pj nums (jc ms);rotate_left
  .rintro e w6 ⟨rfl,VT⟩;obtain rfl:r= .error mp:=by rw[<-HR.o,kH];simp only[h1,h2,h3,h4,if_true,aU,if_false]
   unfold dY;go_wp2;exact⟨rfl,rfl,C5.J (ec.oB VT)⟩
  rintro e w6 ⟨rfl,VU,VK⟩;obtain rfl:r= .ok (names++ [ns],nums++ [jc ms]):=by rw[<-HR.o,kH];simp only[h1,h2,h3,h4,aU,if_false]
  go_wp2;go_end0;exact⟨rfl,VI.O (VK.block _ VI.lt (by simpa using d3)),VU,C5.J (VK.V Vd)⟩
def qQ (x:W×W):(Fd x).length=6:=rfl
def lp:List ByteArray->List (W×W)->Except Nat (List ByteArray)
 |names,[]=> .ok names
 |names,v::vs=>if iR names v.1.1 then .error v.1.2 else if decide (2147483647<jc v.2.1)then .error v.2.2 else lp (names++ [v.1.1]) vs
def Bq {α:Type}(r:Except Nat α)(e:Ending):Prop:=
 match r with
 | .error p=>e=dY 3 p
 | .ok _=>e= .returned (.tuple #[])
def UG (w:World)(eb:Bool)(bk:Int)(bs:ByteArray)(bp:Nat)(pa:Option Addr)(pn pc:Nat)(va:Option Addr)(vn vc:Nat)(vs:List (W×W))(hrow:w.ownsRow 0 302 6 (.slice va vn vc) vs.length (vs.flatMap Fd))(hlen:vs.length<=2001)(hnum:∀v∈vs,lg v.2.1)(hg:GOK w):
  Calls prog 122 #[.agg #[.bool eb,.int .i64 bk,.string bs,.int .i64 bp,.slice pa pn pc,.slice va vn vc]] w λe w'=>Bq (lp [] vs) e/\Below w.heap.size w w':=by
 have VF:=fh hrow;subst VF;have hmm:= @run_makeMap prog;have C0:Below w.heap.size w ((w.alloc (Obj.cells #[.bool eb,.int .i64 bk,.string bs,.int .i64 bp,.slice pa pn pc,.slice va vs.length vc] 152)).alloc (Obj.map #[] 0)):=(Vb w _).alloc Vd _;have M0:fw ((w.U5 #[.bool eb,.int .i64 bk,.string bs,.int .i64 bp,.slice pa pn pc,.slice va vs.length vc] 152).alloc (Obj.map #[] 0)) (w.heap.size+1) []:=(by have:=World.ownsMap_made (w.U5 #[.bool eb,.int .i64 bk,.string bs,.int .i64 bp,.slice pa pn pc,.slice va vs.length vc] 152) prog 9 (unitElem (H:=Unit));simpa [fw,setOf]using this);have zz:((w.alloc (Obj.cells #[.bool eb,.int .i64 bk,.string bs,.int .i64 bp,.slice pa pn pc,.slice va vs.length vc] 152)).alloc (Obj.map #[] 0)).heap.size=w.heap.size+2:=Vd;generalize hr:lp [] vs=r;have HR:Hid (lp [] vs=r):=hr;clear hr;go_in
 go_wp2;go_loopw [9] (λi wr=>∃(k:Nat) (names:List ByteArray),k<=vs.length/\i= .int .i64 k/\names.length<=k/\Hid (lp names (vs.drop k)=r)/\fw wr (w.heap.size+1) names/\Below w.heap.size w wr/\w.heap.size+1<wr.heap.size) (λi _=>vs.length-(intOf i).toNat)
 case atStart=>exact⟨0,[],aP _,rfl,Vd,HR,M0,C0,Vc⟩
 case round=>
  clear M0 C0 zz;obtain⟨k,names,hk,rfl,hnl,HP,HS,CC,hz⟩:=hrel;by_cases hlt:k<vs.length
  .have⟨v,hv⟩:=gx hlt;have Vy:v∈vs:=aL hv;have Vq:vs.drop k=v::vs.drop (k+1):=(by rw[be hlt];rw[aO hlt]at hv;rw[Option.some.inj hv]);have Vx:Hid (lp names (v::vs.drop (k+1))=r):=by rw[<-Vq];exact HP
   obtain⟨g,rfl,_,VH,Vs⟩:=eH hrow Vc;have Vt:=Vs wr (CC.block g VH);have q0:=Vt (k*6) _ ((fY Fd 6 qQ vs k v hv 0 Vc).J rfl);have q1:=Vt (k*6+1) _ ((fY Fd 6 qQ vs k v hv 1 Vc).J rfl);have q2:=Vt (k*6+2) _ ((fY Fd 6 qQ vs k v hv 2 Vc).J rfl);have q3:=Vt (k*6+3) _ ((fY Fd 6 qQ vs k v hv 3 Vc).J rfl);have q4:=Vt (k*6+4) _ ((fY Fd 6 qQ vs k v hv 4 Vc).J rfl);have q5:=Vt (k*6+5) _ ((fY Fd 6 qQ vs k v hv 5 Vc).J rfl);have Vz:=hnum v Vy;have KV:=dX.new wr #[.int .i64 (dV v.1.1),.string v.1.1,.int .i64 v.1.2,.int .i64 (dV v.2.1),.string v.2.1,.int .i64 v.2.2] 302;have CA:=CC.alloc CC.size (Obj.cells #[.int .i64 (dV v.1.1),.string v.1.1,.int .i64 v.1.2,.int .i64 (dV v.2.1),.string v.2.1,.int .i64 v.2.2] 302);have VA:fw (wr.U5 #[.int .i64 (dV v.1.1),.string v.1.1,.int .i64 v.1.2,.int .i64 (dV v.2.1),.string v.2.1,.int .i64 v.2.2] 302) (w.heap.size+1) names:=HS.O (Below.l _ _ _ HS.lt);clear Vs Vt hv Vq HP Vy;go_wp2_with fail;clear q0 q1 q2 q3 q4 q5;refine(Tc _ (w.heap.size+1) names _ v.1.1 v.1.2 VA Vc).V ?_;cases h1:iR names v.1.1;rotate_left
   .rintro e w4 ⟨rfl,VI⟩;obtain rfl:r= .error v.1.2:=by rw[<-Vx.o,lp];simp only[h1,if_true]
    unfold dY;go_wp2;exact⟨rfl,rfl,CA.J (VI.V CA.size)⟩
   rintro e w4 ⟨rfl,VC,VD⟩;have C4:Below w.heap.size w w4:=CA.J (VD.to_below CA.size (by intro x hx;simp at hx;omega));have Vp:dX w4 wr.heap.size #[.int .i64 (dV v.1.1),.string v.1.1,.int .i64 v.1.2,.int .i64 (dV v.2.1),.string v.2.1,.int .i64 v.2.2] 302:=(VD.block _ KV.lt Ve).J KV;have VB:GOK w4:=hg.O (C4.block _ hg.lt);have z4:=Vp.lt;clear KV CA VA;go_wp2_with fail;cases h2:decide (2147483647<jc v.2.1);rotate_left
   .have hd:(2147483647:Int)<((jc v.2.1:Nat):Int):=by have:=of_decide_eq_true h2;omega
    obtain rfl:r= .error v.2.2:=by rw[<-Vx.o,lp];simp only[h1,h2,if_true,aU,if_false]
    refine wp_region_held_drew (S:=λw'=>w'.cell? ⟨wr.heap.size,3,none⟩=some (.int .i64 (dV v.2.1))/\w'.cell? ⟨wr.heap.size,4,none⟩=some (.string v.2.1)/\w'.cell? ⟨wr.heap.size,5,none⟩=some (.int .i64 v.2.2)) Vh ⟨Vp.cell 3,Vp.cell 4,Vp.cell 5⟩ (λhHeld=> ?_);refine U1 0 (.pointer (some ⟨wr.heap.size,3,none⟩)) hHeld ?_;simp only[Act.put,U6];refine U1 1 (.agg #[.int .i64 (dV v.2.1),.string v.2.1,.int .i64 v.2.2]) hHeld ?_;simp only[Act.put,U6];refine U1 4 (.pointer (some ⟨wr.heap.size,3,none⟩)) hHeld ?_;simp only[Act.put,U6];refine U1 5 (.agg #[.int .i64 (dV v.2.1),.string v.2.1,.int .i64 v.2.2]) hHeld ?_;simp only[Act.put,U6];refine wpAnyH_ready (rs:= [2]) Vh Vd (AllReadyH.cons rfl (λK hK=> ?_) AllReadyH.nil);go_simp;refine(Td _ _ v.2.1 v.2.2 Vz (VB.O (w':=w4.drew) rfl)).V ?_;rintro e w5 ⟨rfl,Vv⟩;have K5:=Vp.drew.G Vv Vp.lt;clear hHeld;refine hK.out _ _ ⟨K5.cell 3,K5.cell 4,K5.cell 5⟩ (λhHeld=> ?_);clear hK K;refine U1 3 (.bool true) hHeld ?_;simp only[Act.put,U6];refine wpAnyH_ready (rs:= [6]) Vh Vd (AllReadyH.cons rfl (λK hK=> ?_) AllReadyH.nil);clear hK;go_simp;refine(ld _ _ v.2.1 v.2.2).V ?_;rintro e w6 ⟨rfl,hb⟩;exact⟨rfl,rfl,(C4.drew.J (Vv.V C4.size)).J (hb.V (aM C4.size Vv.size))⟩
   have hd:decide ((2147483647:Int)<((jc v.2.1:Nat):Int))=false:=by have:=of_decide_eq_false h2;simp;omega
   have VG:Hid (lp (names++ [v.1.1]) (vs.drop (k+1))=r):=(by have:=Vx.o;rw[lp]at this;simp only[h1,h2,aU,if_false]at this;exact this)
   go_region_held3 (λw'=>w'.cell? ⟨wr.heap.size,3,none⟩=some (.int .i64 (dV v.2.1))/\w'.cell? ⟨wr.heap.size,4,none⟩=some (.string v.2.1)/\w'.cell? ⟨wr.heap.size,5,none⟩=some (.int .i64 v.2.2))
    (first|exact⟨K6.cell 3,K6.cell 4,K6.cell 5⟩|exact⟨K5.cell 3,K5.cell 4,K5.cell 5⟩|exact⟨Vp.cell 3,Vp.cell 4,Vp.cell 5⟩)
    (first|(go_at_call 165;refine(Td _ _ v.2.1 v.2.2 Vz (VB.O (w':=w4.drew) rfl)).V ?_;rintro e w5 ⟨rfl,Vv⟩;have K5:=Vp.drew.G Vv Vp.lt)|(go_at_call 123;refine(rX _ _ v.2.1 v.2.2).V ?_;rintro e w6 ⟨rfl,VE⟩;have K6:=K5.G VE K5.lt))
   go_wp2;go_roundw
   case rel=>
    go_light;have Vw:Below w4.heap.size w4 w5:=(Va w4).drew.J Vv;have Vu:Below w4.heap.size w4 w6:=Vw.J (VE.V Vw.size);refine⟨k+1,names++ [v.1.1],Vc,by go_num,Ve,VG,VC.O (Vu.block _ VC.lt),C4.J (Vu.V C4.size),?_⟩;have:=Vu.size;omega
   case measure=>go_light;simp[intOf];omega
  .have Vr:vs.drop k= []:=by rw[cS];omega
   obtain rfl:r= .ok names:=by rw[<-HP.o,Vr];rfl
   clear Vr;go_wp2;go_end0;exact⟨rfl,CC⟩
def Qu (f:eU):sF f= [aa f.form,aa (mU f.key),ag (jK f.key),aa (nS f.key),aa (dV f.type.1),ag f.type.1,aa f.type.2,aa (dV f.name.1),ag f.name.1,aa f.name.2,aa (dV f.num.1),ag f.num.1,aa f.num.2]:=by
 obtain⟨form,key,ty,nm,nu⟩:=f;cases key<;>rfl
def xu {w:aw}{g:Nat}{fs:List eU}{j:Nat}{f:eU}(hf:fs[j]?=some f)(h:∀(i:Nat) v,(fs.flatMap sF)[i]?=some v->w.cell? (aj g i)=some v):
  w.cell? (aj g (j*13))=some (aa f.form)/\w.cell? (aj g (j*13+1))=some (aa (mU f.key))/\w.cell? (aj g (j*13+2))=some (ag (jK f.key))/\w.cell? (aj g (j*13+3))=some (aa (nS f.key))/\w.cell? (aj g (j*13+4))=some (aa (dV f.type.1))/\w.cell? (aj g (j*13+5))=some (ag f.type.1)/\w.cell? (aj g (j*13+6))=some (aa f.type.2)/\w.cell? (aj g (j*13+7))=some (aa (dV f.name.1))/\w.cell? (aj g (j*13+8))=some (ag f.name.1)/\w.cell? (aj g (j*13+9))=some (aa f.name.2)/\w.cell? (aj g (j*13+10))=some (aa (dV f.num.1))/\w.cell? (aj g (j*13+11))=some (ag f.num.1)/\w.cell? (aj g (j*13+12))=some (aa f.num.2):=by
 have hg:=λ(i:Nat) hi=>fY sF 13 NR fs j f hf i hi
 rw[Qu]at hg;refine⟨h _ _ (hg 0 Vc),h _ _ (hg 1 Vc),h _ _ (hg 2 Vc),h _ _ (hg 3 Vc),h _ _ (hg 4 Vc),h _ _ (hg 5 Vc),h _ _ (hg 6 Vc),h _ _ (hg 7 Vc),h _ _ (hg 8 Vc),h _ _ (hg 9 Vc),h _ _ (hg 10 Vc),h _ _ (hg 11 Vc),h _ _ (hg 12 Vc)⟩
def fL.get {w:aw}{S:ax}:∀{ps:List fI} {cs:ay} {i:Nat} {p:fI},fL w S cs ps->ps[i]?=some p->∃fa fn fc,
   cs[i*4]?=some (aa (mU p.oneof))/\cs[i*4+1]?=some (ag (jK p.oneof))/\cs[i*4+2]?=some (aa (nS p.oneof))/\cs[i*4+3]?=some (.slice fa fn fc)/\
   eO w S 211 13 (.slice fa fn fc) p.fields.length (p.fields.flatMap sF)
 | [],_,_,_,_,h=>by simp at h
 |q::ps,cs,0,p,⟨fa,fn,fc,rest,h1,h2,h3⟩,h=>by
  simp at h;subst h h1
  exact⟨fa,fn,fc,rfl,rfl,rfl,rfl,h2⟩
 |q::ps,cs,i+1,p,⟨fa,fn,fc,rest,h1,h2,h3⟩,h=>by
  subst h1;obtain⟨ga,gn,gc,e0,e1,e2,e3,e4⟩:=fL.get h3 (i:=i) (by simpa using h);have e:(i+1)*4=i*4+1+1+1+1:=Vc;refine⟨ga,gn,gc,?_,?_,?_,?_,e4⟩;.rw[e];simpa using e0
  .rw[show(i+1)*4+1=(i*4+1)+1+1+1+1 from by omega];simpa using e1
  .rw[show(i+1)*4+2=(i*4+2)+1+1+1+1 from by omega];simpa using e2
  .rw[show(i+1)*4+3=(i*4+3)+1+1+1+1 from by omega];simpa using e3
def nT (types names:aA)(nums:aB)(f:eU):Except Nat (aA×aB):=
 vk types names nums f.form (mU f.key) (jK f.key) (nS f.key) (dV f.type.1) f.type.1 f.type.2 f.name.1 f.name.2 f.num.1 f.num.2
def gy (types:aA):aA->aB->List eU->Except Nat (aA×aB)
 |names,nums,[]=> .ok (names,nums)
 |names,nums,f::fs=>
  match nT types names nums f with
  | .error p=> .error p
  | .ok (n,m)=>gy types n m fs
def m9 (types names:aA)(nums:aB)(p:fI):Except Nat (aA×aB):=
 if mU p.oneof==1 then
  if iR names (jK p.oneof)then .error (nS p.oneof)else gy types (names++ [jK p.oneof]) nums p.fields
 else gy types names nums p.fields
def gQ (types:aA):aA->aB->List fI->Except Nat (aA×aB)
 |names,nums,[]=> .ok (names,nums)
 |names,nums,p::ps=>
  match m9 types names nums p with
  | .error q=> .error q
  | .ok (n,m)=>gQ types n m ps
def mK:List fI->Nat
 | []=>0
 |p::ps=>1+p.fields.length+mK ps
def xw:∀ps:List fI,ps.length<=mK ps
 | []=>aE _
 |p::ps=>by have:=xw ps;simp only[bw,mK];omega
def xy {types names:aA}{nums:aB}{f:eU}{n:aA}{m:aB}(h:nT types names nums f= .ok (n,m))(Vy:nums.Nodup):
  n.length=names.length+1/\m.length=nums.length+1/\m.Nodup:=by
 unfold nT vk kH at h;split at h;.simp at h
 .split at h;.simp at h
  .split at h;.simp at h
   .split at h;.simp at h
    .split at h;.simp at h
     .rename_i hb;simp at h;obtain⟨rfl,rfl⟩:=h;refine⟨Vd,Vd,?_⟩;have hm:Bp nums (jc f.num.1)=false:=(by unfold pj at hb;simp at hb;exact hb.2.2);rw[dK];refine⟨Vy,Vd,λa ha b VU=> ?_⟩;simp at VU;subst VU;rintro rfl;unfold Bp at hm;rw[dJ]at hm;exact hm _ ha Vd
def Y7 {w W:aw}{a:Obj}{cs:aq}{T:TypeId}(h:(((w.alloc a).alloc (Obj.map #[] 0)).alloc (Obj.map #[] 0)).alloc (Obj.cells cs T)=W):ak w W/\fw W (w.heap.size+1) []/\iB W (w.heap.size+1+1) []/\dX W (w.heap.size+1+1+1) cs T:=by
 subst h;refine⟨(((Vb w _).alloc Vd _).alloc Ve _).alloc Ve _,?_,?_,?_⟩;.have:=((World.ownsMap_made (w.alloc a) prog 9 (unitElem (H:=Unit))).alloc (Obj.map #[] 0)).alloc (Obj.cells cs T);simpa [fw,setOf]using this
 .have:=(World.ownsMap_made ((w.alloc a).alloc (Obj.map #[] 0)) prog 53 (unitElem (H:=Unit))).alloc (Obj.cells cs T);simpa [iB,setOf]using this
 .have:=dX.new (((w.alloc a).alloc (Obj.map #[] 0)).alloc (Obj.map #[] 0)) cs T;simpa using this
def UH (w:aw)(tb:Nat)(types:aA)(eb:Bool)(bk:Int)(bs:au)(bp:Nat)(pa:aC)(pn pc:Nat)(va:aC)(vn vc:Nat)(ps:List fI)(pcs:ay)(S:ax)
  (hrow:eO w S 208 4 (.slice pa pn pc) ps.length pcs) (hps:fL w S pcs ps) (HT:fw w tb types) (hlen:mK ps<=2001) (hnum:∀p∈ps,∀f∈p.fields,lg f.num.1) (hg:GOK w):
  Calls prog 124 #[.agg #[.bool eb,aa bk,ag bs,aa bp,.slice pa pn pc,.slice va vn vc],.map (some tb)] w λe w'=>Bq (gQ types [] [] ps) e/\ak w w':=by
 have VX:=fh hrow.1;subst VX;have hmm:= @run_makeMap prog;have VY:=HT.lt;have hpl:ps.length<=2001:=aM (xw ps) hlen;generalize hr:gQ types [] [] ps=r;have HR:Hid (gQ types [] [] ps=r):=hr;clear hr;go_in
 go_wp2;generalize hW:World.alloc _ _=w4;obtain⟨C0,M0,M1,K0⟩:=Y7 hW;clear hW;go_loopw [16] (λi wr=>∃(k:Nat) (names:aA) (nums:aB),k<=ps.length/\i=aa k/\names.length+mK (ps.drop k)<=2001/\nums.length+mK (ps.drop k)<=2001/\nums.Nodup/\Hid (gQ types names nums (ps.drop k)=r)/\fw wr (w.heap.size+1) names/\iB wr (w.heap.size+1+1) nums/\dX wr (w.heap.size+1+1+1) #[.map (some tb),.map (some (w.heap.size+1)),.map (some (w.heap.size+1+1))] 306/\ak w wr) (λi _=>ps.length-(intOf i).toNat)
 case atStart=>exact⟨0,[],[],aP _,rfl,by simpa using hlen,by simpa using hlen,List.nodup_nil,HR,M0,M1,K0,C0⟩
 case round=>
  clear M0 M1 K0 C0;obtain⟨k,names,nums,hk,rfl,VK,VL,Vy,HP,HS,HM,KC,CW⟩:=hrel;by_cases hlt:k<ps.length
  .obtain⟨p,hp⟩:=gx hlt;have VN:p∈ps:=aL hp;have Vp:ps.drop k=p::ps.drop (k+1):=(by rw[be hlt];rw[aO hlt]at hp;rw[Option.some.inj hp]);rw[Vp]at VK VL;simp only[mK]at VK VL;have VH:Hid (gQ types names nums (p::ps.drop (k+1))=r):=by rw[<-Vp];exact HP
   obtain⟨g,rfl,_,We,Vv⟩:=eH hrow.1 Vc;obtain⟨fa,fn,fc,p0,p1,p2,p3,VV⟩:=hps.get hp;have VZ:=fh VV.1;subst VZ;have VB:=Vv wr (CW.block g We);have q0:=VB _ _ p0;have q1:=VB _ _ p1;have q2:=VB _ _ p2;have q3:=VB _ _ p3;have KP:=dX.new wr #[aa (mU p.oneof),ag (jK p.oneof),aa (nS p.oneof),.slice fa p.fields.length fc] 208;have CA:=CW.alloc CW.size (am #[aa (mU p.oneof),ag (jK p.oneof),aa (nS p.oneof),.slice fa p.fields.length fc] 208);have Vz:fw (wr.U5 #[aa (mU p.oneof),ag (jK p.oneof),aa (nS p.oneof),.slice fa p.fields.length fc] 208) (w.heap.size+1) names:=HS.O (Below.l _ _ _ HS.lt);have Vw:iB (wr.U5 #[aa (mU p.oneof),ag (jK p.oneof),aa (nS p.oneof),.slice fa p.fields.length fc] 208) (w.heap.size+1+1) nums:=HM.O (Below.l _ _ _ HM.lt);have Vu:=KC.alloc (am #[aa (mU p.oneof),ag (jK p.oneof),aa (nS p.oneof),.slice fa p.fields.length fc] 208);have zc:=KC.lt;obtain⟨c1,c2⟩:=Vu.I;have VC:=hnum p VN;clear Vv VB hp Vp HP VN p0 p1 p2 p3 HS HM KC;obtain⟨rp,VF⟩:∃rp,Hid (m9 types names nums p=rp):=⟨_,rfl⟩;obtain⟨nn,VA⟩:∃nn,Hid (nn=if mU p.oneof==1 then names++ [jK p.oneof]else names):=⟨_,rfl⟩;cases ho:(mU p.oneof==1);have Vx:Hid (gy types nn nums p.fields=rp):=(by have:=VF.o;unfold m9 at this;simp only[ho,aU,if_false]at this;rw[show nn=names by rw[VA.o,ho];rfl];exact this);have VD:=Vz;rw[show names=nn by rw[VA.o,ho];rfl]at VD;have V0:nn.length<=names.length+1:=by rw[show nn=names by rw[VA.o,ho];rfl];omega
   have VI:=Vw;have KCa:=Vu;have Ca:=CA;go_wp2_with fail;clear Vz Vw Vu CA c1 c2 q0 q1 q2 q3 KP;rotate_left
   focus
    go_wp2_with fail;refine(Tc _ (w.heap.size+1) names _ _ _ Vz Vc).V ?_;cases h1:iR names (jK p.oneof);rotate_left;.rintro e w4 ⟨rfl,Wf⟩;obtain rfl:r= .error (nS p.oneof):=(by rw[<-VH.o,gQ,m9];simp only[ho,h1,if_true]);unfold dY;go_wp2;exact⟨rfl,rfl,CA.J (Wf.V CA.size)⟩
    rintro e w4 ⟨rfl,VW,VE⟩;have Vx:Hid (gy types nn nums p.fields=rp):=(by have:=VF.o;unfold m9 at this;simp only[ho,h1,aU,if_true,if_false]at this;rw[show nn=names++ [jK p.oneof]by rw[VA.o,ho];rfl];exact this);have C4:ak w w4:=CA.J (VE.to_below CA.size (by intro x hx;simp at hx;omega));have VO:dX w4 (w.heap.size+1+1+1) #[.map (some tb),.map (some (w.heap.size+1)),.map (some (w.heap.size+1+1))] 306:=(VE.block _ Vu.lt Ve).J Vu;have VP:dX w4 wr.heap.size #[aa (mU p.oneof),ag (jK p.oneof),aa (nS p.oneof),.slice fa p.fields.length fc] 208:=(VE.block _ KP.lt Ve).J KP;have VQ:iB w4 (w.heap.size+1+1) nums:=Vw.O (VE.block _ Vw.lt Vd);have VD:=VW;rw[show names++ [jK p.oneof]=nn by rw[VA.o,ho];rfl]at VD;have V0:nn.length<=names.length+1:=by rw[show nn=names++ [jK p.oneof]by rw[VA.o,ho];rfl];simp
    have VI:=VQ;have KCa:=VO;have Ca:=C4;obtain⟨y1,y2⟩:=VP.I;clear c1 c2 q0 q1 q2 q3;go_wp2_with fail;clear Vz Vw Vu CA y1 y2 VP VO VQ VW C4 VE KP
   all_goals
    go_loopw [32] (λi wr=>∃(j:Nat) (names:aA) (nums:aB),j<=p.fields.length/\i=aa j/\names.length+(p.fields.length-j)+mK (ps.drop (k+1))<=2001/\nums.length+(p.fields.length-j)+mK (ps.drop (k+1))<=2001/\nums.Nodup/\Hid (gy types names nums (p.fields.drop j)=rp)/\fw wr (w.heap.size+1) names/\iB wr (w.heap.size+1+1) nums/\dX wr (w.heap.size+1+1+1) #[.map (some tb),.map (some (w.heap.size+1)),.map (some (w.heap.size+1+1))] 306/\ak w wr) (λi _=>p.fields.length-(intOf i).toNat)
    case atStart=>exact⟨0,nn,nums,aP _,rfl,Vc,Vc,Vy,Vx,VD,VI,KCa,Ca⟩
    case round=>
     clear VD VI KCa Ca Vx;obtain⟨j,names,nums,hj,rfl,VK,VL,Vy,HQ,HS,HM,KC,CW⟩:=hrel;by_cases hlt2:j<p.fields.length
     .obtain⟨f,hf⟩:=gx hlt2;have VR:f∈p.fields:=aL hf;have Vp:p.fields.drop j=f::p.fields.drop (j+1):=(by rw[be hlt2];rw[aO hlt2]at hf;rw[Option.some.inj hf]);have VS:Hid (gy types names nums (f::p.fields.drop (j+1))=rp):=by rw[<-Vp];exact HQ
      obtain⟨gf,rfl,_,VM,Vs⟩:=eH VV.1 Vc;have VT:=Vs wr (CW.block gf VM);obtain⟨t0,t1,t2,t3,t4,t5,t6,t7,t8,t9,Wh,Wk,Wl⟩:=xu hf VT;have KF:=dX.new wr (FC f) 211;have CA:=CW.alloc CW.size (FO f);have Vz:fw (wr.alloc (FO f)) (w.heap.size+1) names:=HS.O (Below.l _ _ _ HS.lt);have Vw:iB (wr.alloc (FO f)) (w.heap.size+1+1) nums:=HM.O (Below.l _ _ _ HM.lt);have V7:fw (wr.alloc (FO f)) tb types:=HT.O (CA.block _ VY);have V8:GOK (wr.alloc (FO f)):=hg.O (CA.block _ hg.lt);have Vu:=KC.alloc (FO f);have zc:=KC.lt;obtain⟨c1,c2⟩:=Vu.I;have VJ:=VC f VR;clear Vs VT hf Vp HQ VR HS HM KC;go_wp2_with fail;clear t0 t1 t2 t3 t4 t5 t6 t7 t8 t9 Wh Wk Wl c1 c2;refine(UF _ tb (w.heap.size+1) (w.heap.size+1+1) types names nums _ _ _ _ _ _ _ _ _ _ _ _ _ V7 Vz Vw Vc (by have:=hg.lt;omega) Vc Vc Vy VJ V8).V ?_
      cases h5:nT types names nums f with
      |error q=>
       have h6:vk types names nums f.form (mU f.key) (jK f.key) (nS f.key) (dV f.type.1) f.type.1 f.type.2 f.name.1 f.name.2 f.num.1 f.num.2= .error q:=h5;rw[h6];rintro e w5 ⟨rfl,VG⟩;obtain rfl:rp= .error q:=by rw[<-VS.o,gy,h5]
       obtain rfl:r= .error q:=by rw[<-VH.o,gQ,VF.o]
       unfold dY;go_wp2
       exact⟨rfl,rfl,CA.J (VG.to_below CA.size (by intro x hx;simp at hx;omega))⟩
      |ok nm=>
       obtain⟨Vr,Vt⟩:=nm;have h6:vk types names nums f.form (mU f.key) (jK f.key) (nS f.key) (dV f.type.1) f.type.1 f.type.2 f.name.1 f.name.2 f.num.1 f.num.2= .ok (Vr,Vt):=h5;rw[h6];rintro e w5 ⟨rfl,Wm,Wn,VG⟩;obtain⟨l1,l2,l3⟩:=xy h5 Vy;have V9:Hid (gy types Vr Vt (p.fields.drop (j+1))=rp):=(by have:=VS.o;rw[gy,h5]at this;exact this);have C5:ak w w5:=CA.J (VG.to_below CA.size (by intro x hx;simp at hx;omega));have Wb:dX w5 (w.heap.size+1+1+1) #[.map (some tb),.map (some (w.heap.size+1)),.map (some (w.heap.size+1+1))] 306:=(VG.block _ Vu.lt Ve).J Vu;go_wp2;go_roundw
       case rel=>exact⟨j+1,Vr,Vt,Vc,by go_num,Vc,Vc,l3,V9,Wm,Wn,Wb,C5⟩
       case measure=>simp[intOf];omega
     .have Vq:p.fields.drop j= []:=by rw[cS];omega
      obtain rfl:rp= .ok (names,nums):=by rw[<-HQ.o,Vq];rfl
      have Wd:Hid (gQ types names nums (ps.drop (k+1))=r):=(by have:=VH.o;rw[gQ,VF.o]at this;exact this);clear Vq;go_wp2;go_roundw
      case rel=>exact⟨k+1,names,nums,Vc,by go_num,Vc,Vc,Vy,Wd,HS,HM,KC,CW⟩
      case measure=>simp[intOf];omega
  .have Vq:ps.drop k= []:=by rw[cS];omega
   obtain rfl:r= .ok (names,nums):=by rw[<-HP.o,Vq];rfl
   clear Vq;go_wp2;go_end0;exact⟨rfl,CW⟩
def ft.get {w:aw}{S:ax}:∀{bs:List d7} {cs:ay} {i:Nat} {b:d7},ft w S cs bs->bs[i]?=some b->∃pa pn pc va vn vc,
   cs[i*6+0]?=some (.bool b.enum)/\cs[i*6+1]?=some (aa (dV b.name.1))/\cs[i*6+2]?=some (ag b.name.1)/\cs[i*6+3]?=some (aa b.name.2)/\cs[i*6+4]?=some (.slice pa pn pc)/\cs[i*6+5]?=some (.slice va vn vc)/\ka w S b (.slice pa pn pc) (.slice va vn vc)
 | [],_,_,_,_,h=>by simp at h
 |q::bs,cs,0,b,⟨pa,pn,pc,va,vn,vc,rest,h1,h2,h3⟩,h=>by
  simp at h;subst h h1
  exact⟨pa,pn,pc,va,vn,vc,rfl,rfl,rfl,rfl,rfl,rfl,h2⟩
 |q::bs,cs,i+1,b,⟨pa,pn,pc,va,vn,vc,rest,h1,h2,h3⟩,h=>by
  subst h1;obtain⟨VX,VY,VZ,V0,V7,V8,e0,e1,e2,e3,e4,e5,e6⟩:=ft.get h3 (i:=i) (by simpa using h);refine⟨VX,VY,VZ,V0,V7,V8,?_,?_,?_,?_,?_,?_,e6⟩;.rw[show(i+1)*6+0=(i*6+0)+1+1+1+1+1+1 from by omega];simpa using e0
  .rw[show(i+1)*6+1=(i*6+1)+1+1+1+1+1+1 from by omega];simpa using e1
  .rw[show(i+1)*6+2=(i*6+2)+1+1+1+1+1+1 from by omega];simpa using e2
  .rw[show(i+1)*6+3=(i*6+3)+1+1+1+1+1+1 from by omega];simpa using e3
  .rw[show(i+1)*6+4=(i*6+4)+1+1+1+1+1+1 from by omega];simpa using e4
  .rw[show(i+1)*6+5=(i*6+5)+1+1+1+1+1+1 from by omega];simpa using e5
structure po (b:d7):Prop where
 name:b.name.1.size<=2000
 vals:b.values.length<=2001
 vnum:∀v∈b.values,lg v.2.1
 parts:mK b.parts<=2001
 fnum:∀p∈b.parts,∀f∈p.fields,lg f.num.1
def fP (types:aA):aA->Nat->List d7->Except Nat Unit
 |_,_,[]=> .ok ()
 |names,m,b::bs=>
  if iR names b.name.1 then .error b.name.2
  else if b.enum then
   match lp [] b.values with
   | .error p=> .error p
   | .ok _=>fP types (names++ [b.name.1]) m bs
  else if decide (6<m+1)then .error b.name.2
  else
   match gQ types [] [] b.parts with
   | .error p=> .error p
   | .ok _=>fP types (names++ [b.name.1]) (m+1) bs
def fJ (bs:List d7):aA:=bs.map λb=>b.name.1
def UI (w:aw)(ta:aC)(tn tc:Nat)(bs:List d7)(cs:ay)(S:ax)(hrow:eO w S 152 6 (.slice ta tn tc) bs.length cs)(hbs:ft w S cs bs)(hlen:bs.length<=2001)(hok:∀b∈bs,po b):
  Calls prog 120 #[.agg #[.slice ta tn tc]] w λe w'=>e= .returned (.map (some (w.heap.size+1)))/\fw w' (w.heap.size+1) (fJ bs)/\ak w w':=by
 have VG:=fh hrow.1;subst VG;have VT:= @run_makeMap prog;have C0:ak w ((w.alloc (am #[.slice ta bs.length tc] 87)).alloc (Obj.map #[] 0)):=(Vb w _).alloc Vd _;have M0:fw ((w.U5 #[.slice ta bs.length tc] 87).alloc (Obj.map #[] 0)) (w.heap.size+1) []:=(by have:=World.ownsMap_made (w.U5 #[.slice ta bs.length tc] 87) prog 9 (unitElem (H:=Unit));simpa [fw,setOf]using this);go_in
 go_wp2;go_loopw [10] (λi wr=>∃(k:Nat),k<=bs.length/\i=aa k/\fw wr (w.heap.size+1) (fJ (bs.take k))/\ak w wr) (λi _=>bs.length-(intOf i).toNat)
 case atStart=>exact⟨0,aP _,rfl,M0,C0⟩
 case round=>
  clear M0 C0;obtain⟨k,hk,rfl,HS,CW⟩:=hrel;by_cases hlt:k<bs.length
  .obtain⟨b,hb⟩:=gx hlt;have Vv:=hok b (aL hb);obtain⟨g,rfl,_,VP,Vp⟩:=eH hrow.1 Vc;obtain⟨pa,pn,pc,va,vn,vc,p0,p1,p2,p3,p4,p5,VE⟩:=hbs.get hb;have Vq:=Vp wr (CW.block g VP);rw[Nat.add_zero]at p0;have q0:=Vq _ _ p0;have q1:=Vq _ _ p1;have q2:=Vq _ _ p2;have q3:=Vq _ _ p3;have q4:=Vq _ _ p4;have q5:=Vq _ _ p5;have KB:=dX.new wr #[.bool b.enum,aa (dV b.name.1),ag b.name.1,aa b.name.2,.slice pa pn pc,.slice va vn vc] 152;have CA:=CW.alloc CW.size (am #[.bool b.enum,aa (dV b.name.1),ag b.name.1,aa b.name.2,.slice pa pn pc,.slice va vn vc] 152);clear Vp Vq p0 p1 p2 p3 p4 p5;have HL:Hid (fJ (bs.take (k+1))=fJ (bs.take k)++ [b.name.1]):=(by unfold Hid fJ;rw[bT,hb];simp);have VB:fw (wr.U5 #[.bool b.enum,aa (dV b.name.1),ag b.name.1,aa b.name.2,.slice pa pn pc,.slice va vn vc] 152) (w.heap.size+1) (fJ (bs.take k)):=HS.O (Below.l _ _ _ HS.lt);have VU:(fJ (bs.take k)).length<maxLen:=(by unfold fJ maxLen;rw[bN,bM];omega);have hsz:b.name.1.size<=maxLen:=by have:=Vv.name;unfold maxLen;omega
   clear hb VE;go_wp2_with fail;clear q0 q1 q2 q3 q4 q5;refine(Ue _ (w.heap.size+1) _ b.name.1 VB VU hsz).V ?_;rintro e w4 ⟨rfl,Vx,Vz⟩;have C4:ak w w4:=CA.J (Vz.to_below CA.size (by intro x hx;simp at hx;omega));go_wp2;go_roundw
   case rel=>exact⟨k+1,Vc,by go_num,by rw[HL.o];exact Vx,C4⟩
   case measure=>simp[intOf];omega
  .have HL:Hid (bs.take k=bs):=ch Vc;go_wp2;go_ret;refine⟨rfl,?_,CW⟩;rw[HL.o]at HS;exact HS
def UJ (w:aw)(ta:aC)(tn tc:Nat)(bs:List d7)(cs:ay)(S:ax)(hrow:eO w S 152 6 (.slice ta tn tc) bs.length cs)(hbs:ft w S cs bs)(hlen:bs.length<=2001)(hok:∀b∈bs,po b)(hg:GOK w):
  Calls prog 71 #[.agg #[.slice ta tn tc]] w λe w'=>Bq (fP (fJ bs) [] 0 bs) e/\ak w w':=by
 have VG:=fh hrow.1;subst VG;have VT:= @run_makeMap prog;obtain⟨B0,K0⟩:=d8 w #[.slice ta bs.length tc] 87;have Vs:eO (w.U5 #[.slice ta bs.length tc] 87) S 152 6 (.slice ta bs.length tc) bs.length cs:=hrow.O (λb _ hb=>Below.l _ _ _ hb);have Vy:ft (w.U5 #[.slice ta bs.length tc] 87) S cs bs:=hbs.O (λb _ hb=>Below.l _ _ _ hb);obtain⟨types,VS⟩:∃t,Hid (fJ bs=t):=⟨_,rfl⟩;rw[VS.o];generalize hr:fP types [] 0 bs=r;have HR:Hid (fP types [] 0 bs=r):=hr;clear hr;go_in
 go_wp2_with fail;refine(UI _ ta bs.length tc bs cs S Vs Vy hlen hok).V ?_;rw[VS.o];rintro e w2 ⟨rfl,VF,VQ⟩;have C2:ak w w2:=B0.J (VQ.V Vd);have K2:=(K0.G VQ K0.lt).alloc (Obj.map #[] 0);have zt:w.heap.size+1+1<w2.heap.size:=by have:=VF.lt;simp at this;omega
 have VH:fw (w2.alloc (Obj.map #[] 0)) (w.heap.size+1+1) types:=(by have:=VF.O (w':=(w2.alloc (Obj.map #[] 0))) (Below.l _ _ _ VF.lt);simpa using this);have HTlt:=VH.lt;have C3:ak w (w2.alloc (Obj.map #[] 0)):=C2.alloc C2.size _;have M3:fw (w2.alloc (Obj.map #[] 0)) w2.heap.size []:=(by have:=World.ownsMap_made w2 prog 9 (unitElem (H:=Unit));simpa [fw,setOf]using this);have esz:∀o,(w.alloc o).heap.size=w.heap.size+1:=Vd;obtain⟨k1,k2⟩:=K2.I;clear K0 Vs Vy VF VQ B0 C2;go_wp2;clear k1 k2;go_loopw [4,13] (λm i wr=>∃(k cnt:Nat) (names:aA),k<=bs.length/\i=aa k/\m=aa cnt/\cnt<=k/\names.length<=k/\Hid (fP types names cnt (bs.drop k)=r)/\fw wr w2.heap.size names/\fw wr (w.heap.size+1+1) types/\ak w wr) (λ_ i _=>bs.length-(intOf i).toNat)
 case atStart=>exact⟨0,0,[],aP _,rfl,rfl,aE _,Vd,HR,M3,VH,C3⟩
 case round=>
  clear M3 VH C3 HR;obtain⟨k,cnt,names,hk,rfl,rfl,hcnt,hnl,HP,HS,HT,CW⟩:=hrel;by_cases hlt:k<bs.length
  .obtain⟨b,hb⟩:=gx hlt;have Vv:=hok b (aL hb);have Vt:bs.drop k=b::bs.drop (k+1):=(by rw[be hlt];rw[aO hlt]at hb;rw[Option.some.inj hb]);have Vw:Hid (fP types names cnt (b::bs.drop (k+1))=r):=by rw[<-Vt];exact HP
   obtain⟨g,rfl,_,VP,Vp⟩:=eH hrow.1 Vc;obtain⟨pa,pn,pc,va,vn,vc,p0,p1,p2,p3,p4,p5,VE⟩:=hbs.get hb;have Vq:=Vp wr (CW.block g VP);rw[Nat.add_zero]at p0;have q0:=Vq _ _ p0;have q1:=Vq _ _ p1;have q2:=Vq _ _ p2;have q3:=Vq _ _ p3;have q4:=Vq _ _ p4;have q5:=Vq _ _ p5;have KB:=dX.new wr #[.bool b.enum,aa (dV b.name.1),ag b.name.1,aa b.name.2,.slice pa pn pc,.slice va vn vc] 152;have CA:=CW.alloc CW.size (am #[.bool b.enum,aa (dV b.name.1),ag b.name.1,aa b.name.2,.slice pa pn pc,.slice va vn vc] 152);clear Vp Vq p0 p1 p2 p3 p4 p5;have VB:fw (wr.U5 #[.bool b.enum,aa (dV b.name.1),ag b.name.1,aa b.name.2,.slice pa pn pc,.slice va vn vc] 152) w2.heap.size names:=HS.O (Below.l _ _ _ HS.lt);have VI:fw (wr.U5 #[.bool b.enum,aa (dV b.name.1),ag b.name.1,aa b.name.2,.slice pa pn pc,.slice va vn vc] 152) (w.heap.size+1+1) types:=HT.O (Below.l _ _ _ HT.lt);have z1:=HS.lt;clear hb Vt HP HS HT;go_wp2_with fail;clear q0 q1 q2 q3 q4 q5;refine(Tc _ w2.heap.size names _ _ _ VB Vc).V ?_;cases h1:iR names b.name.1;rotate_left
   .rintro e w4 ⟨rfl,V9⟩;obtain rfl:r= .error b.name.2:=by rw[<-Vw.o,fP];simp only[h1,if_true]
    unfold dY;go_wp2;exact⟨rfl,rfl,CA.J (V9.V CA.size)⟩
   rintro e w4 ⟨rfl,Vx,Vz⟩;have C4:ak w w4:=CA.J (Vz.to_below CA.size (by intro x hx;simp at hx;omega));have VC:dX w4 wr.heap.size #[.bool b.enum,aa (dV b.name.1),ag b.name.1,aa b.name.2,.slice pa pn pc,.slice va vn vc] 152:=(Vz.block _ KB.lt Ve).J KB;have VD:fw w4 (w.heap.size+1+1) types:=VI.O (Vz.block _ VI.lt Ve);have VJ:=VE.O (w':=w4) (λc _ hc=>C4.block c hc);have VK:GOK w4:=hg.O (C4.block _ hg.lt);have z4:=VC.lt;obtain⟨Wb,Wd,We,Wf⟩:=VJ;clear KB VB VI CA VE;obtain⟨k1,k2⟩:=VC.I;cases hen:b.enum
   .cases h3:decide (6<cnt+1);rotate_left
    .have hd:(6:Int)<(cnt:Int)+1:=by have:=of_decide_eq_true h3;omega
     obtain rfl:r= .error b.name.2:=by rw[<-Vw.o,fP];simp only[h1,hen,h3,aU,if_true,if_false]
     go_wp2_with fail;refine(ld _ _ b.name.1 b.name.2).V ?_;rintro e w5 ⟨rfl,Vr⟩;unfold dY;go_wp2;exact⟨rfl,rfl,C4.J (Vr.V C4.size)⟩
    have hd:decide ((6:Int)<(cnt:Int)+1)=false:=by have:=of_decide_eq_false h3;simp;omega
    go_wp2_with fail;refine(rX _ _ b.name.1 b.name.2).V ?_;rintro e w5 ⟨rfl,Vr⟩;clear k1 k2 hd;have C5:=C4.J (Vr.V C4.size);have VV:=VC.G Vr VC.lt;have VL:=VD.O (Vr.block _ VD.lt);have VR:=Vx.O (Vr.block _ Vx.lt);have VM:=Wd.O (w':=w5) (λc _ hc=>Vr.block c hc);have VN:=We.O (w':=w5) (λc _ hc=>Vr.block c hc);have VW:=VK.O (Vr.block _ VK.lt);obtain⟨k1,k2⟩:=VV.I;go_wp2_with fail;clear k1 k2;refine(UH _ (w.heap.size+1+1) types _ _ _ _ pa pn pc va vn vc b.parts Wb S VM VN VL Vv.parts Vv.fnum VW).V ?_
    cases h2:gQ types [] [] b.parts with
    |error p=>
     rintro e w6 ⟨he,VA⟩;obtain rfl:e=dY 3 p:=he;obtain rfl:r= .error p:=by rw[<-Vw.o,fP];simp only[h1,hen,h2,h3,aU,if_false]
     unfold dY;go_wp2
     exact⟨rfl,rfl,C5.J (VA.V C5.size)⟩
    |ok nn=>
     rintro e w6 ⟨he,VA⟩;obtain rfl:e= .returned (.tuple #[]):=he;have VO:Hid (fP types (names++ [b.name.1]) (cnt+1) (bs.drop (k+1))=r):=(by have:=Vw.o;rw[fP]at this;simp only[h1,hen,h2,h3,aU,if_false]at this;exact this);go_wp2;go_roundw
     case rel=>exact⟨k+1,cnt+1,names++ [b.name.1],Vc,by go_num,by go_num,Vc,Ve,VO,VR.O (VA.block _ VR.lt),VL.O (VA.block _ VL.lt),C5.J (VA.V C5.size)⟩
     case measure=>simp[intOf];omega
   .go_wp2_with fail;clear k1 k2;refine(UG _ _ _ _ _ _ _ _ va vn vc b.values Wf.1 Vv.vals Vv.vnum VK).V ?_
    cases h2:lp [] b.values with
    |error p=>
     rintro e w5 ⟨he,Vr⟩;obtain rfl:e=dY 3 p:=he;obtain rfl:r= .error p:=by rw[<-Vw.o,fP];simp only[h1,hen,h2,aU,if_true,if_false]
     unfold dY;go_wp2
     exact⟨rfl,rfl,C4.J (Vr.V C4.size)⟩
    |ok nn=>
     rintro e w5 ⟨he,Vr⟩;obtain rfl:e= .returned (.tuple #[]):=he;have VO:Hid (fP types (names++ [b.name.1]) cnt (bs.drop (k+1))=r):=(by have:=Vw.o;rw[fP]at this;simp only[h1,hen,h2,aU,if_true,if_false]at this;exact this);go_wp2;go_roundw
     case rel=>exact⟨k+1,cnt,names++ [b.name.1],Vc,by go_num,rfl,Vc,Ve,VO,Vx.O (Vr.block _ Vx.lt),VD.O (Vr.block _ VD.lt),C4.J (Vr.V C4.size)⟩
     case measure=>simp[intOf];omega
  .have Vu:bs.drop k= []:=by rw[cS];omega
   obtain rfl:r= .ok ():=by rw[<-HP.o,Vu];rfl
   clear Vu;go_wp2;go_end0;exact⟨rfl,CW⟩
end
end Go.Proofs.YtfebdimolnobaaaGreatDoor
