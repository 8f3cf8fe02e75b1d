import Derived.Test.YtfebdimolnobaaaGreatDoorRdI
set_option maxRecDepth 100000
set_option maxHeartbeats 8000000
set_option linter.all false
namespace Go.Proofs.YtfebdimolnobaaaGreatDoor
open Go.RowKit Go.Proofs.Tryz
section
open Go.Maps
attribute [local go_sem] jk jm jn
open Tq
def Sb (w:aw)(k:Int)(s:au)(p:Nat):
  Calls prog 260 #[.agg #[aa k,ae s,aa p]] w λe w'=>e= .returned (.bool (fL k s))/\aj w w':=by
 have a:=(Tb w).alloc (aD _) (ak #[aa k,ae s,aa p] 148);cases h0:(k==3)
 .go_in
  go_wp2;go_ret;exact⟨im (by simp only[fL,h0];simp),a⟩
 .cases h1:(s.toList== [102,108,111,97,116])
  .cases h2:(s.toList== [100,111,117,98,108,101])
   .cases h3:(s.toList== [98,121,116,101,115])
    .go_in
     go_wp2;go_ret;exact⟨im (by simp only[fL,h0,h1,h2,h3];simp),a⟩
    .go_in
     go_wp2;go_ret;exact⟨im (by simp only[fL,h0,h1,h2,h3];simp),a⟩
   .go_in
    go_wp2;go_ret;exact⟨im (by simp only[fL,h0,h1,h2];simp),a⟩
  .go_in
   go_wp2;go_ret;exact⟨im (by simp only[fL,h0,h1];simp),a⟩
def nj (types:aA)(k:Int)(s:au):Bool:=k==1&&(decide (20<s.size)|| !eC types s)
def OW (w:aw)(tb nb mb:Nat)(k:Int)(s:au)(p:Nat)(i:(k==1)=false):
  Calls prog 261 #[.agg #[.map (some tb),.map (some nb),.map (some mb)],.agg #[aa k,ae s,aa p]] w λe w'=>e= .returned (.tuple #[])/\aj w w':=by
 have⟨c,a,b⟩:=qy w #[.map (some tb),.map (some nb),.map (some mb)] #[aa k,ae s,aa p] 306 148;have⟨d,f⟩:=a.I;have⟨g,h⟩:=b.I;clear d f g h a b;go_in
 go_wp2;go_end0;exact⟨rfl,c⟩
def IP (w:aw)(tb nb mb:Nat)(k:Int)(s:au)(p:Nat)(m:(k==1)=true)(n:20<s.size):
  Calls prog 261 #[.agg #[.map (some tb),.map (some nb),.map (some mb)],.agg #[aa k,ae s,aa p]] w λe w'=>e=dX 3 p/\aj w w':=by
 have⟨c,b,a⟩:=qy w #[.map (some tb),.map (some nb),.map (some mb)] #[aa k,ae s,aa p] 306 148;have⟨g,h⟩:=b.I;have⟨i,j⟩:=a.I;have l:(20:Int)<(s.size:Int):=Te;go_in
 go_wp2_with fail;clear g h i j;refine wp_region_held_drew (S:=λw'=>w'.cell? (ai w.heap.size 0)=some (.map (some tb))/\w'.cell? (ai (w.heap.size+1) 0)=some (aa k)/\w'.cell? (ai (w.heap.size+1) 1)=some (ae s)/\w'.cell? (ai (w.heap.size+1) 2)=some (aa p)) Tj ⟨b.cell 0,a.cell 0,a.cell 1,a.cell 2⟩ (λhHeld=> ?_);refine S3 0 (.pointer (some (ai (w.heap.size+1) 1))) hHeld ?_;simp only[Act.put,S7];refine S3 1 (ae s) hHeld ?_;simp only[Act.put,S7];refine S3 2 (aa s.size) hHeld ?_;simp only[Act.put,S7];refine S3 3 (.bool true) hHeld ?_;simp only[Act.put,S7];refine S3 4 (.bool true) hHeld ?_;simp only[Act.put,S7];refine S4 5 undef hHeld ?_;simp only[Act.put,S7];refine S4 6 undef hHeld ?_;simp only[Act.put,S7];refine S4 7 undef hHeld ?_;simp only[Act.put,S7];refine S4 8 undef hHeld ?_;simp only[Act.put,S7];refine S4 9 undef hHeld ?_;simp only[Act.put,S7];refine S4 10 undef hHeld ?_;simp only[Act.put,S7];refine S3 11 (.bool true) hHeld ?_;simp only[Act.put,S7];refine S3 12 (.agg #[aa k,ae s,aa p]) hHeld ?_;simp only[Act.put,S7];refine wpAnyH_ready (rs:= [13]) Tj Tf (AllReadyH.cons rfl (λK d=> ?_) AllReadyH.nil);clear d;go_simp;refine(ki _ k s p).V ?_;rintro e o ⟨rfl,f⟩;exact⟨rfl,rfl,c.drew.J (f.V Tg)⟩
def IQ (w:aw)(tb nb mb:Nat)(types:aA)(k:Int)(s:au)(p:Nat)(H:eW w tb types)(t:(k==1)=true)(u:s.size<=20)(hm:eC types s=false):
  Calls prog 261 #[.agg #[.map (some tb),.map (some nb),.map (some mb)],.agg #[aa k,ae s,aa p]] w λe w'=>e=dX 3 p/\aj w w':=by
 have⟨g,f,a⟩:=qy w #[.map (some tb),.map (some nb),.map (some mb)] #[aa k,ae s,aa p] 306 148;have⟨m,n⟩:=f.I;have⟨o,q⟩:=a.I;have r:decide ((20:Int)<(s.size:Int))=false:=Tg;have l:s.size<=maxLen:=Tl;have h:eW ((w.S6 #[.map (some tb),.map (some nb),.map (some mb)] 306).S6 #[aa k,ae s,aa p] 148).drew tb types:=H.O (g.block _ H.lt);go_in
 go_wp2_with fail;clear m n o q;refine wp_region_held_drew (S:=λw'=>w'.cell? (ai w.heap.size 0)=some (.map (some tb))/\w'.cell? (ai (w.heap.size+1) 0)=some (aa k)/\w'.cell? (ai (w.heap.size+1) 1)=some (ae s)/\w'.cell? (ai (w.heap.size+1) 2)=some (aa p)) Tj ⟨f.cell 0,a.cell 0,a.cell 1,a.cell 2⟩ (λhHeld=> ?_);refine S3 0 (.pointer (some (ai (w.heap.size+1) 1))) hHeld ?_;simp only[Act.put,S7];refine S3 1 (ae s) hHeld ?_;simp only[Act.put,S7];refine S3 2 (aa s.size) hHeld ?_;simp only[Act.put,S7];refine S3 3 (.bool false) hHeld ?_;simp only[Act.put,S7];refine S3 4 (.bool false) hHeld ?_;simp only[Act.put,S7];refine S3 5 (ag w.heap.size) hHeld ?_;simp only[Act.put,S7];refine S3 6 (.map (some tb)) hHeld ?_;simp only[Act.put,S7];refine S3 7 (.pointer (some (ai (w.heap.size+1) 1))) hHeld ?_;simp only[Act.put,S7];refine S3 8 (ae s) hHeld ?_;simp only[Act.put,S7];refine S3 12 (.agg #[aa k,ae s,aa p]) hHeld ?_;simp only[Act.put,S7];refine wpAnyH_ready (rs:= [9]) Tj Tf (AllReadyH.cons rfl (λK c=> ?_) AllReadyH.nil);go_simp;refine(Rj _ tb types s h l).V ?_;rw[hm];rintro e w3 ⟨rfl,b⟩;have i:=f.drew.G b Tg;have d:=a.drew.G b Tf;clear hHeld;refine c.out _ _ ⟨i.cell 0,d.cell 0,d.cell 1,d.cell 2⟩ (λhHeld=> ?_);clear c K;refine S3 10 (.bool true) hHeld ?_;simp only[Act.put,S7];refine S3 11 (.bool true) hHeld ?_;simp only[Act.put,S7];refine wpAnyH_ready (rs:= [13]) Tj Tf (AllReadyH.cons rfl (λK c=> ?_) AllReadyH.nil);clear c;go_simp;refine(ki _ k s p).V ?_;rintro e v ⟨rfl,j⟩;exact⟨rfl,rfl,(g.drew.J (b.V Tg)).J (j.V (by have:=b.size;simp at this;omega))⟩
def OX (w:aw)(tb nb mb:Nat)(types:aA)(k:Int)(s:au)(p:Nat)(H:eW w tb types)(q:(k==1)=true)(r:s.size<=20)(hm:eC types s=true):
  Calls prog 261 #[.agg #[.map (some tb),.map (some nb),.map (some mb)],.agg #[aa k,ae s,aa p]] w λe w'=>e= .returned (.tuple #[])/\aj w w':=by
 have⟨g,h,i⟩:=qy w #[.map (some tb),.map (some nb),.map (some mb)] #[aa k,ae s,aa p] 306 148;have⟨o,t⟩:=h.I;have⟨u,v⟩:=i.I;have n:decide ((20:Int)<(s.size:Int))=false:=Tg;have m:s.size<=maxLen:=Tl;have j:eW ((w.S6 #[.map (some tb),.map (some nb),.map (some mb)] 306).S6 #[aa k,ae s,aa p] 148).drew tb types:=H.O (g.block _ H.lt);go_in
 go_wp2
 go_region_held3 (λw'=>w'.cell? (ai w.heap.size 0)=some (.map (some tb))/\w'.cell? (ai (w.heap.size+1) 0)=some (aa k)/\w'.cell? (ai (w.heap.size+1) 1)=some (ae s)/\w'.cell? (ai (w.heap.size+1) 2)=some (aa p))
  (first|exact⟨l.cell 0,d.cell 0,d.cell 1,d.cell 2⟩|exact⟨c.cell 0,a.cell 0,a.cell 1,a.cell 2⟩|go_keep)
  (first|(go_at_call 179;refine(Rj _ tb types s j m).V ?_;rw[hm];rintro e w3 ⟨rfl,b⟩;have c:=h.drew.G b Tg;have a:=i.drew.G b Tf)|(go_at_call 123;refine(rM _ k s p).V ?_;rintro e x ⟨rfl,f⟩;have l:=c.G f c.lt;have d:=a.G f a.lt))
 go_wp2;go_end0;exact⟨rfl,(g.drew.J (b.V Tg)).J (f.V (by have:=b.size;simp at this;omega))⟩
def SA (w:aw)(tb nb mb:Nat)(types:aA)(k:Int)(s:au)(p:Nat)(H:eW w tb types):
  S9 261 #[.agg #[.map (some tb),.map (some nb),.map (some mb)],.agg #[aa k,ae s,aa p]] w λe w'=>(if nj types k s then e=dX 3 p else e= .returned (.tuple #[]))/\aj w w':=by
 unfold nj;cases hk:(k==1);.simp only[dh,aN,if_false];exact OW w tb nb mb k s p hk
 .by_cases hl:20<s.size;.simp only[hl,decide_true,cF,Bool.and_true,if_true];exact IP w tb nb mb k s p hk hl
  .cases hm:eC types s;.simp only[hl,decide_false,Bool.not_false,dj,Bool.and_true,if_true];exact IQ w tb nb mb types k s p H hk Te hm
   .simp only[hl,decide_false,du,dd,dl,aN,if_false];exact OX w tb nb mb types k s p H hk Te hm
def lD (nums:aB)(n:Nat):Bool:=decide (n<1)||(decide (536870911<n)||yI nums n)
def SB (w:aw)(tb nb mb:Nat)(k:Int)(s:au)(p:Nat)(y:jL s)(F:GOK w)(nums:aB)(H:ii w mb nums)(Y:nums.length<5000):
  Calls prog 262 #[.agg #[.map (some tb),.map (some nb),.map (some mb)],.agg #[aa k,ae s,aa p]] w λe w'=>if lD nums (gV s)then e=dX 3 p/\aj w w' else e= .returned (.tuple #[])/\ii w' mb (nums++ [gV s])/\dY [mb] w w':=by
 have⟨l,u,v⟩:=qy w #[.map (some tb),.map (some nb),.map (some mb)] #[aa k,ae s,aa p] 306 148;have⟨R,T⟩:=u.I;have⟨U,V⟩:=v.I;obtain⟨n,m⟩:∃n,Hid (gV s=n):=⟨_,rfl⟩;have C:Hid (n<2^64):=by have:=My s;rw[m.o]at this;exact this
 rw[m.o];obtain⟨q,z⟩:=Td (lD nums n);rw[z]
 have P:((n:Int)<1/\q=true)\/(decide ((n:Int)<1)=false/\(536870911:Int)<(n:Int)/\q=true)\/(decide ((n:Int)<1)=false/\decide ((536870911:Int)<(n:Int))=false/\yI nums n=q):=by
  rw[<-z];unfold lD;by_cases h1:n<1;.exact .inl ⟨Te,by simp[h1]⟩
  .by_cases h2:536870911<n;.exact .inr (.inl ⟨Tg,Te,by simp[h2]⟩)
   .exact .inr (.inr ⟨Tg,Tg,by simp[h1,h2]⟩)
 clear z;go_in
 go_wp2_with fail;refine(Rl _ k s p y (F.O (l.block _ F.lt))).V ?_;rw[m.o];rintro e w2 ⟨rfl,i⟩;have c:=u.G i Tg;have a:=v.G i Tf;have f:aj w w2:=l.J (i.V Tg);have b:w.heap.size+1<w2.heap.size:=a.lt;have o:Hid (∀W,aj w2 W->W.cell? (ai w.heap.size 2)=some (.map (some mb))/\W.cell? (ai (w.heap.size+1) 0)=some (aa k)/\W.cell? (ai (w.heap.size+1) 1)=some (ae s)/\W.cell? (ai (w.heap.size+1) 2)=some (aa p)):=λW j=>⟨(c.G j c.lt).cell 2,(a.G j a.lt).cell 0,(a.G j a.lt).cell 1,(a.G j a.lt).cell 2⟩
 have A:=(Tb w2).drew;clear R T U V u v l i;go_wp2_with fail;have G:ii w2.drew mb nums:=H.O (f.block _ H.lt);have t:=Sw _ mb nums n G C.o;rcases P with⟨X,rfl⟩|⟨N,O,rfl⟩|⟨N,O,Q⟩;rotate_right;rw[Q]at t;cases q
 .go_region_held3 (λw'=>w'.cell? (ai w.heap.size 2)=some (.map (some mb))/\w'.cell? (ai (w.heap.size+1) 0)=some (aa k)/\w'.cell? (ai (w.heap.size+1) 1)=some (ae s)/\w'.cell? (ai (w.heap.size+1) 2)=some (aa p))
   (first|exact o.o _ (dL x D)|exact o.o _ x|exact o.o _ A)
   (first|(go_at_call 342;refine t.V ?_;rintro e w3 ⟨rfl,d⟩;have x:=dL A d)|(go_at_call 123;refine(rM _ k s p).V ?_;rintro e h ⟨rfl,D⟩))
  have E:=dL x D;have B:aj w h:=dL f E;have I:ii h mb nums:=H.O (B.block _ H.lt);have⟨Z,b⟩:=(c.G E c.lt).I;go_wp2_with fail;refine(Sv _ mb nums n I Tl C.o).V ?_;rintro e b ⟨rfl,J,M⟩;go_wp2;go_end0;exact⟨rfl,J,(dY.oB B).J M⟩
 all_goals refine wp_region_held_drew (S:=λw'=>w'.cell? (ai w.heap.size 2)=some (.map (some mb))/\w'.cell? (ai (w.heap.size+1) 0)=some (aa k)/\w'.cell? (ai (w.heap.size+1) 1)=some (ae s)/\w'.cell? (ai (w.heap.size+1) 2)=some (aa p)) Tj ⟨c.cell 2,a.cell 0,a.cell 1,a.cell 2⟩ (λhHeld=> ?_)
 .refine S3 0 (.int .u64 (n:Int)) hHeld ?_;simp only[Act.put,S7];refine S3 1 (.bool false) hHeld ?_;simp only[Act.put,S7];refine S3 2 (.bool false) hHeld ?_;simp only[Act.put,S7];refine S3 3 (.int .u64 (n:Int)) hHeld ?_;simp only[Act.put,S7];refine S3 4 (.bool false) hHeld ?_;simp only[Act.put,S7];refine S3 5 (.bool false) hHeld ?_;simp only[Act.put,S7];refine S3 6 (.bool false) hHeld ?_;simp only[Act.put,S7];refine S3 7 (.pointer (some (ai w.heap.size 2))) hHeld ?_;simp only[Act.put,S7];refine S3 8 (.map (some mb)) hHeld ?_;simp only[Act.put,S7];refine S3 9 (.int .u64 (n:Int)) hHeld ?_;simp only[Act.put,S7];refine S3 12 (.agg #[aa k,ae s,aa p]) hHeld ?_;simp only[Act.put,S7];refine wpAnyH_ready (rs:= [10]) Tj Tf (AllReadyH.cons rfl (λK b=> ?_) AllReadyH.nil);go_simp;refine t.V ?_;rintro e w3 ⟨rfl,d⟩;have L:=c.drew.G d c.lt;have r:=a.drew.G d a.lt;clear hHeld;refine b.out _ _ ⟨L.cell 2,r.cell 0,r.cell 1,r.cell 2⟩ (λhHeld=> ?_);clear b K;refine S3 11 (.bool true) hHeld ?_;simp only[Act.put,S7];refine wpAnyH_ready (rs:= [13]) Tj Tf (AllReadyH.cons rfl (λK b=> ?_) AllReadyH.nil);clear b;go_simp;refine(ki _ k s p).V ?_;rintro e h ⟨rfl,g⟩;exact⟨rfl,rfl,(f.drew.J (d.V Tg)).J (g.V (by have:=d.size;simp at this;omega))⟩
 .refine S3 0 (.int .u64 (n:Int)) hHeld ?_;simp only[Act.put,S7];refine S3 1 (.bool true) hHeld ?_;simp only[Act.put,S7];refine S3 2 (.bool true) hHeld ?_;simp only[Act.put,S7];refine S4 3 undef hHeld ?_;simp only[Act.put,S7];refine S4 4 undef hHeld ?_;simp only[Act.put,S7];refine S3 5 (.bool true) hHeld ?_;simp only[Act.put,S7];refine S3 6 (.bool true) hHeld ?_;simp only[Act.put,S7];refine S4 7 undef hHeld ?_;simp only[Act.put,S7];refine S4 8 undef hHeld ?_;simp only[Act.put,S7];refine S4 9 undef hHeld ?_;simp only[Act.put,S7];refine S4 10 undef hHeld ?_;simp only[Act.put,S7];refine S3 11 (.bool true) hHeld ?_;simp only[Act.put,S7];refine S3 12 (.agg #[aa k,ae s,aa p]) hHeld ?_;simp only[Act.put,S7];refine wpAnyH_ready (rs:= [13]) Tj Tf (AllReadyH.cons rfl (λK b=> ?_) AllReadyH.nil);clear b;go_simp;refine(ki _ k s p).V ?_;rintro e h ⟨rfl,g⟩;exact⟨rfl,rfl,f.drew.J (g.V Tg)⟩
 .refine S3 0 (.int .u64 (n:Int)) hHeld ?_;simp only[Act.put,S7];refine S3 1 (.bool false) hHeld ?_;simp only[Act.put,S7];refine S3 2 (.bool false) hHeld ?_;simp only[Act.put,S7];refine S3 3 (.int .u64 (n:Int)) hHeld ?_;simp only[Act.put,S7];refine S3 4 (.bool true) hHeld ?_;simp only[Act.put,S7];refine S3 5 (.bool true) hHeld ?_;simp only[Act.put,S7];refine S3 6 (.bool true) hHeld ?_;simp only[Act.put,S7];refine S4 7 undef hHeld ?_;simp only[Act.put,S7];refine S4 8 undef hHeld ?_;simp only[Act.put,S7];refine S4 9 undef hHeld ?_;simp only[Act.put,S7];refine S4 10 undef hHeld ?_;simp only[Act.put,S7];refine S3 11 (.bool true) hHeld ?_;simp only[Act.put,S7];refine S3 12 (.agg #[aa k,ae s,aa p]) hHeld ?_;simp only[Act.put,S7];refine wpAnyH_ready (rs:= [13]) Tj Tf (AllReadyH.cons rfl (λK b=> ?_) AllReadyH.nil);clear b;go_simp;refine(ki _ k s p).V ?_;rintro e h ⟨rfl,g⟩;exact⟨rfl,rfl,f.drew.J (g.V Tg)⟩
def IR (l:aB)(h:l.Nodup):Maps.size (setOf (H:=Unit) (.agg []) (l.map qY))=l.length:=by
 rw[size_setOf _ _ (by intro x b;obtain⟨y,_,rfl⟩:=aV.1 b;exact trivial)]
 have key:∀(l a:aB),(a++l).Nodup->((l.map qY).foldl addKey (a.map qY))=(a++l).map qY:=by
  intro l
  induction l with
  |nil=>intro a _;simp
  |cons x l ih=>
   intro a c;have b:(a.map qY).any (λy=>y.sameKey (qY x))=false:=(by rw[List.any_map,de];intro y f;have d:y≠x:=(by rintro rfl;have:=dB.1 c;exact this.2.2 _ f _ Tf rfl);show¬decide (IntKind.u64=IntKind.u64/\(y:Int)=(x:Int))=true;simp;omega);have e:addKey (a.map qY) (qY x)=(a++ [x]).map qY:=(by unfold addKey;simp[b]);rw[cu,List.foldl_cons,e,ih (a++ [x]) (by simpa using c)];simp
 have:=key l [] (by simpa using h);simp only[List.map_nil,be]at this;rw[this];simp
def jQ (types names:aA)(nums:aB)(tk:Int)(ts:au)(tp:Nat)(ns:au)(np:Nat)(ms:au)(mp:Nat):Except Nat (aA×aB):=
 if nj types tk ts then .error tp
 else if gE names ns then .error np
 else if decide (12<=nums.length)then .error np
 else if lD nums (gV ms)then .error mp
 else .ok (names++ [ns],nums++ [gV ms])
def uy (types names:aA)(nums:aB)(form kk:Int)(ks:au)(kp:Nat)(tk:Int)(ts:au)(tp:Nat)(ns:au)(np:Nat)(ms:au)(mp:Nat):Except Nat (aA×aB):=
 if form==4&& !fL kk ks then .error kp else jQ types names nums tk ts tp ns np ms mp
def QL (nb mb:Nat)(w:aw)(r:Except Nat (aA×aB))(e:Ending)(w':aw):Prop:=
 match r with
 | .error p=>e=dX 3 p/\dY [nb,mb] w w'
 | .ok (names,nums)=>e= .returned (.tuple #[])/\eW w' nb names/\ii w' mb nums/\dY [nb,mb] w w'
def SC (w:aw)(tb nb mb:Nat)(types names:aA)(nums:aB)(form kk:Int)(ks:au)(kp:Nat)(tk:Int)(ts:au)(tp:Nat)(nk:Int)(ns:au)(np:Nat)(mk:Int)(ms:au)(mp:Nat)(U:eW w tb types)(M:eW w nb names)(L:ii w mb nums)(d3:nb≠mb)(g1:5≠nb)(Q:names.length<5000)(P:nums.length<5000)(T:nums.Nodup)(R:jL ms)(B:GOK w):
  Calls prog 180 #[.agg #[.map (some tb),.map (some nb),.map (some mb)],.agg #[aa form,aa kk,ae ks,aa kp,aa tk,ae ts,aa tp,aa nk,ae ns,aa np,aa mk,ae ms,aa mp]] w (QL nb mb w (uy types names nums form kk ks kp tk ts tp ns np ms mp)):=by
 obtain⟨r,D⟩:∃r,Hid ((if form==4&& !fL kk ks then .error kp else jQ types names nums tk ts tp ns np ms mp)=r):=⟨_,rfl⟩;rw[show uy types names nums form kk ks kp tk ts tp ns np ms mp=r from D.o]
 have m:(form==4)=false\/((form==4)=true/\fL kk ks=true)\/((form==4)=true/\fL kk ks=false):=by
  generalize(form==4)=x;generalize fL kk ks=y
  revert x y;decide
 have⟨C,A,b⟩:=qy w #[.map (some tb),.map (some nb),.map (some mb)] #[aa form,aa kk,ae ks,aa kp,aa tk,ae ts,aa tp,aa nk,ae ns,aa np,aa mk,ae ms,aa mp] 306 211;have⟨c,d⟩:=A.I;have⟨f,g⟩:=b.I;have j:=U.lt;have V:=M.lt;have I:=L.lt;go_in
 rcases m with m|⟨m,t⟩|⟨m,t⟩;have n:Hid (jQ types names nums tk ts tp ns np ms mp=r):=by have:=D.o;rw[m]at this;exact this
 have i:=C;have s:=A;have o:=b;clear c d f g;rotate_left;have n:Hid (jQ types names nums tk ts tp ns np ms mp=r):=by have:=D.o;rw[m,t]at this;exact this
 focus
  go_wp2
  go_region_held3 (λw'=>w'.cell? (ai (w.heap.size+1) 1)=some (aa kk)/\w'.cell? (ai (w.heap.size+1) 2)=some (ae ks)/\w'.cell? (ai (w.heap.size+1) 3)=some (aa kp))
   (first|exact⟨q.cell 1,q.cell 2,q.cell 3⟩|exact⟨h.cell 1,h.cell 2,h.cell 3⟩|exact⟨b.cell 1,b.cell 2,b.cell 3⟩)
   (first|(go_at_call 260;refine(Sb _ kk ks kp).V ?_;rw[t];rintro e w3 ⟨rfl,a⟩;have h:=b.drew.G a b.lt)|(go_at_call 123;refine(rM _ kk ks kp).V ?_;rintro e w2 ⟨rfl,p⟩;have q:=h.G p h.lt))
  have i:aj w w2:=(C.drew.J (a.V Tg)).J (p.V (by have:=a.size;simp at this;omega));have s:=(A.drew.G a A.lt).G p (by have:=a.size;simp at this;omega);have o:=q;clear c d f g h q a p C A b
 rotate_left
 .obtain rfl:r= .error kp:=by rw[<-D.o,m,t];rfl
  go_wp2;refine wp_region_held_drew (S:=λw'=>w'.cell? (ai (w.heap.size+1) 1)=some (aa kk)/\w'.cell? (ai (w.heap.size+1) 2)=some (ae ks)/\w'.cell? (ai (w.heap.size+1) 3)=some (aa kp)) Tj ⟨b.cell 1,b.cell 2,b.cell 3⟩ (λhHeld=> ?_);refine S2 0 (.pointer (some (ai (w.heap.size+1) 1))) hHeld ?_;simp only[Act.put,S7];refine S2 1 (.agg #[aa kk,ae ks,aa kp]) hHeld ?_;simp only[Act.put,S7];refine S2 4 (.pointer (some (ai (w.heap.size+1) 1))) hHeld ?_;simp only[Act.put,S7];refine S2 5 (.agg #[aa kk,ae ks,aa kp]) hHeld ?_;simp only[Act.put,S7];refine wpAnyH_ready (rs:= [2]) Tj Tf (AllReadyH.cons rfl (λK G=> ?_) AllReadyH.nil);clear c d f g;go_simp;refine(Sb _ kk ks kp).V ?_;rw[t];rintro e w3 ⟨rfl,a⟩;have h:=b.drew.G a b.lt;clear hHeld;refine G.out _ _ ⟨h.cell 1,h.cell 2,h.cell 3⟩ (λhHeld=> ?_);clear G K;refine S2 3 (.bool true) hHeld ?_;simp only[Act.put,S7];refine wpAnyH_ready (rs:= [6]) Tj Tf (AllReadyH.cons rfl (λK G=> ?_) AllReadyH.nil);clear G;go_simp;refine(ki _ kk ks kp).V ?_;rintro e l ⟨rfl,b⟩;exact⟨rfl,rfl,dY.oB ((C.drew.J (a.V Tg)).J (b.V (by have:=a.size;simp at this;omega)))⟩
 all_goals
  have W:=U.O (i.block _ j);have b:=M.O (i.block _ V);have h:=L.O (i.block _ I);have k:=B.O (i.block _ B.lt);have j:=o.lt;have⟨c,d⟩:=s.I;have⟨f,g⟩:=o.I;go_wp2_with fail;clear c d f g;refine(SA _ tb nb mb types tk ts tp W).V ?_;cases h1:nj types tk ts;rotate_left
  .rintro e w3 ⟨N,a⟩;obtain rfl:e=dX 3 tp:=by simpa using N
   obtain rfl:r= .error tp:=by rw[<-n.o,jQ];simp only[h1,if_true]
   unfold dX;go_wp2;exact⟨rfl,rfl,dY.oB (i.J (a.V i.size))⟩
  rintro e w3 ⟨N,a⟩;obtain rfl:e= .returned (.tuple #[]):=by simpa using N
  have j:=i.J (a.V i.size);have E:=s.G a s.lt;have v:=o.G a o.lt;have X:eW w3 nb names:=M.O (j.block _ V);have i:=v.lt;clear s o a W b h k;have⟨c,d⟩:=E.I;have⟨f,g⟩:=v.I;go_wp2_with fail;clear c d f g;refine(Rk _ nb names nk ns np X Q).V ?_;cases h2:gE names ns;rotate_left
  .rintro e l ⟨rfl,p⟩;obtain rfl:r= .error np:=by rw[<-n.o,jQ];simp only[h1,h2,if_true,aN,if_false]
   unfold dX;go_wp2;exact⟨rfl,rfl,dY.oB (j.J (p.V j.size))⟩
  rintro e l ⟨rfl,a,u⟩;have b:w.heap.size≠nb:=Te;have h:w.heap.size+1≠nb:=Te;have O:dY [nb,mb] w l:=(dY.oB j).J (u.V Tf);have F:dP l w.heap.size #[.map (some tb),.map (some nb),.map (some mb)] 306:=(u.block _ E.lt (by simpa using b)).J E;have z:dP l (w.heap.size+1) #[aa form,aa kk,ae ks,aa kp,aa tk,ae ts,aa tp,aa nk,ae ns,aa np,aa mk,ae ms,aa mp] 211:=(u.block _ v.lt (by simpa using h)).J v;have J:ii l mb nums:=L.O ((u.block _ (aI I j.size) (by simpa using λe=>d3 e.sy)).J (j.block _ I));have Y:GOK l:=B.O ((u.block _ (aI B.lt j.size) (by simpa using g1)).J (j.block _ B.lt));have b:l.ownsMap prog 53 (unitElem (H:=Unit)) mb nums.length (setOf (.agg []) (nums.map qY)):=J;have h:=z.lt;clear E v X;have⟨c,d⟩:=F.I;have⟨f,g⟩:=z.I;cases h3:decide (12<=nums.length);rotate_left
  .have h:(12:Int)<=(nums.length:Int):=by have:=dI h3;omega
   obtain rfl:r= .error np:=by rw[<-n.o,jQ];simp only[h1,h2,h3,if_true,aN,if_false]
   go_wp2_with (at_len;refine wpList_len_own _ rfl _ 304 rfl 53 162 underlying304 _ mb _ _ rfl b ?_;rw[IR nums T])
   refine(ki _ nk ns np).V ?_;rintro e i ⟨rfl,k⟩;unfold dX;go_wp2;exact⟨rfl,rfl,O.J (dY.oB k)⟩
  have h:decide ((12:Int)<=(nums.length:Int))=false:=by have:=of_decide_eq_false h3;simp;omega
  go_wp2_with (at_len;refine wpList_len_own _ rfl _ 304 rfl 53 162 underlying304 _ mb _ _ rfl b ?_;rw[IR nums T])
  refine(rM _ nk ns np).V ?_;rintro e i ⟨rfl,k⟩;have T:=O.J (dY.oB k);have b:=F.G k F.lt;have i:=z.G k z.lt;have Z:=a.O (k.block _ a.lt);have a:=J.O (k.block _ J.lt);have j:=Y.O (k.block _ Y.lt);clear F z c d f g h;have⟨c,d⟩:=b.I;have⟨f,g⟩:=i.I;go_wp2_with fail;clear c d f g;refine(SB _ tb nb mb mk ms mp R j nums a P).V ?_;cases h4:lD nums (gV ms);rotate_left
  .rintro e w6 ⟨rfl,a⟩;obtain rfl:r= .error mp:=by rw[<-n.o,jQ];simp only[h1,h2,h3,h4,if_true,aN,if_false]
   unfold dX;go_wp2;exact⟨rfl,rfl,T.J (dY.oB a)⟩
  rintro e w6 ⟨rfl,b,a⟩;obtain rfl:r= .ok (names++ [ns],nums++ [gV ms]):=by rw[<-n.o,jQ];simp only[h1,h2,h3,h4,aN,if_false]
  go_wp2;go_end0;exact⟨rfl,Z.O (a.block _ Z.lt (by simpa using d3)),b,T.J (a.V Tf)⟩
def qz (x:W×W):(D6 x).length=6:=rfl
def jq:List ByteArray->List (W×W)->Except Nat (List ByteArray)
 |names,[]=> .ok names
 |names,v::vs=>if gE names v.1.1 then .error v.1.2 else if decide (2147483647<gV v.2.1)then .error v.2.2 else jq (names++ [v.1.1]) vs
def At {α:Type}(r:Except Nat α)(e:Ending):Prop:=
 match r with
 | .error p=>e=dX 3 p
 | .ok _=>e= .returned (.tuple #[])
def SD (w:World)(eb:Bool)(bk:Int)(bs:ByteArray)(bp:Nat)(pa:Option Addr)(pn pc:Nat)(va:Option Addr)(vn vc:Nat)(vs:List (W×W))(f:w.ownsRow 0 302 6 (.slice va vn vc) vs.length (vs.flatMap D6))(hlen:vs.length<=2001)(n:∀v∈vs,jL v.2.1)(P:GOK w):
  Calls prog 122 #[.agg #[.bool eb,.int .i64 bk,.string bs,.int .i64 bp,.slice pa pn pc,.slice va vn vc]] w λe w'=>At (jq [] vs) e/\Below w.heap.size w w':=by
 have T:=d9 f;subst T;have a:= @run_makeMap prog;have z:Below w.heap.size w ((w.alloc (Obj.cells #[.bool eb,.int .i64 bk,.string bs,.int .i64 bp,.slice pa pn pc,.slice va vs.length vc] 152)).alloc (Obj.map #[] 0)):=(Tc w _).alloc Tf _;have B:eW ((w.S6 #[.bool eb,.int .i64 bk,.string bs,.int .i64 bp,.slice pa pn pc,.slice va vs.length vc] 152).alloc (Obj.map #[] 0)) (w.heap.size+1) []:=(by have:=World.ownsMap_made (w.S6 #[.bool eb,.int .i64 bk,.string bs,.int .i64 bp,.slice pa pn pc,.slice va vs.length vc] 152) prog 9 (unitElem (H:=Unit));simpa [eW,setOf]using this);have a:((w.alloc (Obj.cells #[.bool eb,.int .i64 bk,.string bs,.int .i64 bp,.slice pa pn pc,.slice va vs.length vc] 152)).alloc (Obj.map #[] 0)).heap.size=w.heap.size+2:=Tf;generalize hr:jq [] vs=r;have R:Hid (jq [] vs=r):=hr;clear hr;go_in
 go_wp2;go_loopw [9] (λi wr=>∃(k:Nat) (names:List ByteArray),k<=vs.length/\i= .int .i64 k/\names.length<=k/\Hid (jq names (vs.drop k)=r)/\eW wr (w.heap.size+1) names/\Below w.heap.size w wr/\w.heap.size+1<wr.heap.size) (λi _=>vs.length-(intOf i).toNat)
 case atStart=>exact⟨0,[],aM _,rfl,Tf,R,B,z,Te⟩
 case round=>
  clear B z a;obtain⟨k,names,b,rfl,a,q,A,o,c⟩:=hrel;by_cases hlt:k<vs.length
  .have⟨v,c⟩:=gx hlt;have C:v∈vs:=aO c;have L:vs.drop k=v::vs.drop (k+1):=(by rw[aS hlt];rw[aP hlt]at c;rw[Option.some.inj c]);have y:Hid (jq names (v::vs.drop (k+1))=r):=by rw[<-L];exact q
   obtain⟨g,rfl,_,V,N⟩:=dV f Te;have h:=N wr (o.block g V);have a:=h (k*6) _ ((fW D6 6 qz vs k v c 0 Te).J rfl);have b:=h (k*6+1) _ ((fW D6 6 qz vs k v c 1 Te).J rfl);have d:=h (k*6+2) _ ((fW D6 6 qz vs k v c 2 Te).J rfl);have f:=h (k*6+3) _ ((fW D6 6 qz vs k v c 3 Te).J rfl);have g:=h (k*6+4) _ ((fW D6 6 qz vs k v c 4 Te).J rfl);have i:=h (k*6+5) _ ((fW D6 6 qz vs k v c 5 Te).J rfl);have D:=n v C;have t:=dP.new wr #[.int .i64 (dN v.1.1),.string v.1.1,.int .i64 v.1.2,.int .i64 (dN v.2.1),.string v.2.1,.int .i64 v.2.2] 302;have m:=o.alloc o.size (Obj.cells #[.int .i64 (dN v.1.1),.string v.1.1,.int .i64 v.1.2,.int .i64 (dN v.2.1),.string v.2.1,.int .i64 v.2.2] 302);have E:eW (wr.S6 #[.int .i64 (dN v.1.1),.string v.1.1,.int .i64 v.1.2,.int .i64 (dN v.2.1),.string v.2.1,.int .i64 v.2.2] 302) (w.heap.size+1) names:=A.O (Below.l _ _ _ A.lt);clear N h c L q C;go_wp2_with fail;clear a b d f g i;refine(Rk _ (w.heap.size+1) names _ v.1.1 v.1.2 E Te).V ?_;cases h1:gE names v.1.1;rotate_left
   .rintro e a ⟨rfl,X⟩;obtain rfl:r= .error v.1.2:=by rw[<-y.o,jq];simp only[h1,if_true]
    unfold dX;go_wp2;exact⟨rfl,rfl,m.J (X.V m.size)⟩
   rintro e a ⟨rfl,G,I⟩;have j:Below w.heap.size w a:=m.J (I.to_below m.size (by intro x b;simp at b;omega));have b:dP a wr.heap.size #[.int .i64 (dN v.1.1),.string v.1.1,.int .i64 v.1.2,.int .i64 (dN v.2.1),.string v.2.1,.int .i64 v.2.2] 302:=(I.block _ t.lt Tg).J t;have F:GOK a:=P.O (j.block _ P.lt);have c:=b.lt;clear t m E;go_wp2_with fail;cases h2:decide (2147483647<gV v.2.1);rotate_left
   .have Z:(2147483647:Int)<((gV v.2.1:Nat):Int):=by have:=dI h2;omega
    obtain rfl:r= .error v.2.2:=by rw[<-y.o,jq];simp only[h1,h2,if_true,aN,if_false]
    refine wp_region_held_drew (S:=λw'=>w'.cell? ⟨wr.heap.size,3,none⟩=some (.int .i64 (dN v.2.1))/\w'.cell? ⟨wr.heap.size,4,none⟩=some (.string v.2.1)/\w'.cell? ⟨wr.heap.size,5,none⟩=some (.int .i64 v.2.2)) Tj ⟨b.cell 3,b.cell 4,b.cell 5⟩ (λhHeld=> ?_);refine S2 0 (.pointer (some ⟨wr.heap.size,3,none⟩)) hHeld ?_;simp only[Act.put,S7];refine S2 1 (.agg #[.int .i64 (dN v.2.1),.string v.2.1,.int .i64 v.2.2]) hHeld ?_;simp only[Act.put,S7];refine S2 4 (.pointer (some ⟨wr.heap.size,3,none⟩)) hHeld ?_;simp only[Act.put,S7];refine S2 5 (.agg #[.int .i64 (dN v.2.1),.string v.2.1,.int .i64 v.2.2]) hHeld ?_;simp only[Act.put,S7];refine wpAnyH_ready (rs:= [2]) Tj Tf (AllReadyH.cons rfl (λK p=> ?_) AllReadyH.nil);go_simp;refine(Rl _ _ v.2.1 v.2.2 D (F.O (w':=a.drew) rfl)).V ?_;rintro e Q ⟨rfl,l⟩;have d:=b.drew.G l b.lt;clear hHeld;refine p.out _ _ ⟨d.cell 3,d.cell 4,d.cell 5⟩ (λhHeld=> ?_);clear p K;refine S2 3 (.bool true) hHeld ?_;simp only[Act.put,S7];refine wpAnyH_ready (rs:= [6]) Tj Tf (AllReadyH.cons rfl (λK p=> ?_) AllReadyH.nil);clear p;go_simp;refine(ki _ _ v.2.1 v.2.2).V ?_;rintro e w6 ⟨rfl,Y⟩;exact⟨rfl,rfl,(j.drew.J (l.V j.size)).J (Y.V (aL j.size l.size))⟩
   have Z:decide ((2147483647:Int)<((gV v.2.1:Nat):Int))=false:=by have:=of_decide_eq_false h2;simp;omega
   have U:Hid (jq (names++ [v.1.1]) (vs.drop (k+1))=r):=(by have:=y.o;rw[jq]at this;simp only[h1,h2,aN,if_false]at this;exact this)
   go_region_held3 (λw'=>w'.cell? ⟨wr.heap.size,3,none⟩=some (.int .i64 (dN v.2.1))/\w'.cell? ⟨wr.heap.size,4,none⟩=some (.string v.2.1)/\w'.cell? ⟨wr.heap.size,5,none⟩=some (.int .i64 v.2.2))
    (first|exact⟨s.cell 3,s.cell 4,s.cell 5⟩|exact⟨d.cell 3,d.cell 4,d.cell 5⟩|exact⟨b.cell 3,b.cell 4,b.cell 5⟩)
    (first|(go_at_call 165;refine(Rl _ _ v.2.1 v.2.2 D (F.O (w':=a.drew) rfl)).V ?_;rintro e Q ⟨rfl,l⟩;have d:=b.drew.G l b.lt)|(go_at_call 123;refine(rM _ _ v.2.1 v.2.2).V ?_;rintro e w6 ⟨rfl,J⟩;have s:=d.G J d.lt))
   go_wp2;go_roundw
   case rel=>
    go_light;have O:Below a.heap.size a Q:=(Tb a).drew.J l;have u:Below a.heap.size a w6:=O.J (J.V O.size);refine⟨k+1,names++ [v.1.1],Te,by go_num,Tg,U,G.O (u.block _ G.lt),j.J (u.V j.size),?_⟩;have:=u.size;omega
   case measure=>go_light;simp[intOf];omega
  .have M:vs.drop k= []:=by rw[ci];omega
   obtain rfl:r= .ok names:=by rw[<-q.o,M];rfl
   clear M;go_wp2;go_end0;exact⟨rfl,o⟩
def OY (f:ek):sk f= [aa f.form,aa (lO f.key),ae (jp f.key),aa (mY f.key),aa (dN f.type.1),ae f.type.1,aa f.type.2,aa (dN f.name.1),ae f.name.1,aa f.name.2,aa (dN f.num.1),ae f.num.1,aa f.num.2]:=by
 obtain⟨form,key,b,nm,a⟩:=f;cases key<;>rfl
def wF {w:aw}{g:Nat}{fs:List ek}{j:Nat}{f:ek}(b:fs[j]?=some f)(h:∀(i:Nat) v,(fs.flatMap sk)[i]?=some v->w.cell? (ai g i)=some v):
  w.cell? (ai g (j*13))=some (aa f.form)/\w.cell? (ai g (j*13+1))=some (aa (lO f.key))/\w.cell? (ai g (j*13+2))=some (ae (jp f.key))/\w.cell? (ai g (j*13+3))=some (aa (mY f.key))/\w.cell? (ai g (j*13+4))=some (aa (dN f.type.1))/\w.cell? (ai g (j*13+5))=some (ae f.type.1)/\w.cell? (ai g (j*13+6))=some (aa f.type.2)/\w.cell? (ai g (j*13+7))=some (aa (dN f.name.1))/\w.cell? (ai g (j*13+8))=some (ae f.name.1)/\w.cell? (ai g (j*13+9))=some (aa f.name.2)/\w.cell? (ai g (j*13+10))=some (aa (dN f.num.1))/\w.cell? (ai g (j*13+11))=some (ae f.num.1)/\w.cell? (ai g (j*13+12))=some (aa f.num.2):=by
 have a:=λ(i:Nat) hi=>fW sk 13 Ms fs j f b i hi
 rw[OY]at a;refine⟨h _ _ (a 0 Te),h _ _ (a 1 Te),h _ _ (a 2 Te),h _ _ (a 3 Te),h _ _ (a 4 Te),h _ _ (a 5 Te),h _ _ (a 6 Te),h _ _ (a 7 Te),h _ _ (a 8 Te),h _ _ (a 9 Te),h _ _ (a 10 Te),h _ _ (a 11 Te),h _ _ (a 12 Te)⟩
def fK.get {w:aw}{S:ax}:∀{ps:List ft} {cs:ay} {i:Nat} {p:ft},fK w S cs ps->ps[i]?=some p->∃fa fn fc,
   cs[i*4]?=some (aa (lO p.oneof))/\cs[i*4+1]?=some (ae (jp p.oneof))/\cs[i*4+2]?=some (aa (mY p.oneof))/\cs[i*4+3]?=some (.slice fa fn fc)/\
   d5 w S 211 13 (.slice fa fn fc) p.fields.length (p.fields.flatMap sk)
 | [],_,_,_,_,h=>by simp at h
 |q::ps,cs,0,p,⟨fa,fn,fc,rest,h1,h2,h3⟩,h=>by
  simp at h;subst h h1
  exact⟨fa,fn,fc,rfl,rfl,rfl,rfl,h2⟩
 |q::ps,cs,i+1,p,⟨fa,fn,fc,rest,h1,h2,h3⟩,h=>by
  subst h1;obtain⟨g,k,j,a,b,c,d,f⟩:=fK.get h3 (i:=i) (by simpa using h);have e:(i+1)*4=i*4+1+1+1+1:=Te;refine⟨g,k,j,?_,?_,?_,?_,f⟩;.rw[e];simpa using a
  .rw[show(i+1)*4+1=(i*4+1)+1+1+1+1 from by omega];simpa using b
  .rw[show(i+1)*4+2=(i*4+2)+1+1+1+1 from by omega];simpa using c
  .rw[show(i+1)*4+3=(i*4+3)+1+1+1+1 from by omega];simpa using d
def ld (types names:aA)(nums:aB)(f:ek):Except Nat (aA×aB):=
 uy types names nums f.form (lO f.key) (jp f.key) (mY f.key) (dN f.type.1) f.type.1 f.type.2 f.name.1 f.name.2 f.num.1 f.num.2
def fX (types:aA):aA->aB->List ek->Except Nat (aA×aB)
 |names,nums,[]=> .ok (names,nums)
 |names,nums,f::fs=>
  match ld types names nums f with
  | .error p=> .error p
  | .ok (n,m)=>fX types n m fs
def lE (types names:aA)(nums:aB)(p:ft):Except Nat (aA×aB):=
 if lO p.oneof==1 then
  if gE names (jp p.oneof)then .error (mY p.oneof)else fX types (names++ [jp p.oneof]) nums p.fields
 else fX types names nums p.fields
def gF (types:aA):aA->aB->List ft->Except Nat (aA×aB)
 |names,nums,[]=> .ok (names,nums)
 |names,nums,p::ps=>
  match lE types names nums p with
  | .error q=> .error q
  | .ok (n,m)=>gF types n m ps
def lk:List ft->Nat
 | []=>0
 |p::ps=>1+p.fields.length+lk ps
def wG:∀ps:List ft,ps.length<=lk ps
 | []=>aD _
 |p::ps=>by have:=wG ps;simp only[bF,lk];omega
def wH {types names:aA}{nums:aB}{f:ek}{n:aA}{m:aB}(h:ld types names nums f= .ok (n,m))(g:nums.Nodup):
  n.length=names.length+1/\m.length=nums.length+1/\m.Nodup:=by
 unfold ld uy jQ at h;split at h;.simp at h
 .split at h;.simp at h
  .split at h;.simp at h
   .split at h;.simp at h
    .split at h;.simp at h
     .rename_i c;simp at h;obtain⟨rfl,rfl⟩:=h;refine⟨Tf,Tf,?_⟩;have d:yI nums (gV f.num.1)=false:=(by unfold lD at c;simp at c;exact c.2.2);rw[dB];refine⟨g,Tf,λa i b e=> ?_⟩;simp at e;subst e;rintro rfl;unfold yI at d;rw[de]at d;exact d _ i Tf
def OZ {w W:aw}{a:Obj}{cs:aq}{T:TypeId}(h:(((w.alloc a).alloc (Obj.map #[] 0)).alloc (Obj.map #[] 0)).alloc (Obj.cells cs T)=W):aj w W/\eW W (w.heap.size+1) []/\ii W (w.heap.size+1+1) []/\dP W (w.heap.size+1+1+1) cs T:=by
 subst h;refine⟨(((Tc w _).alloc Tf _).alloc Tg _).alloc Tg _,?_,?_,?_⟩;.have:=((World.ownsMap_made (w.alloc a) prog 9 (unitElem (H:=Unit))).alloc (Obj.map #[] 0)).alloc (Obj.cells cs T);simpa [eW,setOf]using this
 .have:=(World.ownsMap_made ((w.alloc a).alloc (Obj.map #[] 0)) prog 53 (unitElem (H:=Unit))).alloc (Obj.cells cs T);simpa [ii,setOf]using this
 .have:=dP.new (((w.alloc a).alloc (Obj.map #[] 0)).alloc (Obj.map #[] 0)) cs T;simpa using this
def SE (w:aw)(tb:Nat)(types:aA)(eb:Bool)(bk:Int)(bs:au)(bp:Nat)(pa:aC)(pn pc:Nat)(va:aC)(vn vc:Nat)(ps:List ft)(pcs:ay)(S:ax)
  (s:d5 w S 208 4 (.slice pa pn pc) ps.length pcs) (a:fK w S pcs ps) (N:eW w tb types) (hlen:lk ps<=2001) (K:∀p∈ps,∀f∈p.fields,jL f.num.1) (q:GOK w):
  Calls prog 124 #[.agg #[.bool eb,aa bk,ae bs,aa bp,.slice pa pn pc,.slice va vn vc],.map (some tb)] w λe w'=>At (gF types [] [] ps) e/\aj w w':=by
 have b:=d9 s.1;subst b;have b:= @run_makeMap prog;have T0:=N.lt;have b:ps.length<=2001:=aL (wG ps) hlen;generalize hr:gF types [] [] ps=r;have h:Hid (gF types [] [] ps=r):=hr;clear hr;go_in
 go_wp2;generalize hW:World.alloc _ _=B;obtain⟨b,d,g,c⟩:=OZ hW;clear hW;go_loopw [16] (λi wr=>∃(k:Nat) (names:aA) (nums:aB),k<=ps.length/\i=aa k/\names.length+lk (ps.drop k)<=2001/\nums.length+lk (ps.drop k)<=2001/\nums.Nodup/\Hid (gF types names nums (ps.drop k)=r)/\eW wr (w.heap.size+1) names/\ii wr (w.heap.size+1+1) nums/\dP wr (w.heap.size+1+1+1) #[.map (some tb),.map (some (w.heap.size+1)),.map (some (w.heap.size+1+1))] 306/\aj w wr) (λi _=>ps.length-(intOf i).toNat)
 case atStart=>exact⟨0,[],[],aM _,rfl,by simpa using hlen,by simpa using hlen,List.nodup_nil,h,d,g,c,b⟩
 case round=>
  clear d g c b;obtain⟨k,names,nums,b,rfl,W,X,C,R,m,l,n,d⟩:=hrel;by_cases hlt:k<ps.length
  .obtain⟨p,I⟩:=gx hlt;have b:p∈ps:=aO I;have y:ps.drop k=p::ps.drop (k+1):=(by rw[aS hlt];rw[aP hlt]at I;rw[Option.some.inj I]);rw[y]at W X;simp only[lk]at W X;have U:Hid (gF types names nums (p::ps.drop (k+1))=r):=by rw[<-y];exact R
   obtain⟨g,rfl,_,c,h⟩:=dV s.1 Te;obtain⟨z,fn,A,j,o,s,v,G⟩:=a.get I;have a:=d9 G.1;subst a;have D:=h wr (d.block g c);have T:=D _ _ j;have Y:=D _ _ o;have Z:=D _ _ s;have q3:=D _ _ v;have L:=dP.new wr #[aa (lO p.oneof),ae (jp p.oneof),aa (mY p.oneof),.slice z p.fields.length A] 208;have a:=d.alloc d.size (ak #[aa (lO p.oneof),ae (jp p.oneof),aa (mY p.oneof),.slice z p.fields.length A] 208);have u:eW (wr.S6 #[aa (lO p.oneof),ae (jp p.oneof),aa (mY p.oneof),.slice z p.fields.length A] 208) (w.heap.size+1) names:=m.O (Below.l _ _ _ m.lt);have t:ii (wr.S6 #[aa (lO p.oneof),ae (jp p.oneof),aa (mY p.oneof),.slice z p.fields.length A] 208) (w.heap.size+1+1) nums:=l.O (Below.l _ _ _ l.lt);have c:=n.alloc (ak #[aa (lO p.oneof),ae (jp p.oneof),aa (mY p.oneof),.slice z p.fields.length A] 208);have zc:=n.lt;obtain⟨O,P⟩:=c.I;have TE:=K p b;clear h D I y R b j o s v m l n;obtain⟨h,M⟩:∃h,Hid (lE types names nums p=h):=⟨_,rfl⟩;obtain⟨b,v⟩:∃b,Hid (b=if lO p.oneof==1 then names++ [jp p.oneof]else names):=⟨_,rfl⟩;cases ho:(lO p.oneof==1);have g:Hid (fX types b nums p.fields=h):=(by have:=M.o;unfold lE at this;simp only[ho,aN,if_false]at this;rw[show b=names by rw[v.o,ho];rfl];exact this);have E:=u;rw[show names=b by rw[v.o,ho];rfl]at E;have I:b.length<=names.length+1:=by rw[show b=names by rw[v.o,ho];rfl];omega
   have V:=t;have o:=c;have Q:=a;go_wp2_with fail;clear u t c a O P T Y Z q3 L;rotate_left
   focus
    go_wp2_with fail;refine(Rk _ (w.heap.size+1) names _ _ _ u Te).V ?_;cases h1:gE names (jp p.oneof);rotate_left;.rintro e B ⟨rfl,j⟩;obtain rfl:r= .error (mY p.oneof):=(by rw[<-U.o,gF,lE];simp only[ho,h1,if_true]);unfold dX;go_wp2;exact⟨rfl,rfl,a.J (j.V a.size)⟩
    rintro e B ⟨rfl,H,F⟩;have g:Hid (fX types b nums p.fields=h):=(by have:=M.o;unfold lE at this;simp only[ho,h1,aN,if_true,if_false]at this;rw[show b=names++ [jp p.oneof]by rw[v.o,ho];rfl];exact this);have j:aj w B:=a.J (F.to_below a.size (by intro x J;simp at J;omega));have s:dP B (w.heap.size+1+1+1) #[.map (some tb),.map (some (w.heap.size+1)),.map (some (w.heap.size+1+1))] 306:=(F.block _ c.lt Tg).J c;have D:dP B wr.heap.size #[aa (lO p.oneof),ae (jp p.oneof),aa (mY p.oneof),.slice z p.fields.length A] 208:=(F.block _ L.lt Tg).J L;have z:ii B (w.heap.size+1+1) nums:=t.O (F.block _ t.lt Tf);have E:=H;rw[show names++ [jp p.oneof]=b by rw[v.o,ho];rfl]at E;have I:b.length<=names.length+1:=by rw[show b=names++ [jp p.oneof]by rw[v.o,ho];rfl];simp
    have V:=z;have o:=s;have Q:=j;obtain⟨v,A⟩:=D.I;clear O P T Y Z q3;go_wp2_with fail;clear u t c a v A D s z H j F L
   all_goals
    go_loopw [32] (λi wr=>∃(j:Nat) (names:aA) (nums:aB),j<=p.fields.length/\i=aa j/\names.length+(p.fields.length-j)+lk (ps.drop (k+1))<=2001/\nums.length+(p.fields.length-j)+lk (ps.drop (k+1))<=2001/\nums.Nodup/\Hid (fX types names nums (p.fields.drop j)=h)/\eW wr (w.heap.size+1) names/\ii wr (w.heap.size+1+1) nums/\dP wr (w.heap.size+1+1+1) #[.map (some tb),.map (some (w.heap.size+1)),.map (some (w.heap.size+1+1))] 306/\aj w wr) (λi _=>p.fields.length-(intOf i).toNat)
    case atStart=>exact⟨0,b,nums,aM _,rfl,Te,Te,C,g,E,V,o,Q⟩
    case round=>
     clear E V o Q g;obtain⟨j,names,nums,b,rfl,W,X,C,T,m,l,n,d⟩:=hrel;by_cases hlt2:j<p.fields.length
     .obtain⟨f,H⟩:=gx hlt2;have b:f∈p.fields:=aO H;have y:p.fields.drop j=f::p.fields.drop (j+1):=(by rw[aS hlt2];rw[aP hlt2]at H;rw[Option.some.inj H]);have i:Hid (fX types names nums (f::p.fields.drop (j+1))=h):=by rw[<-y];exact T
      obtain⟨v,rfl,_,s,o⟩:=dV G.1 Te;have g:=o wr (d.block v s);obtain⟨E,F,G,I,K,L,Q,V,W,X,A,B,D⟩:=wF H g;have s:=dP.new wr (FC f) 211;have a:=d.alloc d.size (FO f);have u:eW (wr.alloc (FO f)) (w.heap.size+1) names:=m.O (Below.l _ _ _ m.lt);have t:ii (wr.alloc (FO f)) (w.heap.size+1+1) nums:=l.O (Below.l _ _ _ l.lt);have s:eW (wr.alloc (FO f)) tb types:=N.O (a.block _ T0);have v:GOK (wr.alloc (FO f)):=q.O (a.block _ q.lt);have c:=n.alloc (FO f);have zc:=n.lt;obtain⟨O,P⟩:=c.I;have z:=TE f b;clear o g H y T b m l n;go_wp2_with fail;clear E F G I K L Q V W X A B D O P;refine(SC _ tb (w.heap.size+1) (w.heap.size+1+1) types names nums _ _ _ _ _ _ _ _ _ _ _ _ _ s u t Te (by have:=q.lt;omega) Te Te C z v).V ?_
      cases h5:ld types names nums f with
      |error q=>
       have b:uy types names nums f.form (lO f.key) (jp f.key) (mY f.key) (dN f.type.1) f.type.1 f.type.2 f.name.1 f.name.2 f.num.1 f.num.2= .error q:=h5;rw[b];rintro e g ⟨rfl,N⟩;obtain rfl:h= .error q:=by rw[<-i.o,fX,h5]
       obtain rfl:r= .error q:=by rw[<-U.o,gF,M.o]
       unfold dX;go_wp2
       exact⟨rfl,rfl,a.J (N.to_below a.size (by intro x J;simp at J;omega))⟩
      |ok nm=>
       obtain⟨Y,Z⟩:=nm;have b:uy types names nums f.form (lO f.key) (jp f.key) (mY f.key) (dN f.type.1) f.type.1 f.type.2 f.name.1 f.name.2 f.num.1 f.num.2= .ok (Y,Z):=h5;rw[b];rintro e g ⟨rfl,q,s,N⟩;obtain⟨l1,l2,t⟩:=wH h5 C;have o:Hid (fX types Y Z (p.fields.drop (j+1))=h):=(by have:=i.o;rw[fX,h5]at this;exact this);have b:aj w g:=a.J (N.to_below a.size (by intro x J;simp at J;omega));have a:dP g (w.heap.size+1+1+1) #[.map (some tb),.map (some (w.heap.size+1)),.map (some (w.heap.size+1+1))] 306:=(N.block _ c.lt Tg).J c;go_wp2;go_roundw
       case rel=>exact⟨j+1,Y,Z,Te,by go_num,Te,Te,t,o,q,s,a,b⟩
       case measure=>simp[intOf];omega
     .have G:p.fields.drop j= []:=by rw[ci];omega
      obtain rfl:h= .ok (names,nums):=by rw[<-T.o,G];rfl
      have a:Hid (gF types names nums (ps.drop (k+1))=r):=(by have:=U.o;rw[gF,M.o]at this;exact this);clear G;go_wp2;go_roundw
      case rel=>exact⟨k+1,names,nums,Te,by go_num,Te,Te,C,a,m,l,n,d⟩
      case measure=>simp[intOf];omega
  .have G:ps.drop k= []:=by rw[ci];omega
   obtain rfl:r= .ok (names,nums):=by rw[<-R.o,G];rfl
   clear G;go_wp2;go_end0;exact⟨rfl,d⟩
end
end Go.Proofs.YtfebdimolnobaaaGreatDoor
