import Derived.Test.YtfebdimolnobaaaGreatDoorRdC
set_option maxRecDepth 100000
set_option maxHeartbeats 8000000
set_option linter.all false
namespace Go.Proofs.YtfebdimolnobaaaGreatDoor
open Go.RowKit Go.Proofs.Tryz
section
open Go.Maps
attribute [local go_sem] jS jT jU
open VH
def iT (l:aA)(s:au):Bool:=decide (20<s.size)||fk l s
def gN (w:aw)(c1 c2:aq)(T1 T2:TypeId):ak w ((w.alloc (Obj.cells c1 T1)).alloc (Obj.cells c2 T2))/\dZ ((w.alloc (Obj.cells c1 T1)).alloc (Obj.cells c2 T2)) w.heap.size c1 T1/\dZ ((w.alloc (Obj.cells c1 T1)).alloc (Obj.cells c2 T2)) (w.heap.size+1) c2 T2:=
 ⟨(Vt w _).alloc Vw _,(dZ.new w c1 T1).alloc _,by simpa using dZ.new (w.alloc (Obj.cells c1 T1)) c2 T2⟩
def JS (w:aw)(b:Nat)(k:Int)(s:au)(p:Nat)(h:20<s.size):
  Calls prog 121 #[.agg #[aa k,ag s,aa p],.map (some b)] w λe w'=>e=d5 3 p/\ak w w':=by
 have⟨a,f⟩:=ec w #[aa k,ag s,aa p] 148;have g:(20:Int)<(s.size:Int):=Vv;go_in
 go_wp2;refine wp_region_held_drew (S:=λw'=>w'.cell? (aj w.heap.size 0)=some (aa k)/\w'.cell? (aj w.heap.size 1)=some (ag s)/\w'.cell? (aj w.heap.size 2)=some (aa p)) VA ⟨Vw,Vw,Vw⟩ (λhHeld=> ?_);refine Vj 0 (.pointer (some (aj w.heap.size 1))) hHeld ?_;simp only[Act.put,Vo];refine Vj 1 (ag s) hHeld ?_;simp only[Act.put,Vo];refine Vj 2 (aa s.size) hHeld ?_;simp only[Act.put,Vo];refine Vj 3 (.bool true) hHeld ?_;simp only[Act.put,Vo];refine Vj 4 (.bool true) hHeld ?_;simp only[Act.put,Vo];refine Vl 5 undef hHeld ?_;simp only[Act.put,Vo];refine Vl 6 undef hHeld ?_;simp only[Act.put,Vo];refine Vl 7 undef hHeld ?_;simp only[Act.put,Vo];refine Vl 8 undef hHeld ?_;simp only[Act.put,Vo];refine Vj 9 (.bool true) hHeld ?_;simp only[Act.put,Vo];refine Vj 10 (.agg #[aa k,ag s,aa p]) hHeld ?_;simp only[Act.put,Vo];refine wpAnyH_ready (rs:= [11]) VA Vw (AllReadyH.cons rfl (λK c=> ?_) AllReadyH.nil);clear c;go_simp;refine(lp _ k s p).V ?_;rintro e i ⟨rfl,d⟩;exact⟨rfl,rfl,a.drew.J (d.V Vw)⟩
def Of (w:aw)(b:Nat)(l:aA)(k:Int)(s:au)(p:Nat)(H:fy w b l)(r:s.size<=20)(hm:fk l s=true):
  Calls prog 121 #[.agg #[aa k,ag s,aa p],.map (some b)] w λe w'=>e=d5 3 p/\ak w w':=by
 have f:=(Vs w).alloc (aE _) (am #[aa k,ag s,aa p] 148);have g:fy (w.Vn #[aa k,ag s,aa p] 148).drew b l:=H.O (Below.l _ _ _ H.lt);have d:¬(20:Int)<(s.size:Int):=Vv;have q:decide ((20:Int)<(s.size:Int))=false:=by simpa using d
 have o:s.size<=maxLen:=VC;clear d;go_in
 go_wp2;refine wp_region_held_drew (S:=λw'=>w'.cell? (aj w.heap.size 0)=some (aa k)/\w'.cell? (aj w.heap.size 1)=some (ag s)/\w'.cell? (aj w.heap.size 2)=some (aa p)) VA ⟨Vw,Vw,Vw⟩ (λhHeld=> ?_);refine Vj 0 (.pointer (some (aj w.heap.size 1))) hHeld ?_;simp only[Act.put,Vo];refine Vj 1 (ag s) hHeld ?_;simp only[Act.put,Vo];refine Vj 2 (aa s.size) hHeld ?_;simp only[Act.put,Vo];refine Vj 3 (.bool false) hHeld ?_;simp only[Act.put,Vo];refine Vj 4 (.bool false) hHeld ?_;simp only[Act.put,Vo];refine Vj 5 (.map (some b)) hHeld ?_;simp only[Act.put,Vo];refine Vj 6 (.pointer (some (aj w.heap.size 1))) hHeld ?_;simp only[Act.put,Vo];refine Vj 7 (ag s) hHeld ?_;simp only[Act.put,Vo];refine Vj 10 (.agg #[aa k,ag s,aa p]) hHeld ?_;simp only[Act.put,Vo];refine wpAnyH_ready (rs:= [8]) VA Vw (AllReadyH.cons rfl (λK c=> ?_) AllReadyH.nil);go_simp;refine(Tt _ b l s g o).V ?_;rw[hm];rintro e w3 ⟨rfl,a⟩;have h:w3.cell? (aj w.heap.size 0)=some (aa k)/\w3.cell? (aj w.heap.size 1)=some (ag s)/\w3.cell? (aj w.heap.size 2)=some (aa p):=(by obtain⟨i,j,m⟩:=hHeld;exact⟨(a.cell (p:=(aj w.heap.size 0)) Vw).J i,(a.cell (p:=(aj w.heap.size 1)) Vw).J j,(a.cell (p:=(aj w.heap.size 2)) Vw).J m⟩);clear hHeld;refine c.out _ _ h (λhHeld=> ?_);clear c K;refine Vj 9 (.bool true) hHeld ?_;simp only[Act.put,Vo];refine wpAnyH_ready (rs:= [11]) VA Vw (AllReadyH.cons rfl (λK c=> ?_) AllReadyH.nil);clear c;go_simp;refine(lp _ k s p).V ?_;rintro e t ⟨rfl,n⟩;exact⟨rfl,rfl,(f.drew.J (a.V Vw)).J (n.V (by have:=a.size;simp at this;omega))⟩
def QH (w:aw)(b:Nat)(l:aA)(k:Int)(s:au)(p:Nat)(H:fy w b l)(x:l.length<5000)(v:s.size<=20)(hm:fk l s=false):
  Calls prog 121 #[.agg #[aa k,ag s,aa p],.map (some b)] w λe w'=>e= .returned (.tuple #[])/\fy w' b (l++ [s])/\ee [b] w w':=by
 have⟨j,q⟩:=ec w #[aa k,ag s,aa p] 148;have m:fy (w.Vn #[aa k,ag s,aa p] 148).drew b l:=H.O (Below.l _ _ _ H.lt);have r:=H.lt;have u:decide ((20:Int)<(s.size:Int))=false:=Vx;have h:s.size<=maxLen:=VC;go_in
 go_wp2
 go_region_held3 (λw'=>w'.cell? (aj w.heap.size 0)=some (aa k)/\w'.cell? (aj w.heap.size 1)=some (ag s)/\w'.cell? (aj w.heap.size 2)=some (aa p))
  (first|exact⟨c.cell 0,c.cell 1,c.cell 2⟩|exact⟨a.cell 0,a.cell 1,a.cell 2⟩|go_keep)
  (first|(go_at_call 179;refine(Tt _ b l s m h).V ?_;rw[hm];rintro e w3 ⟨rfl,d⟩;have a:=q.drew.G d Vw)|(go_at_call 123;refine(rY _ k s p).V ?_;rintro e i ⟨rfl,g⟩;have c:=a.G g a.lt))
 have f:ak w i:=(j.drew.J (d.V Vw)).J (g.V (by have:=d.size;simp at this;omega));have n:fy i b l:=H.O (f.block b r);have⟨y,z⟩:=c.I;go_wp2_with fail;refine(Ux _ b l s n VC h).V ?_;rintro e A ⟨rfl,o,t⟩;go_wp2;go_end0;exact⟨rfl,o,(ee.oB f).J t⟩
def Tu (w:aw)(b:Nat)(l:aA)(k:Int)(s:au)(p:Nat)(H:fy w b l)(a:l.length<5000):
  Vq 121 #[.agg #[aa k,ag s,aa p],.map (some b)] w λe w'=>
   if iT l s then e=d5 3 p/\ak w w' else e= .returned (.tuple #[])/\fy w' b (l++ [s])/\ee [b] w w':=by
 unfold iT;by_cases hl:20<s.size;.simp only[hl,decide_true,dt,if_true];exact JS w b k s p hl
 .cases hm:fk l s;.simp only[hl,decide_false,dA,aU,if_false];exact QH w b l k s p H a Vv hm
  .simp only[hl,decide_false,dA,if_true];exact Of w b l k s p H Vv hm
end
section
open Go.Maps
attribute [local go_sem] jS jT jU
def GOK (w:aw):Prop:=∃ev,w.cell? (aj 5 0)=some ev/\(ev= .nilIface\/∃te pe,ev= .iface te pe)
def GOK.O {w w':aw}(h:GOK w)(e:w'.heap[5]?=w.heap[5]?):GOK w':=by
 obtain⟨b,c,d⟩:=h;exact⟨b,(bE (a:=(aj 5 0)) e).J c,d⟩
def GOK.lt {w:aw}(h:GOK w):5<w.heap.size:=by
 obtain⟨b,a,c⟩:=h;exact aV _ _ a
def jd (s:au):Nat:=
 match Lib.parseUintB 64 s.data.toList with
 | .ok u=>u
 |_=>18446744073709551615
def lq (s:au):Prop:=s.size<=2000/\((∃u,Lib.parseUintB 64 s.data.toList= .ok u)\/Lib.parseUintB 64 s.data.toList= .range)
def Og (s:au):jd s<2^64:=by
 unfold jd;split;.rename_i u h;have:=Lib.parseUintB_le h;omega
 .omega
def UT (s:au)(w:aw)(h:lq s)(g:GOK w):
  Vq 244 #[ag s,aa 10,aa 64] w λe w'=>∃v,e= .returned (.tuple #[.int .u64 (jd s),v])/\ak w w':=by
 obtain⟨b,c,d⟩:=g;unfold jd;rcases h.2 with⟨u,a⟩|a
 .rw[a];refine(Any.strconv_ParseUint_10_at64_ok Tryz.laysPu14 s (by have:=h.1;omega) u a w).V ?_;rintro e w' ⟨rfl,i⟩;refine⟨_,rfl,?_⟩;rcases i with rfl|rfl;.exact Below.refl _ _
  .exact Lib.bytesWorld_below _ _ _
 .rw[a];refine(Any.strconv_ParseUint_10_at64_range Tryz.laysPu14 s (by have:=h.1;omega) a b w c d).V ?_;rintro e w' ⟨N,rfl,-,-,f⟩;exact⟨_,rfl,f⟩
def UU (s:au)(w:aw)(h:s.size<=2000):
  Calls prog 108 #[ag s] w λe w'=>e= .returned (ag s)/\ak w w':=by
 go_in
 go_wp2_with fail;refine(AnyPu.stringslite_Clone Tryz.laysPu25 s _ Vv).V ?_;rintro e w1 ⟨rfl,a⟩;go_wp2;go_ret;exact⟨rfl,a⟩
def Tv (w:aw)(k:Int)(s:au)(p:Nat)(h:lq s)(a:GOK w):
  Calls prog 165 #[.agg #[aa k,ag s,aa p]] w λe w'=>e= .returned (.int .u64 (jd s))/\ak w w':=by
 have b:=(Vs w).alloc (aE _) (am #[aa k,ag s,aa p] 148);go_in
 go_wp2_with fail;refine(UT s _ h (a.O (Below.l _ _ _ a.lt))).V ?_;rintro e w1 ⟨v,rfl,c⟩;go_wp2;go_ret;exact⟨rfl,b.J (c.V Vw)⟩
end
section
open Go.Maps
attribute [local go_sem] jS jT jU
open VH
def Uy (w:aw)(k:Int)(s:au)(p:Nat):
  Calls prog 260 #[.agg #[aa k,ag s,aa p]] w λe w'=>e= .returned (.bool (im k s))/\ak w w':=by
 have a:=(Vs w).alloc (aE _) (am #[aa k,ag s,aa p] 148);cases h0:(k==3)
 .go_in
  go_wp2;go_ret;exact⟨jb (by simp only[im,h0];simp),a⟩
 .cases h1:(s.toList== [102,108,111,97,116])
  .cases h2:(s.toList== [100,111,117,98,108,101])
   .cases h3:(s.toList== [98,121,116,101,115])
    .go_in
     go_wp2;go_ret;exact⟨jb (by simp only[im,h0,h1,h2,h3];simp),a⟩
    .go_in
     go_wp2;go_ret;exact⟨jb (by simp only[im,h0,h1,h2,h3];simp),a⟩
   .go_in
    go_wp2;go_ret;exact⟨jb (by simp only[im,h0,h1,h2];simp),a⟩
  .go_in
   go_wp2;go_ret;exact⟨jb (by simp only[im,h0,h1];simp),a⟩
def pt (types:aA)(k:Int)(s:au):Bool:=k==1&&(decide (20<s.size)|| !fk types s)
def QI (w:aw)(tb nb mb:Nat)(k:Int)(s:au)(p:Nat)(i:(k==1)=false):
  Calls prog 261 #[.agg #[.map (some tb),.map (some nb),.map (some mb)],.agg #[aa k,ag s,aa p]] w λe w'=>e= .returned (.tuple #[])/\ak w w':=by
 have⟨c,a,b⟩:=gN w #[.map (some tb),.map (some nb),.map (some mb)] #[aa k,ag s,aa p] 306 148;have⟨d,f⟩:=a.I;have⟨g,h⟩:=b.I;clear d f g h a b;go_in
 go_wp2;go_end0;exact⟨rfl,c⟩
def JT (w:aw)(tb nb mb:Nat)(k:Int)(s:au)(p:Nat)(m:(k==1)=true)(n:20<s.size):
  Calls prog 261 #[.agg #[.map (some tb),.map (some nb),.map (some mb)],.agg #[aa k,ag s,aa p]] w λe w'=>e=d5 3 p/\ak w w':=by
 have⟨c,b,a⟩:=gN w #[.map (some tb),.map (some nb),.map (some mb)] #[aa k,ag s,aa p] 306 148;have⟨g,h⟩:=b.I;have⟨i,j⟩:=a.I;have l:(20:Int)<(s.size:Int):=Vv;go_in
 go_wp2_with fail;clear g h i j;refine wp_region_held_drew (S:=λw'=>w'.cell? (aj w.heap.size 0)=some (.map (some tb))/\w'.cell? (aj (w.heap.size+1) 0)=some (aa k)/\w'.cell? (aj (w.heap.size+1) 1)=some (ag s)/\w'.cell? (aj (w.heap.size+1) 2)=some (aa p)) VA ⟨b.cell 0,a.cell 0,a.cell 1,a.cell 2⟩ (λhHeld=> ?_);refine Vk 0 (.pointer (some (aj (w.heap.size+1) 1))) hHeld ?_;simp only[Act.put,Vo];refine Vk 1 (ag s) hHeld ?_;simp only[Act.put,Vo];refine Vk 2 (aa s.size) hHeld ?_;simp only[Act.put,Vo];refine Vk 3 (.bool true) hHeld ?_;simp only[Act.put,Vo];refine Vk 4 (.bool true) hHeld ?_;simp only[Act.put,Vo];refine Vl 5 undef hHeld ?_;simp only[Act.put,Vo];refine Vl 6 undef hHeld ?_;simp only[Act.put,Vo];refine Vl 7 undef hHeld ?_;simp only[Act.put,Vo];refine Vl 8 undef hHeld ?_;simp only[Act.put,Vo];refine Vl 9 undef hHeld ?_;simp only[Act.put,Vo];refine Vl 10 undef hHeld ?_;simp only[Act.put,Vo];refine Vk 11 (.bool true) hHeld ?_;simp only[Act.put,Vo];refine Vk 12 (.agg #[aa k,ag s,aa p]) hHeld ?_;simp only[Act.put,Vo];refine wpAnyH_ready (rs:= [13]) VA Vw (AllReadyH.cons rfl (λK d=> ?_) AllReadyH.nil);clear d;go_simp;refine(lp _ k s p).V ?_;rintro e o ⟨rfl,f⟩;exact⟨rfl,rfl,c.drew.J (f.V Vx)⟩
def JU (w:aw)(tb nb mb:Nat)(types:aA)(k:Int)(s:au)(p:Nat)(H:fy w tb types)(t:(k==1)=true)(u:s.size<=20)(hm:fk types s=false):
  Calls prog 261 #[.agg #[.map (some tb),.map (some nb),.map (some mb)],.agg #[aa k,ag s,aa p]] w λe w'=>e=d5 3 p/\ak w w':=by
 have⟨g,f,a⟩:=gN w #[.map (some tb),.map (some nb),.map (some mb)] #[aa k,ag s,aa p] 306 148;have⟨m,n⟩:=f.I;have⟨o,q⟩:=a.I;have r:decide ((20:Int)<(s.size:Int))=false:=Vx;have l:s.size<=maxLen:=VC;have h:fy ((w.Vn #[.map (some tb),.map (some nb),.map (some mb)] 306).Vn #[aa k,ag s,aa p] 148).drew tb types:=H.O (g.block _ H.lt);go_in
 go_wp2_with fail;clear m n o q;refine wp_region_held_drew (S:=λw'=>w'.cell? (aj w.heap.size 0)=some (.map (some tb))/\w'.cell? (aj (w.heap.size+1) 0)=some (aa k)/\w'.cell? (aj (w.heap.size+1) 1)=some (ag s)/\w'.cell? (aj (w.heap.size+1) 2)=some (aa p)) VA ⟨f.cell 0,a.cell 0,a.cell 1,a.cell 2⟩ (λhHeld=> ?_);refine Vk 0 (.pointer (some (aj (w.heap.size+1) 1))) hHeld ?_;simp only[Act.put,Vo];refine Vk 1 (ag s) hHeld ?_;simp only[Act.put,Vo];refine Vk 2 (aa s.size) hHeld ?_;simp only[Act.put,Vo];refine Vk 3 (.bool false) hHeld ?_;simp only[Act.put,Vo];refine Vk 4 (.bool false) hHeld ?_;simp only[Act.put,Vo];refine Vk 5 (ah w.heap.size) hHeld ?_;simp only[Act.put,Vo];refine Vk 6 (.map (some tb)) hHeld ?_;simp only[Act.put,Vo];refine Vk 7 (.pointer (some (aj (w.heap.size+1) 1))) hHeld ?_;simp only[Act.put,Vo];refine Vk 8 (ag s) hHeld ?_;simp only[Act.put,Vo];refine Vk 12 (.agg #[aa k,ag s,aa p]) hHeld ?_;simp only[Act.put,Vo];refine wpAnyH_ready (rs:= [9]) VA Vw (AllReadyH.cons rfl (λK c=> ?_) AllReadyH.nil);go_simp;refine(Tt _ tb types s h l).V ?_;rw[hm];rintro e w3 ⟨rfl,b⟩;have i:=f.drew.G b Vx;have d:=a.drew.G b Vw;clear hHeld;refine c.out _ _ ⟨i.cell 0,d.cell 0,d.cell 1,d.cell 2⟩ (λhHeld=> ?_);clear c K;refine Vk 10 (.bool true) hHeld ?_;simp only[Act.put,Vo];refine Vk 11 (.bool true) hHeld ?_;simp only[Act.put,Vo];refine wpAnyH_ready (rs:= [13]) VA Vw (AllReadyH.cons rfl (λK c=> ?_) AllReadyH.nil);clear c;go_simp;refine(lp _ k s p).V ?_;rintro e v ⟨rfl,j⟩;exact⟨rfl,rfl,(g.drew.J (b.V Vx)).J (j.V (by have:=b.size;simp at this;omega))⟩
def QJ (w:aw)(tb nb mb:Nat)(types:aA)(k:Int)(s:au)(p:Nat)(H:fy w tb types)(q:(k==1)=true)(r:s.size<=20)(hm:fk types s=true):
  Calls prog 261 #[.agg #[.map (some tb),.map (some nb),.map (some mb)],.agg #[aa k,ag s,aa p]] w λe w'=>e= .returned (.tuple #[])/\ak w w':=by
 have⟨g,h,i⟩:=gN w #[.map (some tb),.map (some nb),.map (some mb)] #[aa k,ag s,aa p] 306 148;have⟨o,t⟩:=h.I;have⟨u,v⟩:=i.I;have n:decide ((20:Int)<(s.size:Int))=false:=Vx;have m:s.size<=maxLen:=VC;have j:fy ((w.Vn #[.map (some tb),.map (some nb),.map (some mb)] 306).Vn #[aa k,ag s,aa p] 148).drew tb types:=H.O (g.block _ H.lt);go_in
 go_wp2
 go_region_held3 (λw'=>w'.cell? (aj w.heap.size 0)=some (.map (some tb))/\w'.cell? (aj (w.heap.size+1) 0)=some (aa k)/\w'.cell? (aj (w.heap.size+1) 1)=some (ag s)/\w'.cell? (aj (w.heap.size+1) 2)=some (aa p))
  (first|exact⟨l.cell 0,d.cell 0,d.cell 1,d.cell 2⟩|exact⟨c.cell 0,a.cell 0,a.cell 1,a.cell 2⟩|go_keep)
  (first|(go_at_call 179;refine(Tt _ tb types s j m).V ?_;rw[hm];rintro e w3 ⟨rfl,b⟩;have c:=h.drew.G b Vx;have a:=i.drew.G b Vw)|(go_at_call 123;refine(rY _ k s p).V ?_;rintro e x ⟨rfl,f⟩;have l:=c.G f c.lt;have d:=a.G f a.lt))
 go_wp2;go_end0;exact⟨rfl,(g.drew.J (b.V Vx)).J (f.V (by have:=b.size;simp at this;omega))⟩
def UV (w:aw)(tb nb mb:Nat)(types:aA)(k:Int)(s:au)(p:Nat)(H:fy w tb types):
  Vq 261 #[.agg #[.map (some tb),.map (some nb),.map (some mb)],.agg #[aa k,ag s,aa p]] w λe w'=>(if pt types k s then e=d5 3 p else e= .returned (.tuple #[]))/\ak w w':=by
 unfold pt;cases hk:(k==1);.simp only[cV,aU,if_false];exact QI w tb nb mb k s p hk
 .by_cases hl:20<s.size;.simp only[hl,decide_true,dt,dB,if_true];exact JT w tb nb mb k s p hk hl
  .cases hm:fk types s;.simp only[hl,decide_false,dK,dH,dB,if_true];exact JU w tb nb mb types k s p H hk Vv hm
   .simp only[hl,decide_false,dC,de,cW,aU,if_false];exact QJ w tb nb mb types k s p H hk Vv hm
def pu (nums:aB)(n:Nat):Bool:=decide (n<1)||(decide (536870911<n)||Bu nums n)
def UW (w:aw)(tb nb mb:Nat)(k:Int)(s:au)(p:Nat)(y:lq s)(F:GOK w)(nums:aB)(H:iC w mb nums)(Y:nums.length<5000):
  Calls prog 262 #[.agg #[.map (some tb),.map (some nb),.map (some mb)],.agg #[aa k,ag s,aa p]] w λe w'=>if pu nums (jd s)then e=d5 3 p/\ak w w' else e= .returned (.tuple #[])/\iC w' mb (nums++ [jd s])/\ee [mb] w w':=by
 have⟨l,u,v⟩:=gN w #[.map (some tb),.map (some nb),.map (some mb)] #[aa k,ag s,aa p] 306 148;have⟨R,T⟩:=u.I;have⟨U,V⟩:=v.I;obtain⟨n,m⟩:∃n,Hid (jd s=n):=⟨_,rfl⟩;have C:Hid (n<2^64):=by have:=Og s;rw[m.o]at this;exact this
 rw[m.o];obtain⟨q,z⟩:=Vu (pu nums n);rw[z]
 have P:((n:Int)<1/\q=true)\/(decide ((n:Int)<1)=false/\(536870911:Int)<(n:Int)/\q=true)\/(decide ((n:Int)<1)=false/\decide ((536870911:Int)<(n:Int))=false/\Bu nums n=q):=by
  rw[<-z];unfold pu;by_cases h1:n<1;.exact .inl ⟨Vv,by simp[h1]⟩
  .by_cases h2:536870911<n;.exact .inr (.inl ⟨Vx,Vv,by simp[h2]⟩)
   .exact .inr (.inr ⟨Vx,Vx,by simp[h1,h2]⟩)
 clear z;go_in
 go_wp2_with fail;refine(Tv _ k s p y (F.O (l.block _ F.lt))).V ?_;rw[m.o];rintro e w2 ⟨rfl,i⟩;have c:=u.G i Vx;have a:=v.G i Vw;have f:ak w w2:=l.J (i.V Vx);have b:w.heap.size+1<w2.heap.size:=a.lt;have o:Hid (∀W,ak w2 W->W.cell? (aj w.heap.size 2)=some (.map (some mb))/\W.cell? (aj (w.heap.size+1) 0)=some (aa k)/\W.cell? (aj (w.heap.size+1) 1)=some (ag s)/\W.cell? (aj (w.heap.size+1) 2)=some (aa p)):=λW j=>⟨(c.G j c.lt).cell 2,(a.G j a.lt).cell 0,(a.G j a.lt).cell 1,(a.G j a.lt).cell 2⟩
 have A:=(Vs w2).drew;clear R T U V u v l i;go_wp2_with fail;have G:iC w2.drew mb nums:=H.O (f.block _ H.lt);have t:=US _ mb nums n G C.o;rcases P with⟨X,rfl⟩|⟨M,N,rfl⟩|⟨M,N,Q⟩;rotate_right;rw[Q]at t;cases q
 .go_region_held3 (λw'=>w'.cell? (aj w.heap.size 2)=some (.map (some mb))/\w'.cell? (aj (w.heap.size+1) 0)=some (aa k)/\w'.cell? (aj (w.heap.size+1) 1)=some (ag s)/\w'.cell? (aj (w.heap.size+1) 2)=some (aa p))
   (first|exact o.o _ (dW x D)|exact o.o _ x|exact o.o _ A)
   (first|(go_at_call 342;refine t.V ?_;rintro e w3 ⟨rfl,d⟩;have x:=dW A d)|(go_at_call 123;refine(rY _ k s p).V ?_;rintro e h ⟨rfl,D⟩))
  have E:=dW x D;have B:ak w h:=dW f E;have I:iC h mb nums:=H.O (B.block _ H.lt);have⟨Z,b⟩:=(c.G E c.lt).I;go_wp2_with fail;refine(UR _ mb nums n I VC C.o).V ?_;rintro e b ⟨rfl,J,O⟩;go_wp2;go_end0;exact⟨rfl,J,(ee.oB B).J O⟩
 all_goals refine wp_region_held_drew (S:=λw'=>w'.cell? (aj w.heap.size 2)=some (.map (some mb))/\w'.cell? (aj (w.heap.size+1) 0)=some (aa k)/\w'.cell? (aj (w.heap.size+1) 1)=some (ag s)/\w'.cell? (aj (w.heap.size+1) 2)=some (aa p)) VA ⟨c.cell 2,a.cell 0,a.cell 1,a.cell 2⟩ (λhHeld=> ?_)
 .refine Vk 0 (.int .u64 (n:Int)) hHeld ?_;simp only[Act.put,Vo];refine Vk 1 (.bool false) hHeld ?_;simp only[Act.put,Vo];refine Vk 2 (.bool false) hHeld ?_;simp only[Act.put,Vo];refine Vk 3 (.int .u64 (n:Int)) hHeld ?_;simp only[Act.put,Vo];refine Vk 4 (.bool false) hHeld ?_;simp only[Act.put,Vo];refine Vk 5 (.bool false) hHeld ?_;simp only[Act.put,Vo];refine Vk 6 (.bool false) hHeld ?_;simp only[Act.put,Vo];refine Vk 7 (.pointer (some (aj w.heap.size 2))) hHeld ?_;simp only[Act.put,Vo];refine Vk 8 (.map (some mb)) hHeld ?_;simp only[Act.put,Vo];refine Vk 9 (.int .u64 (n:Int)) hHeld ?_;simp only[Act.put,Vo];refine Vk 12 (.agg #[aa k,ag s,aa p]) hHeld ?_;simp only[Act.put,Vo];refine wpAnyH_ready (rs:= [10]) VA Vw (AllReadyH.cons rfl (λK b=> ?_) AllReadyH.nil);go_simp;refine t.V ?_;rintro e w3 ⟨rfl,d⟩;have L:=c.drew.G d c.lt;have r:=a.drew.G d a.lt;clear hHeld;refine b.out _ _ ⟨L.cell 2,r.cell 0,r.cell 1,r.cell 2⟩ (λhHeld=> ?_);clear b K;refine Vk 11 (.bool true) hHeld ?_;simp only[Act.put,Vo];refine wpAnyH_ready (rs:= [13]) VA Vw (AllReadyH.cons rfl (λK b=> ?_) AllReadyH.nil);clear b;go_simp;refine(lp _ k s p).V ?_;rintro e h ⟨rfl,g⟩;exact⟨rfl,rfl,(f.drew.J (d.V Vx)).J (g.V (by have:=d.size;simp at this;omega))⟩
 .refine Vk 0 (.int .u64 (n:Int)) hHeld ?_;simp only[Act.put,Vo];refine Vk 1 (.bool true) hHeld ?_;simp only[Act.put,Vo];refine Vk 2 (.bool true) hHeld ?_;simp only[Act.put,Vo];refine Vl 3 undef hHeld ?_;simp only[Act.put,Vo];refine Vl 4 undef hHeld ?_;simp only[Act.put,Vo];refine Vk 5 (.bool true) hHeld ?_;simp only[Act.put,Vo];refine Vk 6 (.bool true) hHeld ?_;simp only[Act.put,Vo];refine Vl 7 undef hHeld ?_;simp only[Act.put,Vo];refine Vl 8 undef hHeld ?_;simp only[Act.put,Vo];refine Vl 9 undef hHeld ?_;simp only[Act.put,Vo];refine Vl 10 undef hHeld ?_;simp only[Act.put,Vo];refine Vk 11 (.bool true) hHeld ?_;simp only[Act.put,Vo];refine Vk 12 (.agg #[aa k,ag s,aa p]) hHeld ?_;simp only[Act.put,Vo];refine wpAnyH_ready (rs:= [13]) VA Vw (AllReadyH.cons rfl (λK b=> ?_) AllReadyH.nil);clear b;go_simp;refine(lp _ k s p).V ?_;rintro e h ⟨rfl,g⟩;exact⟨rfl,rfl,f.drew.J (g.V Vx)⟩
 .refine Vk 0 (.int .u64 (n:Int)) hHeld ?_;simp only[Act.put,Vo];refine Vk 1 (.bool false) hHeld ?_;simp only[Act.put,Vo];refine Vk 2 (.bool false) hHeld ?_;simp only[Act.put,Vo];refine Vk 3 (.int .u64 (n:Int)) hHeld ?_;simp only[Act.put,Vo];refine Vk 4 (.bool true) hHeld ?_;simp only[Act.put,Vo];refine Vk 5 (.bool true) hHeld ?_;simp only[Act.put,Vo];refine Vk 6 (.bool true) hHeld ?_;simp only[Act.put,Vo];refine Vl 7 undef hHeld ?_;simp only[Act.put,Vo];refine Vl 8 undef hHeld ?_;simp only[Act.put,Vo];refine Vl 9 undef hHeld ?_;simp only[Act.put,Vo];refine Vl 10 undef hHeld ?_;simp only[Act.put,Vo];refine Vk 11 (.bool true) hHeld ?_;simp only[Act.put,Vo];refine Vk 12 (.agg #[aa k,ag s,aa p]) hHeld ?_;simp only[Act.put,Vo];refine wpAnyH_ready (rs:= [13]) VA Vw (AllReadyH.cons rfl (λK b=> ?_) AllReadyH.nil);clear b;go_simp;refine(lp _ k s p).V ?_;rintro e h ⟨rfl,g⟩;exact⟨rfl,rfl,f.drew.J (g.V Vx)⟩
def JV (l:aB)(h:l.Nodup):Maps.size (setOf (H:=Unit) (.agg []) (l.map rH))=l.length:=by
 rw[size_setOf _ _ (by intro x b;obtain⟨y,_,rfl⟩:=aS.1 b;exact trivial)]
 have key:∀(l a:aB),(a++l).Nodup->((l.map rH).foldl addKey (a.map rH))=(a++l).map rH:=by
  intro l
  induction l with
  |nil=>intro a _;simp
  |cons x l ih=>
   intro a c;have b:(a.map rH).any (λy=>y.sameKey (rH x))=false:=(by rw[List.any_map,dL];intro y f;have d:y≠x:=(by rintro rfl;have:=dM.1 c;exact this.2.2 _ f _ Vw rfl);show¬decide (IntKind.u64=IntKind.u64/\(y:Int)=(x:Int))=true;simp;omega);have e:addKey (a.map rH) (rH x)=(a++ [x]).map rH:=(by unfold addKey;simp[b]);rw[bC,List.foldl_cons,e,ih (a++ [x]) (by simpa using c)];simp
 have:=key l [] (by simpa using h);simp only[cF,aX]at this;rw[this];simp
def kJ (types names:aA)(nums:aB)(tk:Int)(ts:au)(tp:Nat)(ns:au)(np:Nat)(ms:au)(mp:Nat):Except Nat (aA×aB):=
 if pt types tk ts then .error tp
 else if iT names ns then .error np
 else if decide (12<=nums.length)then .error np
 else if pu nums (jd ms)then .error mp
 else .ok (names++ [ns],nums++ [jd ms])
def vw (types names:aA)(nums:aB)(form kk:Int)(ks:au)(kp:Nat)(tk:Int)(ts:au)(tp:Nat)(ns:au)(np:Nat)(ms:au)(mp:Nat):Except Nat (aA×aB):=
 if form==4&& !im kk ks then .error kp else kJ types names nums tk ts tp ns np ms mp
def SD (nb mb:Nat)(w:aw)(r:Except Nat (aA×aB))(e:Ending)(w':aw):Prop:=
 match r with
 | .error p=>e=d5 3 p/\ee [nb,mb] w w'
 | .ok (names,nums)=>e= .returned (.tuple #[])/\fy w' nb names/\iC w' mb nums/\ee [nb,mb] w w'
def UX (w:aw)(tb nb mb:Nat)(types names:aA)(nums:aB)(form kk:Int)(ks:au)(kp:Nat)(tk:Int)(ts:au)(tp:Nat)(nk:Int)(ns:au)(np:Nat)(mk:Int)(ms:au)(mp:Nat)(U:fy w tb types)(M:fy w nb names)(L:iC w mb nums)(d3:nb≠mb)(H:5≠nb)(Q:names.length<5000)(P:nums.length<5000)(T:nums.Nodup)(R:lq ms)(B:GOK w):
  Calls prog 180 #[.agg #[.map (some tb),.map (some nb),.map (some mb)],.agg #[aa form,aa kk,ag ks,aa kp,aa tk,ag ts,aa tp,aa nk,ag ns,aa np,aa mk,ag ms,aa mp]] w (SD nb mb w (vw types names nums form kk ks kp tk ts tp ns np ms mp)):=by
 obtain⟨r,D⟩:∃r,Hid ((if form==4&& !im kk ks then .error kp else kJ types names nums tk ts tp ns np ms mp)=r):=⟨_,rfl⟩;rw[show vw types names nums form kk ks kp tk ts tp ns np ms mp=r from D.o]
 have m:(form==4)=false\/((form==4)=true/\im kk ks=true)\/((form==4)=true/\im kk ks=false):=by
  generalize(form==4)=x;generalize im kk ks=y
  revert x y;decide
 have⟨C,v,b⟩:=gN w #[.map (some tb),.map (some nb),.map (some mb)] #[aa form,aa kk,ag ks,aa kp,aa tk,ag ts,aa tp,aa nk,ag ns,aa np,aa mk,ag ms,aa mp] 306 211;have⟨c,d⟩:=v.I;have⟨f,g⟩:=b.I;have j:=U.lt;have k:=M.lt;have I:=L.lt;go_in
 rcases m with m|⟨m,z⟩|⟨m,z⟩;have n:Hid (kJ types names nums tk ts tp ns np ms mp=r):=by have:=D.o;rw[m]at this;exact this
 have i:=C;have s:=v;have o:=b;clear c d f g;rotate_left;have n:Hid (kJ types names nums tk ts tp ns np ms mp=r):=by have:=D.o;rw[m,z]at this;exact this
 focus
  go_wp2
  go_region_held3 (λw'=>w'.cell? (aj (w.heap.size+1) 1)=some (aa kk)/\w'.cell? (aj (w.heap.size+1) 2)=some (ag ks)/\w'.cell? (aj (w.heap.size+1) 3)=some (aa kp))
   (first|exact⟨q.cell 1,q.cell 2,q.cell 3⟩|exact⟨h.cell 1,h.cell 2,h.cell 3⟩|exact⟨b.cell 1,b.cell 2,b.cell 3⟩)
   (first|(go_at_call 260;refine(Uy _ kk ks kp).V ?_;rw[z];rintro e w3 ⟨rfl,a⟩;have h:=b.drew.G a b.lt)|(go_at_call 123;refine(rY _ kk ks kp).V ?_;rintro e w2 ⟨rfl,p⟩;have q:=h.G p h.lt))
  have i:ak w w2:=(C.drew.J (a.V Vx)).J (p.V (by have:=a.size;simp at this;omega));have s:=(v.drew.G a v.lt).G p (by have:=a.size;simp at this;omega);have o:=q;clear c d f g h q a p C v b
 rotate_left
 .obtain rfl:r= .error kp:=by rw[<-D.o,m,z];rfl
  go_wp2;refine wp_region_held_drew (S:=λw'=>w'.cell? (aj (w.heap.size+1) 1)=some (aa kk)/\w'.cell? (aj (w.heap.size+1) 2)=some (ag ks)/\w'.cell? (aj (w.heap.size+1) 3)=some (aa kp)) VA ⟨b.cell 1,b.cell 2,b.cell 3⟩ (λhHeld=> ?_);refine Vj 0 (.pointer (some (aj (w.heap.size+1) 1))) hHeld ?_;simp only[Act.put,Vo];refine Vj 1 (.agg #[aa kk,ag ks,aa kp]) hHeld ?_;simp only[Act.put,Vo];refine Vj 4 (.pointer (some (aj (w.heap.size+1) 1))) hHeld ?_;simp only[Act.put,Vo];refine Vj 5 (.agg #[aa kk,ag ks,aa kp]) hHeld ?_;simp only[Act.put,Vo];refine wpAnyH_ready (rs:= [2]) VA Vw (AllReadyH.cons rfl (λK G=> ?_) AllReadyH.nil);clear c d f g;go_simp;refine(Uy _ kk ks kp).V ?_;rw[z];rintro e w3 ⟨rfl,a⟩;have h:=b.drew.G a b.lt;clear hHeld;refine G.out _ _ ⟨h.cell 1,h.cell 2,h.cell 3⟩ (λhHeld=> ?_);clear G K;refine Vj 3 (.bool true) hHeld ?_;simp only[Act.put,Vo];refine wpAnyH_ready (rs:= [6]) VA Vw (AllReadyH.cons rfl (λK G=> ?_) AllReadyH.nil);clear G;go_simp;refine(lp _ kk ks kp).V ?_;rintro e l ⟨rfl,b⟩;exact⟨rfl,rfl,ee.oB ((C.drew.J (a.V Vx)).J (b.V (by have:=a.size;simp at this;omega)))⟩
 all_goals
  have b:=U.O (i.block _ j);have m:=M.O (i.block _ k);have q:=L.O (i.block _ I);have u:=B.O (i.block _ B.lt);have h:=o.lt;have⟨c,d⟩:=s.I;have⟨f,g⟩:=o.I;go_wp2_with fail;clear c d f g;refine(UV _ tb nb mb types tk ts tp b).V ?_;cases h1:pt types tk ts;rotate_left
  .rintro e w3 ⟨N,a⟩;obtain rfl:e=d5 3 tp:=by simpa using N
   obtain rfl:r= .error tp:=by rw[<-n.o,kJ];simp only[h1,if_true]
   unfold d5;go_wp2;exact⟨rfl,rfl,ee.oB (i.J (a.V i.size))⟩
  rintro e w3 ⟨N,a⟩;obtain rfl:e= .returned (.tuple #[]):=by simpa using N
  have j:=i.J (a.V i.size);have E:=s.G a s.lt;have t:=o.G a o.lt;have h:fy w3 nb names:=M.O (j.block _ k);have i:=t.lt;clear s o a b m q u;have⟨c,d⟩:=E.I;have⟨f,g⟩:=t.I;go_wp2_with fail;clear c d f g;refine(Tu _ nb names nk ns np h Q).V ?_;cases h2:iT names ns;rotate_left
  .rintro e l ⟨rfl,p⟩;obtain rfl:r= .error np:=by rw[<-n.o,kJ];simp only[h1,h2,if_true,aU,if_false]
   unfold d5;go_wp2;exact⟨rfl,rfl,ee.oB (j.J (p.V j.size))⟩
  rintro e l ⟨rfl,X,A⟩;have a:w.heap.size≠nb:=Vv;have b:w.heap.size+1≠nb:=Vv;have O:ee [nb,mb] w l:=(ee.oB j).J (A.V Vw);have F:dZ l w.heap.size #[.map (some tb),.map (some nb),.map (some mb)] 306:=(A.block _ E.lt (by simpa using a)).J E;have u:dZ l (w.heap.size+1) #[aa form,aa kk,ag ks,aa kp,aa tk,ag ts,aa tp,aa nk,ag ns,aa np,aa mk,ag ms,aa mp] 211:=(A.block _ t.lt (by simpa using b)).J t;have J:iC l mb nums:=L.O ((A.block _ (aI I j.size) (by simpa using λe=>d3 e.sy)).J (j.block _ I));have V:GOK l:=B.O ((A.block _ (aI B.lt j.size) (by simpa using H)).J (j.block _ B.lt));have Z:l.ownsMap prog 53 (unitElem (H:=Unit)) mb nums.length (setOf (.agg []) (nums.map rH)):=J;have a:=u.lt;clear E t h;have⟨c,d⟩:=F.I;have⟨f,g⟩:=u.I;cases h3:decide (12<=nums.length);rotate_left
  .have a:(12:Int)<=(nums.length:Int):=by have:=of_decide_eq_true h3;omega
   obtain rfl:r= .error np:=by rw[<-n.o,kJ];simp only[h1,h2,h3,if_true,aU,if_false]
   go_wp2_with (at_len;refine wpList_len_own _ rfl _ 304 rfl 53 162 underlying304 _ mb _ _ rfl Z ?_;rw[JV nums T])
   refine(lp _ nk ns np).V ?_;rintro e b ⟨rfl,k⟩;unfold d5;go_wp2;exact⟨rfl,rfl,O.J (ee.oB k)⟩
  have a:decide ((12:Int)<=(nums.length:Int))=false:=by have:=of_decide_eq_false h3;simp;omega
  go_wp2_with (at_len;refine wpList_len_own _ rfl _ 304 rfl 53 162 underlying304 _ mb _ _ rfl Z ?_;rw[JV nums T])
  refine(rY _ nk ns np).V ?_;rintro e b ⟨rfl,k⟩;have T:=O.J (ee.oB k);have b:=F.G k F.lt;have h:=u.G k u.lt;have W:=X.O (k.block _ X.lt);have i:=J.O (k.block _ J.lt);have j:=V.O (k.block _ V.lt);clear F u c d f g a;have⟨c,d⟩:=b.I;have⟨f,g⟩:=h.I;go_wp2_with fail;clear c d f g;refine(UW _ tb nb mb mk ms mp R j nums i P).V ?_;cases h4:pu nums (jd ms);rotate_left
  .rintro e w6 ⟨rfl,a⟩;obtain rfl:r= .error mp:=by rw[<-n.o,kJ];simp only[h1,h2,h3,h4,if_true,aU,if_false]
   unfold d5;go_wp2;exact⟨rfl,rfl,T.J (ee.oB a)⟩
  rintro e w6 ⟨rfl,a,Y⟩;obtain rfl:r= .ok (names++ [ns],nums++ [jd ms]):=by rw[<-n.o,kJ];simp only[h1,h2,h3,h4,aU,if_false]
  go_wp2;go_end0;exact⟨rfl,W.O (Y.block _ W.lt (by simpa using d3)),a,T.J (Y.V Vw)⟩
def qR (x:W×W):(Fg x).length=6:=rfl
def lr:List ByteArray->List (W×W)->Except Nat (List ByteArray)
 |names,[]=> .ok names
 |names,v::vs=>if iT names v.1.1 then .error v.1.2 else if decide (2147483647<jd v.2.1)then .error v.2.2 else lr (names++ [v.1.1]) vs
def Bv {α:Type}(r:Except Nat α)(e:Ending):Prop:=
 match r with
 | .error p=>e=d5 3 p
 | .ok _=>e= .returned (.tuple #[])
def UY (w:World)(eb:Bool)(bk:Int)(bs:ByteArray)(bp:Nat)(pa:Option Addr)(pn pc:Nat)(va:Option Addr)(vn vc:Nat)(vs:List (W×W))(f:w.ownsRow 0 302 6 (.slice va vn vc) vs.length (vs.flatMap Fg))(hlen:vs.length<=2001)(n:∀v∈vs,lq v.2.1)(P:GOK w):
  Calls prog 122 #[.agg #[.bool eb,.int .i64 bk,.string bs,.int .i64 bp,.slice pa pn pc,.slice va vn vc]] w λe w'=>Bv (lr [] vs) e/\Below w.heap.size w w':=by
 have V:=fj f;subst V;have a:= @run_makeMap prog;have z:Below w.heap.size w ((w.alloc (Obj.cells #[.bool eb,.int .i64 bk,.string bs,.int .i64 bp,.slice pa pn pc,.slice va vs.length vc] 152)).alloc (Obj.map #[] 0)):=(Vt w _).alloc Vw _;have B:fy ((w.Vn #[.bool eb,.int .i64 bk,.string bs,.int .i64 bp,.slice pa pn pc,.slice va vs.length vc] 152).alloc (Obj.map #[] 0)) (w.heap.size+1) []:=(by have:=World.ownsMap_made (w.Vn #[.bool eb,.int .i64 bk,.string bs,.int .i64 bp,.slice pa pn pc,.slice va vs.length vc] 152) prog 9 (unitElem (H:=Unit));simpa [fy,setOf]using this);have a:((w.alloc (Obj.cells #[.bool eb,.int .i64 bk,.string bs,.int .i64 bp,.slice pa pn pc,.slice va vs.length vc] 152)).alloc (Obj.map #[] 0)).heap.size=w.heap.size+2:=Vw;generalize hr:lr [] vs=r;have R:Hid (lr [] vs=r):=hr;clear hr;go_in
 go_wp2;go_loopw [9] (λi wr=>∃(k:Nat) (names:List ByteArray),k<=vs.length/\i= .int .i64 k/\names.length<=k/\Hid (lr names (vs.drop k)=r)/\fy wr (w.heap.size+1) names/\Below w.heap.size w wr/\w.heap.size+1<wr.heap.size) (λi _=>vs.length-(intOf i).toNat)
 case atStart=>exact⟨0,[],aP _,rfl,Vw,R,B,z,Vv⟩
 case round=>
  clear B z a;obtain⟨k,names,b,rfl,a,q,A,o,c⟩:=hrel;by_cases hlt:k<vs.length
  .have⟨v,c⟩:=gx hlt;have G:v∈vs:=aL c;have C:vs.drop k=v::vs.drop (k+1):=(by rw[be hlt];rw[aO hlt]at c;rw[Option.some.inj c]);have y:Hid (lr names (v::vs.drop (k+1))=r):=by rw[<-C];exact q
   obtain⟨g,rfl,_,T,E⟩:=eJ f Vv;have h:=E wr (o.block g T);have a:=h (k*6) _ ((gd Fg 6 qR vs k v c 0 Vv).J rfl);have b:=h (k*6+1) _ ((gd Fg 6 qR vs k v c 1 Vv).J rfl);have d:=h (k*6+2) _ ((gd Fg 6 qR vs k v c 2 Vv).J rfl);have f:=h (k*6+3) _ ((gd Fg 6 qR vs k v c 3 Vv).J rfl);have g:=h (k*6+4) _ ((gd Fg 6 qR vs k v c 4 Vv).J rfl);have i:=h (k*6+5) _ ((gd Fg 6 qR vs k v c 5 Vv).J rfl);have I:=n v G;have t:=dZ.new wr #[.int .i64 (dX v.1.1),.string v.1.1,.int .i64 v.1.2,.int .i64 (dX v.2.1),.string v.2.1,.int .i64 v.2.2] 302;have m:=o.alloc o.size (Obj.cells #[.int .i64 (dX v.1.1),.string v.1.1,.int .i64 v.1.2,.int .i64 (dX v.2.1),.string v.2.1,.int .i64 v.2.2] 302);have J:fy (wr.Vn #[.int .i64 (dX v.1.1),.string v.1.1,.int .i64 v.1.2,.int .i64 (dX v.2.1),.string v.2.1,.int .i64 v.2.2] 302) (w.heap.size+1) names:=A.O (Below.l _ _ _ A.lt);clear E h c C q G;go_wp2_with fail;clear a b d f g i;refine(Tu _ (w.heap.size+1) names _ v.1.1 v.1.2 J Vv).V ?_;cases h1:iT names v.1.1;rotate_left
   .rintro e a ⟨rfl,U⟩;obtain rfl:r= .error v.1.2:=by rw[<-y.o,lr];simp only[h1,if_true]
    unfold d5;go_wp2;exact⟨rfl,rfl,m.J (U.V m.size)⟩
   rintro e a ⟨rfl,M,N⟩;have j:Below w.heap.size w a:=m.J (N.to_below m.size (by intro x b;simp at b;omega));have b:dZ a wr.heap.size #[.int .i64 (dX v.1.1),.string v.1.1,.int .i64 v.1.2,.int .i64 (dX v.2.1),.string v.2.1,.int .i64 v.2.2] 302:=(N.block _ t.lt Vx).J t;have L:GOK a:=P.O (j.block _ P.lt);have c:=b.lt;clear t m J;go_wp2_with fail;cases h2:decide (2147483647<jd v.2.1);rotate_left
   .have Z:(2147483647:Int)<((jd v.2.1:Nat):Int):=by have:=of_decide_eq_true h2;omega
    obtain rfl:r= .error v.2.2:=by rw[<-y.o,lr];simp only[h1,h2,if_true,aU,if_false]
    refine wp_region_held_drew (S:=λw'=>w'.cell? ⟨wr.heap.size,3,none⟩=some (.int .i64 (dX v.2.1))/\w'.cell? ⟨wr.heap.size,4,none⟩=some (.string v.2.1)/\w'.cell? ⟨wr.heap.size,5,none⟩=some (.int .i64 v.2.2)) VA ⟨b.cell 3,b.cell 4,b.cell 5⟩ (λhHeld=> ?_);refine Vj 0 (.pointer (some ⟨wr.heap.size,3,none⟩)) hHeld ?_;simp only[Act.put,Vo];refine Vj 1 (.agg #[.int .i64 (dX v.2.1),.string v.2.1,.int .i64 v.2.2]) hHeld ?_;simp only[Act.put,Vo];refine Vj 4 (.pointer (some ⟨wr.heap.size,3,none⟩)) hHeld ?_;simp only[Act.put,Vo];refine Vj 5 (.agg #[.int .i64 (dX v.2.1),.string v.2.1,.int .i64 v.2.2]) hHeld ?_;simp only[Act.put,Vo];refine wpAnyH_ready (rs:= [2]) VA Vw (AllReadyH.cons rfl (λK p=> ?_) AllReadyH.nil);go_simp;refine(Tv _ _ v.2.1 v.2.2 I (L.O (w':=a.drew) rfl)).V ?_;rintro e Q ⟨rfl,l⟩;have d:=b.drew.G l b.lt;clear hHeld;refine p.out _ _ ⟨d.cell 3,d.cell 4,d.cell 5⟩ (λhHeld=> ?_);clear p K;refine Vj 3 (.bool true) hHeld ?_;simp only[Act.put,Vo];refine wpAnyH_ready (rs:= [6]) VA Vw (AllReadyH.cons rfl (λK p=> ?_) AllReadyH.nil);clear p;go_simp;refine(lp _ _ v.2.1 v.2.2).V ?_;rintro e w6 ⟨rfl,Y⟩;exact⟨rfl,rfl,(j.drew.J (l.V j.size)).J (Y.V (aM j.size l.size))⟩
   have Z:decide ((2147483647:Int)<((jd v.2.1:Nat):Int))=false:=by have:=of_decide_eq_false h2;simp;omega
   have X:Hid (lr (names++ [v.1.1]) (vs.drop (k+1))=r):=(by have:=y.o;rw[lr]at this;simp only[h1,h2,aU,if_false]at this;exact this)
   go_region_held3 (λw'=>w'.cell? ⟨wr.heap.size,3,none⟩=some (.int .i64 (dX v.2.1))/\w'.cell? ⟨wr.heap.size,4,none⟩=some (.string v.2.1)/\w'.cell? ⟨wr.heap.size,5,none⟩=some (.int .i64 v.2.2))
    (first|exact⟨s.cell 3,s.cell 4,s.cell 5⟩|exact⟨d.cell 3,d.cell 4,d.cell 5⟩|exact⟨b.cell 3,b.cell 4,b.cell 5⟩)
    (first|(go_at_call 165;refine(Tv _ _ v.2.1 v.2.2 I (L.O (w':=a.drew) rfl)).V ?_;rintro e Q ⟨rfl,l⟩;have d:=b.drew.G l b.lt)|(go_at_call 123;refine(rY _ _ v.2.1 v.2.2).V ?_;rintro e w6 ⟨rfl,O⟩;have s:=d.G O d.lt))
   go_wp2;go_roundw
   case rel=>
    go_light;have F:Below a.heap.size a Q:=(Vs a).drew.J l;have u:Below a.heap.size a w6:=F.J (O.V F.size);refine⟨k+1,names++ [v.1.1],Vv,by go_num,Vx,X,M.O (u.block _ M.lt),j.J (u.V j.size),?_⟩;have:=u.size;omega
   case measure=>go_light;simp[intOf];omega
  .have D:vs.drop k= []:=by rw[cU];omega
   obtain rfl:r= .ok names:=by rw[<-q.o,D];rfl
   clear D;go_wp2;go_end0;exact⟨rfl,o⟩
def QK (f:eW):sH f= [aa f.form,aa (mX f.key),ag (jM f.key),aa (nU f.key),aa (dX f.type.1),ag f.type.1,aa f.type.2,aa (dX f.name.1),ag f.name.1,aa f.name.2,aa (dX f.num.1),ag f.num.1,aa f.num.2]:=by
 obtain⟨form,key,b,nm,a⟩:=f;cases key<;>rfl
def xz {w:aw}{g:Nat}{fs:List eW}{j:Nat}{f:eW}(b:fs[j]?=some f)(h:∀(i:Nat) v,(fs.flatMap sH)[i]?=some v->w.cell? (aj g i)=some v):
  w.cell? (aj g (j*13))=some (aa f.form)/\w.cell? (aj g (j*13+1))=some (aa (mX f.key))/\w.cell? (aj g (j*13+2))=some (ag (jM f.key))/\w.cell? (aj g (j*13+3))=some (aa (nU f.key))/\w.cell? (aj g (j*13+4))=some (aa (dX f.type.1))/\w.cell? (aj g (j*13+5))=some (ag f.type.1)/\w.cell? (aj g (j*13+6))=some (aa f.type.2)/\w.cell? (aj g (j*13+7))=some (aa (dX f.name.1))/\w.cell? (aj g (j*13+8))=some (ag f.name.1)/\w.cell? (aj g (j*13+9))=some (aa f.name.2)/\w.cell? (aj g (j*13+10))=some (aa (dX f.num.1))/\w.cell? (aj g (j*13+11))=some (ag f.num.1)/\w.cell? (aj g (j*13+12))=some (aa f.num.2):=by
 have a:=λ(i:Nat) hi=>gd sH 13 Oa fs j f b i hi
 rw[QK]at a;refine⟨h _ _ (a 0 Vv),h _ _ (a 1 Vv),h _ _ (a 2 Vv),h _ _ (a 3 Vv),h _ _ (a 4 Vv),h _ _ (a 5 Vv),h _ _ (a 6 Vv),h _ _ (a 7 Vv),h _ _ (a 8 Vv),h _ _ (a 9 Vv),h _ _ (a 10 Vv),h _ _ (a 11 Vv),h _ _ (a 12 Vv)⟩
def fM.get {w:aw}{S:ax}:∀{ps:List fK} {cs:ay} {i:Nat} {p:fK},fM w S cs ps->ps[i]?=some p->∃fa fn fc,
   cs[i*4]?=some (aa (mX p.oneof))/\cs[i*4+1]?=some (ag (jM p.oneof))/\cs[i*4+2]?=some (aa (nU p.oneof))/\cs[i*4+3]?=some (.slice fa fn fc)/\
   eP w S 211 13 (.slice fa fn fc) p.fields.length (p.fields.flatMap sH)
 | [],_,_,_,_,h=>by simp at h
 |q::ps,cs,0,p,⟨fa,fn,fc,rest,h1,h2,h3⟩,h=>by
  simp at h;subst h h1
  exact⟨fa,fn,fc,rfl,rfl,rfl,rfl,h2⟩
 |q::ps,cs,i+1,p,⟨fa,fn,fc,rest,h1,h2,h3⟩,h=>by
  subst h1;obtain⟨g,k,j,a,b,c,d,f⟩:=fM.get h3 (i:=i) (by simpa using h);have e:(i+1)*4=i*4+1+1+1+1:=Vv;refine⟨g,k,j,?_,?_,?_,?_,f⟩;.rw[e];simpa using a
  .rw[show(i+1)*4+1=(i*4+1)+1+1+1+1 from by omega];simpa using b
  .rw[show(i+1)*4+2=(i*4+2)+1+1+1+1 from by omega];simpa using c
  .rw[show(i+1)*4+3=(i*4+3)+1+1+1+1 from by omega];simpa using d
def nV (types names:aA)(nums:aB)(f:eW):Except Nat (aA×aB):=
 vw types names nums f.form (mX f.key) (jM f.key) (nU f.key) (dX f.type.1) f.type.1 f.type.2 f.name.1 f.name.2 f.num.1 f.num.2
def gB (types:aA):aA->aB->List eW->Except Nat (aA×aB)
 |names,nums,[]=> .ok (names,nums)
 |names,nums,f::fs=>
  match nV types names nums f with
  | .error p=> .error p
  | .ok (n,m)=>gB types n m fs
def nh (types names:aA)(nums:aB)(p:fK):Except Nat (aA×aB):=
 if mX p.oneof==1 then
  if iT names (jM p.oneof)then .error (nU p.oneof)else gB types (names++ [jM p.oneof]) nums p.fields
 else gB types names nums p.fields
def gS (types:aA):aA->aB->List fK->Except Nat (aA×aB)
 |names,nums,[]=> .ok (names,nums)
 |names,nums,p::ps=>
  match nh types names nums p with
  | .error q=> .error q
  | .ok (n,m)=>gS types n m ps
def mN:List fK->Nat
 | []=>0
 |p::ps=>1+p.fields.length+mN ps
def xA:∀ps:List fK,ps.length<=mN ps
 | []=>aE _
 |p::ps=>by have:=xA ps;simp only[bw,mN];omega
def xB {types names:aA}{nums:aB}{f:eW}{n:aA}{m:aB}(h:nV types names nums f= .ok (n,m))(g:nums.Nodup):
  n.length=names.length+1/\m.length=nums.length+1/\m.Nodup:=by
 unfold nV vw kJ at h;split at h;.simp at h
 .split at h;.simp at h
  .split at h;.simp at h
   .split at h;.simp at h
    .split at h;.simp at h
     .rename_i c;simp at h;obtain⟨rfl,rfl⟩:=h;refine⟨Vw,Vw,?_⟩;have d:Bu nums (jd f.num.1)=false:=(by unfold pu at c;simp at c;exact c.2.2);rw[dM];refine⟨g,Vw,λa i b e=> ?_⟩;simp at e;subst e;rintro rfl;unfold Bu at d;rw[dL]at d;exact d _ i Vw
def QL {w W:aw}{a:Obj}{cs:aq}{T:TypeId}(h:(((w.alloc a).alloc (Obj.map #[] 0)).alloc (Obj.map #[] 0)).alloc (Obj.cells cs T)=W):ak w W/\fy W (w.heap.size+1) []/\iC W (w.heap.size+1+1) []/\dZ W (w.heap.size+1+1+1) cs T:=by
 subst h;refine⟨(((Vt w _).alloc Vw _).alloc Vx _).alloc Vx _,?_,?_,?_⟩;.have:=((World.ownsMap_made (w.alloc a) prog 9 (unitElem (H:=Unit))).alloc (Obj.map #[] 0)).alloc (Obj.cells cs T);simpa [fy,setOf]using this
 .have:=(World.ownsMap_made ((w.alloc a).alloc (Obj.map #[] 0)) prog 53 (unitElem (H:=Unit))).alloc (Obj.cells cs T);simpa [iC,setOf]using this
 .have:=dZ.new (((w.alloc a).alloc (Obj.map #[] 0)).alloc (Obj.map #[] 0)) cs T;simpa using this
def UZ (w:aw)(tb:Nat)(types:aA)(eb:Bool)(bk:Int)(bs:au)(bp:Nat)(pa:aC)(pn pc:Nat)(va:aC)(vn vc:Nat)(ps:List fK)(pcs:ay)(S:ax)
  (s:eP w S 208 4 (.slice pa pn pc) ps.length pcs) (a:fM w S pcs ps) (N:fy w tb types) (hlen:mN ps<=2001) (K:∀p∈ps,∀f∈p.fields,lq f.num.1) (C:GOK w):
  Calls prog 124 #[.agg #[.bool eb,aa bk,ag bs,aa bp,.slice pa pn pc,.slice va vn vc],.map (some tb)] w λe w'=>Bv (gS types [] [] ps) e/\ak w w':=by
 have b:=fj s.1;subst b;have b:= @run_makeMap prog;have Wu:=N.lt;have b:ps.length<=2001:=aM (xA ps) hlen;generalize hr:gS types [] [] ps=r;have h:Hid (gS types [] [] ps=r):=hr;clear hr;go_in
 go_wp2;generalize hW:World.alloc _ _=B;obtain⟨b,d,g,c⟩:=QL hW;clear hW;go_loopw [16] (λi wr=>∃(k:Nat) (names:aA) (nums:aB),k<=ps.length/\i=aa k/\names.length+mN (ps.drop k)<=2001/\nums.length+mN (ps.drop k)<=2001/\nums.Nodup/\Hid (gS types names nums (ps.drop k)=r)/\fy wr (w.heap.size+1) names/\iC wr (w.heap.size+1+1) nums/\dZ wr (w.heap.size+1+1+1) #[.map (some tb),.map (some (w.heap.size+1)),.map (some (w.heap.size+1+1))] 306/\ak w wr) (λi _=>ps.length-(intOf i).toNat)
 case atStart=>exact⟨0,[],[],aP _,rfl,by simpa using hlen,by simpa using hlen,List.nodup_nil,h,d,g,c,b⟩
 case round=>
  clear d g c b;obtain⟨k,names,nums,b,rfl,W,q,D,R,m,l,n,d⟩:=hrel;by_cases hlt:k<ps.length
  .obtain⟨p,I⟩:=gx hlt;have h:p∈ps:=aL I;have u:ps.drop k=p::ps.drop (k+1):=(by rw[be hlt];rw[aO hlt]at I;rw[Option.some.inj I]);rw[u]at W q;simp only[mN]at W q;have U:Hid (gS types names nums (p::ps.drop (k+1))=r):=by rw[<-u];exact R
   obtain⟨g,rfl,_,c,b⟩:=eJ s.1 Vv;obtain⟨z,fn,A,j,o,s,x,X⟩:=a.get I;have a:=fj X.1;subst a;have E:=b wr (d.block g c);have H:=E _ _ j;have T:=E _ _ o;have Y:=E _ _ s;have q3:=E _ _ x;have L:=dZ.new wr #[aa (mX p.oneof),ag (jM p.oneof),aa (nU p.oneof),.slice z p.fields.length A] 208;have a:=d.alloc d.size (am #[aa (mX p.oneof),ag (jM p.oneof),aa (nU p.oneof),.slice z p.fields.length A] 208);have v:fy (wr.Vn #[aa (mX p.oneof),ag (jM p.oneof),aa (nU p.oneof),.slice z p.fields.length A] 208) (w.heap.size+1) names:=m.O (Below.l _ _ _ m.lt);have t:iC (wr.Vn #[aa (mX p.oneof),ag (jM p.oneof),aa (nU p.oneof),.slice z p.fields.length A] 208) (w.heap.size+1+1) nums:=l.O (Below.l _ _ _ l.lt);have c:=n.alloc (am #[aa (mX p.oneof),ag (jM p.oneof),aa (nU p.oneof),.slice z p.fields.length A] 208);have zc:=n.lt;obtain⟨O,P⟩:=c.I;have VV:=K p h;clear b E I u R h j o s x m l n;obtain⟨h,M⟩:∃h,Hid (nh types names nums p=h):=⟨_,rfl⟩;obtain⟨b,y⟩:∃b,Hid (b=if mX p.oneof==1 then names++ [jM p.oneof]else names):=⟨_,rfl⟩;cases ho:(mX p.oneof==1);have Z:Hid (gB types b nums p.fields=h):=(by have:=M.o;unfold nh at this;simp only[ho,aU,if_false]at this;rw[show b=names by rw[y.o,ho];rfl];exact this);have F:=v;rw[show names=b by rw[y.o,ho];rfl]at F;have I:b.length<=names.length+1:=by rw[show b=names by rw[y.o,ho];rfl];omega
   have V:=t;have o:=c;have Q:=a;go_wp2_with fail;clear v t c a O P H T Y q3 L;rotate_left
   focus
    go_wp2_with fail;refine(Tu _ (w.heap.size+1) names _ _ _ v Vv).V ?_;cases h1:iT names (jM p.oneof);rotate_left;.rintro e B ⟨rfl,g⟩;obtain rfl:r= .error (nU p.oneof):=(by rw[<-U.o,gS,nh];simp only[ho,h1,if_true]);unfold d5;go_wp2;exact⟨rfl,rfl,a.J (g.V a.size)⟩
    rintro e B ⟨rfl,E,G⟩;have Z:Hid (gB types b nums p.fields=h):=(by have:=M.o;unfold nh at this;simp only[ho,h1,aU,if_true,if_false]at this;rw[show b=names++ [jM p.oneof]by rw[y.o,ho];rfl];exact this);have g:ak w B:=a.J (G.to_below a.size (by intro x J;simp at J;omega));have j:dZ B (w.heap.size+1+1+1) #[.map (some tb),.map (some (w.heap.size+1)),.map (some (w.heap.size+1+1))] 306:=(G.block _ c.lt Vx).J c;have s:dZ B wr.heap.size #[aa (mX p.oneof),ag (jM p.oneof),aa (nU p.oneof),.slice z p.fields.length A] 208:=(G.block _ L.lt Vx).J L;have z:iC B (w.heap.size+1+1) nums:=t.O (G.block _ t.lt Vw);have F:=E;rw[show names++ [jM p.oneof]=b by rw[y.o,ho];rfl]at F;have I:b.length<=names.length+1:=by rw[show b=names++ [jM p.oneof]by rw[y.o,ho];rfl];simp
    have V:=z;have o:=j;have Q:=g;obtain⟨y,A⟩:=s.I;clear O P H T Y q3;go_wp2_with fail;clear v t c a y A s j z E g G L
   all_goals
    go_loopw [32] (λi wr=>∃(j:Nat) (names:aA) (nums:aB),j<=p.fields.length/\i=aa j/\names.length+(p.fields.length-j)+mN (ps.drop (k+1))<=2001/\nums.length+(p.fields.length-j)+mN (ps.drop (k+1))<=2001/\nums.Nodup/\Hid (gB types names nums (p.fields.drop j)=h)/\fy wr (w.heap.size+1) names/\iC wr (w.heap.size+1+1) nums/\dZ wr (w.heap.size+1+1+1) #[.map (some tb),.map (some (w.heap.size+1)),.map (some (w.heap.size+1+1))] 306/\ak w wr) (λi _=>p.fields.length-(intOf i).toNat)
    case atStart=>exact⟨0,b,nums,aP _,rfl,Vv,Vv,D,Z,F,V,o,Q⟩
    case round=>
     clear F V o Q Z;obtain⟨j,names,nums,b,rfl,W,q,D,T,m,l,n,d⟩:=hrel;by_cases hlt2:j<p.fields.length
     .obtain⟨f,H⟩:=gx hlt2;have g:f∈p.fields:=aL H;have u:p.fields.drop j=f::p.fields.drop (j+1):=(by rw[be hlt2];rw[aO hlt2]at H;rw[Option.some.inj H]);have i:Hid (gB types names nums (f::p.fields.drop (j+1))=h):=by rw[<-u];exact T
      obtain⟨s,rfl,_,q,b⟩:=eJ X.1 Vv;have o:=b wr (d.block s q);obtain⟨E,F,G,I,K,L,Q,V,W,X,s,y,z⟩:=xz H o;have q:=dZ.new wr (FC f) 211;have a:=d.alloc d.size (FO f);have v:fy (wr.alloc (FO f)) (w.heap.size+1) names:=m.O (Below.l _ _ _ m.lt);have t:iC (wr.alloc (FO f)) (w.heap.size+1+1) nums:=l.O (Below.l _ _ _ l.lt);have A:fy (wr.alloc (FO f)) tb types:=N.O (a.block _ Wu);have B:GOK (wr.alloc (FO f)):=C.O (a.block _ C.lt);have c:=n.alloc (FO f);have zc:=n.lt;obtain⟨O,P⟩:=c.I;have q:=VV f g;clear b o H u T g m l n;go_wp2_with fail;clear E F G I K L Q V W X s y z O P;refine(UX _ tb (w.heap.size+1) (w.heap.size+1+1) types names nums _ _ _ _ _ _ _ _ _ _ _ _ _ A v t Vv (by have:=C.lt;omega) Vv Vv D q B).V ?_
      cases h5:nV types names nums f with
      |error q=>
       have b:vw types names nums f.form (mX f.key) (jM f.key) (nU f.key) (dX f.type.1) f.type.1 f.type.2 f.name.1 f.name.2 f.num.1 f.num.2= .error q:=h5;rw[b];rintro e g ⟨rfl,N⟩;obtain rfl:h= .error q:=by rw[<-i.o,gB,h5]
       obtain rfl:r= .error q:=by rw[<-U.o,gS,M.o]
       unfold d5;go_wp2
       exact⟨rfl,rfl,a.J (N.to_below a.size (by intro x J;simp at J;omega))⟩
      |ok nm=>
       obtain⟨X,Y⟩:=nm;have b:vw types names nums f.form (mX f.key) (jM f.key) (nU f.key) (dX f.type.1) f.type.1 f.type.2 f.name.1 f.name.2 f.num.1 f.num.2= .ok (X,Y):=h5;rw[b];rintro e g ⟨rfl,o,q,N⟩;obtain⟨b,s,t⟩:=xB h5 D;have s:Hid (gB types X Y (p.fields.drop (j+1))=h):=(by have:=i.o;rw[gB,h5]at this;exact this);have b:ak w g:=a.J (N.to_below a.size (by intro x J;simp at J;omega));have a:dZ g (w.heap.size+1+1+1) #[.map (some tb),.map (some (w.heap.size+1)),.map (some (w.heap.size+1+1))] 306:=(N.block _ c.lt Vx).J c;go_wp2;go_roundw
       case rel=>exact⟨j+1,X,Y,Vv,by go_num,Vv,Vv,t,s,o,q,a,b⟩
       case measure=>simp[intOf];omega
     .have C:p.fields.drop j= []:=by rw[cU];omega
      obtain rfl:h= .ok (names,nums):=by rw[<-T.o,C];rfl
      have a:Hid (gS types names nums (ps.drop (k+1))=r):=(by have:=U.o;rw[gS,M.o]at this;exact this);clear C;go_wp2;go_roundw
      case rel=>exact⟨k+1,names,nums,Vv,by go_num,Vv,Vv,D,a,m,l,n,d⟩
      case measure=>simp[intOf];omega
  .have C:ps.drop k= []:=by rw[cU];omega
   obtain rfl:r= .ok (names,nums):=by rw[<-R.o,C];rfl
   clear C;go_wp2;go_end0;exact⟨rfl,d⟩
end
section
open Go.Maps Go.ChangeMaps Go.WideMaps Go.WideElems
def oL (s:ByteArray):ByteArray:=⟨#[46]⟩++s
def rI (o:Option W)(form:Int):ByteArray:=
 match o with
 |some x=>oL x.1
 |none=>if form=0 then eS else if form=1 then lM else if form=2 then Dx else xD
def ic (o:Option W)(f:eW):fw:=⟨f.name.1,f.type.1,jM f.key,rI o f.form,jd f.num.1⟩
structure GF where
 f:fw
 form:Int
 riv:List Int
def jE (f:eW):Int:=jd f.num.1
def qf (p:fK)(f:eW):List Int:=(p.fields.filter λo=>decide (jE o≠jE f)).map jE
def sP (p:fK)(f:eW):GF:=⟨ic p.oneof f,f.form,qf p f⟩
def vx (b:d9):List GF:=b.parts.flatMap λp=>p.fields.map (sP p)
def ol (t:ByteArray):Nat:=(Di m9 t.toList 0).getD 0
def jC (mp:ByteArray->Option Nat)(t:ByteArray):Nat:=if dX t=3 then ol t else if(mp t).isSome then 16 else 15
def zJ (mp:ByteArray->Option Nat)(t:ByteArray):Option Nat:=if dX t=3 then none else mp t
def ii:Option Nat->Value
 |none=> .pointer none
 |some b=> .pointer (some ⟨b,0,none⟩)
def gE (l:List Int):List Value:=l.map (Value.int .i64)
def ni (w:World)(P:Nat->Prop)(mp:ByteArray->Option Nat)(g:GF)(fb:Nat):Prop:=
 ∃rv,dZ w fb #[.int .i64 g.f.num,.int .i64 g.form,.int .i64 (jC mp g.f.ty),ii (zJ mp g.f.ty),rv] 220/\P fb/\eP w P 3 1 rv g.riv.length (gE g.riv)
def fA (l:List Nat):List Value:=l.map λb=>ii (some b)
def lN (s:ByteArray)(t:ByteArray)(n:Int):GF:=⟨⟨s,t,eS,lM,n⟩,1,[]⟩
def mM (w:World)(P:Nat->Prop)(mp:ByteArray->Option Nat)(key val:ByteArray)(eb:Nat):Prop:=
 ∃fv b1 b2,dZ w eb #[.string eS,fv] 108/\P eb/\eP w P 212 1 fv 2 (fA [b1,b2])/\ni w P mp (lN oh key 1) b1/\ni w P mp (lN qe val 2) b2
def fi (w:World)(P:Nat->Prop)(mp:ByteArray->Option Nat)(g:GF)(fb:Nat):Prop:=
 if g.form=4 then∃rv eb,dZ w fb #[.int .i64 g.f.num,.int .i64 4,.int .i64 16,ii (some eb),rv] 220/\P fb/\eP w P 3 1 rv g.riv.length (gE g.riv)/\mM w P mp g.f.key g.f.ty eb
 else ni w P mp g fb
def gq (w:World)(P:Nat->Prop)(mp:ByteArray->Option Nat):List GF->List Nat->Prop
 | [],l=>l= []
 |g::gs,l=>∃b r,l=b::r/\fi w P mp g b/\gq w P mp gs r
def jk (w:World)(P:Nat->Prop)(mp:ByteArray->Option Nat)(b:Nat)(name:ByteArray)(gs:List GF):Prop:=
 ∃fv VI,dZ w b #[.string name,fv] 108/\P b/\eP w P 212 1 fv VI.length (fA VI)/\gq w P mp gs VI
section
variable {w w':World} {P Q:Nat->Prop} {mp:ByteArray->Option Nat}
def ni.O (hk:∀b,P b->b<w.heap.size->w'.heap[b]?=w.heap[b]?){g:GF}{fb:Nat}(h:ni w P mp g fb):ni w' P mp g fb:=by
 obtain⟨e,a,c,d⟩:=h;exact⟨e,(hk fb c a.lt).J a,c,d.O hk⟩
def mM.O (hk:∀b,P b->b<w.heap.size->w'.heap[b]?=w.heap[b]?){k v:ByteArray}{eb:Nat}(h:mM w P mp k v eb):mM w' P mp k v eb:=by
 obtain⟨f,d,e,a,c,g,i,j⟩:=h;exact⟨f,d,e,(hk eb c a.lt).J a,c,g.O hk,i.O hk,j.O hk⟩
def fi.O (hk:∀b,P b->b<w.heap.size->w'.heap[b]?=w.heap[b]?){g:GF}{fb:Nat}(h:fi w P mp g fb):fi w' P mp g fb:=by
 unfold fi at h⊢;split at h;.rename_i a;rw[dR a];obtain⟨j,e,c,d,f,i⟩:=h;exact⟨j,e,(hk fb d c.lt).J c,d,f.O hk,i.O hk⟩
 .rename_i a;rw[dQ a];exact ni.O hk h
def gq.O (hk:∀b,P b->b<w.heap.size->w'.heap[b]?=w.heap[b]?):∀{gs:List GF} {l:List Nat},gq w P mp gs l->gq w' P mp gs l
 | [],_,h=>h
 |_::_,_,⟨b,r,h1,h2,h3⟩=>⟨b,r,h1,h2.O hk,gq.O hk h3⟩
def jk.O (a:∀b,P b->b<w.heap.size->w'.heap[b]?=w.heap[b]?){b:Nat}{name:ByteArray}{gs:List GF}(h:jk w P mp b name gs):jk w' P mp b name gs:=by
 obtain⟨f,e,c,d,g,i⟩:=h;exact⟨f,e,(a b d c.lt).J c,d,g.O a,i.O a⟩
def ni.V (hs:∀b,P b->b<w.heap.size->Q b){g:GF}{fb:Nat}(h:ni w P mp g fb):ni w Q mp g fb:=by
 obtain⟨e,a,c,d⟩:=h;exact⟨e,a,hs _ c a.lt,d.V hs⟩
def mM.V (hs:∀b,P b->b<w.heap.size->Q b){k v:ByteArray}{eb:Nat}(h:mM w P mp k v eb):mM w Q mp k v eb:=by
 obtain⟨e,c,d,a,f,g,i,j⟩:=h;exact⟨e,c,d,a,hs _ f a.lt,g.V hs,i.V hs,j.V hs⟩
def fi.V (hs:∀b,P b->b<w.heap.size->Q b){g:GF}{fb:Nat}(h:fi w P mp g fb):fi w Q mp g fb:=by
 unfold fi at h⊢;split at h;.rename_i a;rw[dR a];obtain⟨j,d,c,e,f,i⟩:=h;exact⟨j,d,c,hs _ e c.lt,f.V hs,i.V hs⟩
 .rename_i a;rw[dQ a];exact ni.V hs h
def gq.V (hs:∀b,P b->b<w.heap.size->Q b):∀{gs:List GF} {l:List Nat},gq w P mp gs l->gq w Q mp gs l
 | [],_,h=>h
 |_::_,_,⟨b,r,h1,h2,h3⟩=>⟨b,r,h1,h2.V hs,gq.V hs h3⟩
def jk.V (a:∀b,P b->b<w.heap.size->Q b){b:Nat}{name:ByteArray}{gs:List GF}(h:jk w P mp b name gs):jk w Q mp b name gs:=by
 obtain⟨e,d,c,f,g,i⟩:=h;exact⟨e,d,c,a _ f c.lt,g.V a,i.V a⟩
def gq.len:∀{gs:List GF} {l:List Nat},gq w P mp gs l->l.length=gs.length
 | [],_,h=>by rw[show _= []from h];rfl
 |_::_,_,⟨b,r,h1,_,h3⟩=>by rw[h1];simp[h3.len]
def gq.snoc {g:GF}{b:Nat}(a:fi w P mp g b):∀{gs:List GF} {l:List Nat},gq w P mp gs l->gq w P mp (gs++ [g]) (l++ [b])
 | [],_,h=>by rw[show _= []from h];exact⟨b,[],rfl,a,rfl⟩
 |_::_,_,⟨c,r,h1,h3,h4⟩=>by rw[h1];exact⟨c,r++ [b],rfl,h3,gq.snoc a h4⟩
def gq.get:∀{gs:List GF} {l:List Nat},gq w P mp gs l->∀{i:Nat} {g:GF},gs[i]?=some g->∃b,l[i]?=some b/\fi w P mp g b
 | [],_,_,i,g,h=>by simp at h
 |_::_,_,⟨b,r,h1,h3,h4⟩,0,g,h=>by
  simp at h;subst h;subst h1
  exact⟨b,rfl,h3⟩
 |_::_,_,⟨b,r,h1,h3,h4⟩,i+1,g,h=>by
  subst h1;have⟨c,a,d⟩:=h4.get (i:=i) (g:=g) (by simpa using h);exact⟨c,by simpa using a,d⟩
end
def gO:Value->Option (DataW Unit×List MemPlace)
 | .pointer none=>some (.lit (.int .i64 (-1)),[])
 | .pointer (some ⟨b,0,none⟩)=>some (.lit (.int .i64 b),[])
 |_=>none
def lO (o:Option Nat):gO (ii o)=some (.lit (.int .i64 (match o with|some b=>(b:Int)|none=> -1)),[]):=by cases o<;>rfl
def qg {v:Value}{o:Option Nat}{ps:List MemPlace}(h:gO v=some (.lit (.int .i64 (match o with|some b=>(b:Int)|none=> -1)),ps)):v=ii o:=by
 unfold gO at h;split at h
 .cases o with
  |none=>rfl
  |some b=>simp at h
 .cases o with
  |none=>simp at h
  |some b=>simp at h;have e:=Int.ofNat.inj h.1;subst e;rfl
 .cases h
def oM (o:Option Nat):DataW Unit:= .lit (.int .i64 (match o with|some b=>(b:Int)|none=> -1))
def gr (w:World)(b n:Nat)(mp:ByteArray->Option Nat):Prop:=
 ∃D,w.ownsMap prog 9 gO b n D/\∀s:ByteArray,D.atKey (rG s) (oM none)=oM (mp s)
def jF (mp:ByteArray->Option Nat)(s:ByteArray)(b:Nat):ByteArray->Option Nat:=λt=>if gQ t s then some b else mp t
def gr.O {w w':World}{b n:Nat}{mp:ByteArray->Option Nat}(h:gr w b n mp)(d:w'.heap[b]?=w.heap[b]?):gr w' b n mp:=by
 obtain⟨D,a,c⟩:=h;exact⟨D,lg a d,c⟩
def gr.lt {w:World}{b n:Nat}{mp:ByteArray->Option Nat}(h:gr w b n mp):b<w.heap.size:=by
 obtain⟨D,a,c⟩:=h;exact a.lt
def gr.made (w:World):gr (w.alloc (.map #[] 0)) w.heap.size 0 (λ_=>none):=
 ⟨_,World.ownsMap_made w prog 9 gO,λ_=>rfl⟩
def GV (s t:ByteArray):rG t=rG s<->gQ t s=true:=by
 unfold rG gQ;rw[ByteArray.toList_eq,ByteArray.toList_eq];simp
def Ol {D:DataW Unit}{mp:ByteArray->Option Nat}(hm:IsMap D)(h:∀s:ByteArray,D.atKey (rG s) (oM none)=oM (mp s))(s:ByteArray)(b:Nat):
  ∀t:ByteArray,(D.put (rG s) (oM (some b))).atKey (rG t) (oM none)=oM (jF mp s b t):=by
 intro t;unfold jF;by_cases e:gQ t s=true;.rw[dR e,(GV s t).2 e];exact atKey_put_same hm (show WideAt.IsKeyLit (rG s)from trivial) _ _
 .rw[dQ e,atKey_put_other (λh=>e ((GV s t).1 h))];exact h t
end
end Go.Proofs.YtfebdimolnobaaaGreatDoor
