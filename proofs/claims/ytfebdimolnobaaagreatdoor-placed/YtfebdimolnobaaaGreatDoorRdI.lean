import Derived.Test.YtfebdimolnobaaaGreatDoorRdF
import Derived.Deep.Draws
set_option maxRecDepth 100000
set_option maxHeartbeats 8000000
set_option linter.all false
namespace Go.Proofs.YtfebdimolnobaaaGreatDoor
open Go.RowKit
section
attribute [local go_sem] ia ic ie
def kS:Option W->Int
 |some x=>cZ x.1
 |none=>0
def iz:Option W->am
 |some x=>x.1
 |none=>⟨#[]⟩
def kM:Option W->Nat
 |some x=>x.2
 |none=>0
abbrev FC (f:dM):Array Value:= #[aa f.form,aa (kS f.key),ae (iz f.key),aa (kM f.key),aa (cZ f.type.1),ae f.type.1,aa f.type.2,aa (cZ f.name.1),ae f.name.1,aa f.name.2,aa (cZ f.num.1),ae f.num.1,aa f.num.2]
abbrev FO (f:dM):Obj:=Obj.cells (FC f) 211
theorem G9 (o:Option W):G6 o= [aa (kS o),ae (iz o),aa (kM o)]:=by cases o<;>rfl
def mr (w:an)(p:er)(w':an)(e:Ending):Prop:=
 ∃fa fn fc,e= .returned (.agg #[aa (kS p.oneof),ae (iz p.oneof),aa (kM p.oneof),.slice fa fn fc])/\w'.ownsRow w.heap.size 211 13 (.slice fa fn fc) p.fields.length (p.fields.flatMap ox)
theorem Mw (w:an)(rb wb:Nat)(ws:List W)(i:Nat)(R:Rd w rb wb ws i):
  Calls Tryz.prog 338 #[ag rb] w (lg w rb wb ws (gp ws i) (mr w)):=by
 refine(NI w rb wb ws i R).mono fun e w' h=> ?_
 cases hf:gp ws i with
 |error p=>rw[hf]at h;exact h
 |ok q=>
  obtain⟨p,j⟩:=q;rw[hf]at h;obtain⟨⟨fv,h1,h3⟩,h2⟩:=h;obtain⟨fa,fn,fc,rfl⟩:=df h3;exact⟨⟨fa,fn,fc,by rw[h1,G9];rfl,h3⟩,h2⟩
theorem fI {ws:List W}{i:Nat}{x:W}(s:List UInt8)(h:ws[i]?=some x):d7 ws s i=(x.1.toList==s):=by unfold d7;simp only[h]
theorem Ln (w:an)(rb wb:Nat)(ws:List W)(i:Nat)(R:Rd w rb wb ws i)(t0:d7 ws [111,110,101,111,102] i=true):
  Calls Tryz.prog 259 #[ag rb] w (lg w rb wb ws (gp ws i) (mr w)):=by
 obtain⟨x,hx⟩:=R.word;have HX:Hid (ws[i]?=some x):=hx;have A0:gm w.heap.size rb w (w.alloc (ak #[aa 0,ae ⟨#[]⟩,aa 0,ah] 208)) i:=gm.of_below R.next ((Below.refl w.heap.size w).alloc (ay _) _);have R0:=R.alloc (ak #[aa 0,ae ⟨#[]⟩,aa 0,ah] 208);have K0:=de.new w #[aa 0,ae ⟨#[]⟩,aa 0,ah] 208;have n1:¬w.heap.size=rb:=by have:=R.blocks;omega
 have n3:¬rb=w.heap.size:=by omega
 have z0:w.heap.size<(w.alloc (ak #[aa 0,ae ⟨#[]⟩,aa 0,ah] 208)).heap.size:=by simp
 rw[fI _ hx]at t0;clear hx;generalize hr:gp ws i=r;have HR:Hid (gp ws i=r):=hr;clear hr;go_enter Tryz.func259,Tryz.ntmps259
 go_wp2_with fail
 refine(BJ _ rb wb ws i x R0 HX.out).mono ?_;rintro e w1 ⟨rfl,N2⟩;have R1:=R0.below N2 R0.blocks.1 R0.blocks.2;have A1:=A0.below N2 (bw z0);have K1:=K0.below N2 z0;have z1:w.heap.size<w1.heap.size:=aC z0 N2.size;clear R0 A0 K0 z0 N2;go_wp2_with fail
 refine(Mw _ rb wb ws i R1).mono ?_
 cases h1:gp ws i with
 |error p=>
  rintro e w2 ⟨rfl,j,A⟩;obtain rfl:r= .error p:=HR.out.symm.trans h1;unfold da;go_wp2;exact⟨rfl,rfl,j,A1.trans A (by omega)⟩
 |ok q=>
  obtain⟨p,i1⟩:=q;rintro e w2 ⟨⟨fa,fn,fc,rfl,N3⟩,R2,A⟩;obtain rfl:r= .ok (p,i1):=HR.out.symm.trans h1;have K9:=K1.adv_ A z1 n1;have A9:=A1.trans A (by omega);obtain⟨k1,k2⟩:=K9.rules;go_wp2;have N8:=A9.sets (b:=w.heap.size) (ay _) [aa (kS p.oneof),ae (iz p.oneof),aa (kM p.oneof),.slice fa fn fc] 0;have Ob:=K9.sets_all [aa (kS p.oneof),ae (iz p.oneof),aa (kM p.oneof),.slice fa fn fc] rfl;refine bodyPost_ret (dw Tryz.results259 _ _ rfl Ob Tryz.underlying208 (by kernel_rfl)) rfl ⟨⟨fa,fn,fc,rfl,?_⟩,?_,N8⟩
  ·exact fM (lo:=w.heap.size) N3 (b:=w.heap.size) z1 (bw z1) [aa (kS p.oneof),ae (iz p.oneof),aa (kM p.oneof),.slice fa fn fc] 0
  ·exact N8.rd R R.blocks.1 R.blocks.2 R2.lt
theorem Lo (w:an)(rb wb:Nat)(ws:List W)(i:Nat)(R:Rd w rb wb ws i)(t0:d7 ws [111,110,101,111,102] i=false)(t1:d7 ws [109,97,112] i=true):
  Calls Tryz.prog 259 #[ag rb] w (lg w rb wb ws (fo (kO ws i)) (mr w)):=by
 obtain⟨x,hx⟩:=R.word;have HX:Hid (ws[i]?=some x):=hx;have A0:gm w.heap.size rb w (w.alloc (ak #[aa 0,ae ⟨#[]⟩,aa 0,ah] 208)) i:=gm.of_below R.next ((Below.refl w.heap.size w).alloc (ay _) _);have R0:=R.alloc (ak #[aa 0,ae ⟨#[]⟩,aa 0,ah] 208);have K0:=de.new w #[aa 0,ae ⟨#[]⟩,aa 0,ah] 208;have n1:¬w.heap.size=rb:=by have:=R.blocks;omega
 have n3:¬rb=w.heap.size:=by omega
 have z0:w.heap.size<(w.alloc (ak #[aa 0,ae ⟨#[]⟩,aa 0,ah] 208)).heap.size:=by simp
 rw[fI _ hx]at t0;rw[fI _ hx]at t1;clear hx;generalize hr:fo (kO ws i)=r;have HR:Hid (fo (kO ws i)=r):=hr;clear hr;go_enter Tryz.func259,Tryz.ntmps259
 go_wp2_with fail
 refine(BJ _ rb wb ws i x R0 HX.out).mono ?_;rintro e w1 ⟨rfl,N2⟩;have R1:=R0.below N2 R0.blocks.1 R0.blocks.2;have A1:=A0.below N2 (bw z0);have K1:=K0.below N2 z0;have z1:w.heap.size<w1.heap.size:=aC z0 N2.size;clear R0 A0 K0 z0 N2;go_wp2_with fail
 refine(NH _ rb wb ws i R1).mono ?_
 cases h1:kO ws i with
 |error p=>
  rintro e w3 ⟨rfl,j,A⟩;obtain rfl:r= .error p:=by rw[<-HR.out,fo,d8 h1]
  unfold da;go_wp2;exact⟨rfl,rfl,j,A1.trans A (by omega)⟩
 |ok q=>
  obtain⟨f,i1⟩:=q;rintro e w3 ⟨rfl,R3,A⟩;obtain rfl:r= .ok (⟨none,[f]⟩,i1):=by rw[<-HR.out,fo,dy h1]
  have K3:=K1.adv_ A z1 n1;have A3:=A1.trans A (by omega);have z3:w.heap.size<w3.heap.size:=aC z1 A.size;clear A;go_wp2_with fail
  refine(Mi _ f).mono ?_;rintro e w4 ⟨fv,rfl,N3,Oa⟩;obtain⟨fa,fn,fc,rfl⟩:=df N3;have N7:w4.ownsRow w3.heap.size 211 13 (.slice fa fn fc) [f].length ([f].flatMap ox):=by simpa using N3
  have K9:=K3.below Oa z3;have A9:=A3.below Oa (bw z3);obtain⟨k1,k2⟩:=K9.rules;go_wp2;have N8:=A9.sets (b:=w.heap.size) (ay _) [aa 0,ae ⟨#[]⟩,aa 0,.slice fa fn fc] 0;have Ob:=K9.sets_all [aa 0,ae ⟨#[]⟩,aa 0,.slice fa fn fc] rfl;refine bodyPost_ret (dw Tryz.results259 _ _ rfl Ob Tryz.underlying208 (by kernel_rfl)) rfl ⟨⟨fa,fn,fc,rfl,?_⟩,?_,N8⟩
  ·exact fM (lo:=w.heap.size) N7 (b:=w.heap.size) z3 (bw z3) [aa 0,ae ⟨#[]⟩,aa 0,.slice fa fn fc] 0
  ·exact N8.rd R R.blocks.1 R.blocks.2 R3.lt
theorem Lp (w:an)(rb wb:Nat)(ws:List W)(i:Nat)(R:Rd w rb wb ws i)(t0:d7 ws [111,110,101,111,102] i=false)(t1:d7 ws [109,97,112] i=false)(t2:d7 ws [114,101,112,101,97,116,101,100] i=true):
  Calls Tryz.prog 259 #[ag rb] w (lg w rb wb ws (fo (ee ws 2 (i+1))) (mr w)):=by
 obtain⟨x,hx⟩:=R.word;have HX:Hid (ws[i]?=some x):=hx;have A0:gm w.heap.size rb w (w.alloc (ak #[aa 0,ae ⟨#[]⟩,aa 0,ah] 208)) i:=gm.of_below R.next ((Below.refl w.heap.size w).alloc (ay _) _);have R0:=R.alloc (ak #[aa 0,ae ⟨#[]⟩,aa 0,ah] 208);have K0:=de.new w #[aa 0,ae ⟨#[]⟩,aa 0,ah] 208;have n1:¬w.heap.size=rb:=by have:=R.blocks;omega
 have n3:¬rb=w.heap.size:=by omega
 have z0:w.heap.size<(w.alloc (ak #[aa 0,ae ⟨#[]⟩,aa 0,ah] 208)).heap.size:=by simp
 rw[fI _ hx]at t0;rw[fI _ hx]at t1;rw[fI _ hx]at t2;have hp:0<x.1.size:=mj t2 (by decide);clear hx;generalize hr:fo (ee ws 2 (i+1))=r;have HR:Hid (fo (ee ws 2 (i+1))=r):=hr;clear hr;go_enter Tryz.func259,Tryz.ntmps259
 go_wp2_with fail
 refine(BJ _ rb wb ws i x R0 HX.out).mono ?_;rintro e w1 ⟨rfl,N2⟩;have R1:=R0.below N2 R0.blocks.1 R0.blocks.2;have A1:=A0.below N2 (bw z0);have K1:=K0.below N2 z0;have z1:w.heap.size<w1.heap.size:=aC z0 N2.size;clear R0 A0 K0 z0 N2;go_wp2_with fail
 refine(Lm _ rb wb ws i x R1 HX.out hp).mono ?_;rintro e w2 ⟨rfl,R2,A⟩;have K2:=K1.adv_ A z1 n1;have A2:=A1.trans A (by omega);have z2:w.heap.size<w2.heap.size:=aC z1 A.size;clear R1 A1 K1 z1 A;go_wp2_with fail
 refine(Mh _ rb wb ws (i+1) 2 R2).mono ?_
 cases h1:ee ws 2 (i+1)with
 |error p=>
  rintro e w3 ⟨rfl,j,A⟩;obtain rfl:r= .error p:=by rw[<-HR.out,fo,d8 h1]
  unfold da;go_wp2;exact⟨rfl,rfl,j,A2.trans A (by omega)⟩
 |ok q=>
  obtain⟨f,i1⟩:=q;rintro e w3 ⟨rfl,R3,A⟩;obtain rfl:r= .ok (⟨none,[f]⟩,i1):=by rw[<-HR.out,fo,dy h1]
  have K3:=K2.adv_ A z2 n1;have A3:=A2.trans A (by omega);have z3:w.heap.size<w3.heap.size:=aC z2 A.size;clear A;go_wp2_with fail
  refine(Mi _ f).mono ?_;rintro e w4 ⟨fv,rfl,N3,Oa⟩;obtain⟨fa,fn,fc,rfl⟩:=df N3;have N7:w4.ownsRow w3.heap.size 211 13 (.slice fa fn fc) [f].length ([f].flatMap ox):=by simpa using N3
  have K9:=K3.below Oa z3;have A9:=A3.below Oa (bw z3);obtain⟨k1,k2⟩:=K9.rules;go_wp2;have N8:=A9.sets (b:=w.heap.size) (ay _) [aa 0,ae ⟨#[]⟩,aa 0,.slice fa fn fc] 0;have Ob:=K9.sets_all [aa 0,ae ⟨#[]⟩,aa 0,.slice fa fn fc] rfl;refine bodyPost_ret (dw Tryz.results259 _ _ rfl Ob Tryz.underlying208 (by kernel_rfl)) rfl ⟨⟨fa,fn,fc,rfl,?_⟩,?_,N8⟩
  ·exact fM (lo:=w.heap.size) N7 (b:=w.heap.size) z3 (bw z3) [aa 0,ae ⟨#[]⟩,aa 0,.slice fa fn fc] 0
  ·exact N8.rd R R.blocks.1 R.blocks.2 R3.lt
theorem Lq (w:an)(rb wb:Nat)(ws:List W)(i:Nat)(R:Rd w rb wb ws i)(t0:d7 ws [111,110,101,111,102] i=false)(t1:d7 ws [109,97,112] i=false)(t2:d7 ws [114,101,112,101,97,116,101,100] i=false)(t3:d7 ws [111,112,116,105,111,110,97,108] i=true):
  Calls Tryz.prog 259 #[ag rb] w (lg w rb wb ws (fo (ee ws 1 (i+1))) (mr w)):=by
 obtain⟨x,hx⟩:=R.word;have HX:Hid (ws[i]?=some x):=hx;have A0:gm w.heap.size rb w (w.alloc (ak #[aa 0,ae ⟨#[]⟩,aa 0,ah] 208)) i:=gm.of_below R.next ((Below.refl w.heap.size w).alloc (ay _) _);have R0:=R.alloc (ak #[aa 0,ae ⟨#[]⟩,aa 0,ah] 208);have K0:=de.new w #[aa 0,ae ⟨#[]⟩,aa 0,ah] 208;have n1:¬w.heap.size=rb:=by have:=R.blocks;omega
 have n3:¬rb=w.heap.size:=by omega
 have z0:w.heap.size<(w.alloc (ak #[aa 0,ae ⟨#[]⟩,aa 0,ah] 208)).heap.size:=by simp
 rw[fI _ hx]at t0;rw[fI _ hx]at t1;rw[fI _ hx]at t2;rw[fI _ hx]at t3;have hp:0<x.1.size:=mj t3 (by decide);clear hx;generalize hr:fo (ee ws 1 (i+1))=r;have HR:Hid (fo (ee ws 1 (i+1))=r):=hr;clear hr;go_enter Tryz.func259,Tryz.ntmps259
 go_wp2_with fail
 refine(BJ _ rb wb ws i x R0 HX.out).mono ?_;rintro e w1 ⟨rfl,N2⟩;have R1:=R0.below N2 R0.blocks.1 R0.blocks.2;have A1:=A0.below N2 (bw z0);have K1:=K0.below N2 z0;have z1:w.heap.size<w1.heap.size:=aC z0 N2.size;clear R0 A0 K0 z0 N2;go_wp2_with fail
 refine(Lm _ rb wb ws i x R1 HX.out hp).mono ?_;rintro e w2 ⟨rfl,R2,A⟩;have K2:=K1.adv_ A z1 n1;have A2:=A1.trans A (by omega);have z2:w.heap.size<w2.heap.size:=aC z1 A.size;clear R1 A1 K1 z1 A;go_wp2_with fail
 refine(Mh _ rb wb ws (i+1) 1 R2).mono ?_
 cases h1:ee ws 1 (i+1)with
 |error p=>
  rintro e w3 ⟨rfl,j,A⟩;obtain rfl:r= .error p:=by rw[<-HR.out,fo,d8 h1]
  unfold da;go_wp2;exact⟨rfl,rfl,j,A2.trans A (by omega)⟩
 |ok q=>
  obtain⟨f,i1⟩:=q;rintro e w3 ⟨rfl,R3,A⟩;obtain rfl:r= .ok (⟨none,[f]⟩,i1):=by rw[<-HR.out,fo,dy h1]
  have K3:=K2.adv_ A z2 n1;have A3:=A2.trans A (by omega);have z3:w.heap.size<w3.heap.size:=aC z2 A.size;clear A;go_wp2_with fail
  refine(Mi _ f).mono ?_;rintro e w4 ⟨fv,rfl,N3,Oa⟩;obtain⟨fa,fn,fc,rfl⟩:=df N3;have N7:w4.ownsRow w3.heap.size 211 13 (.slice fa fn fc) [f].length ([f].flatMap ox):=by simpa using N3
  have K9:=K3.below Oa z3;have A9:=A3.below Oa (bw z3);obtain⟨k1,k2⟩:=K9.rules;go_wp2;have N8:=A9.sets (b:=w.heap.size) (ay _) [aa 0,ae ⟨#[]⟩,aa 0,.slice fa fn fc] 0;have Ob:=K9.sets_all [aa 0,ae ⟨#[]⟩,aa 0,.slice fa fn fc] rfl;refine bodyPost_ret (dw Tryz.results259 _ _ rfl Ob Tryz.underlying208 (by kernel_rfl)) rfl ⟨⟨fa,fn,fc,rfl,?_⟩,?_,N8⟩
  ·exact fM (lo:=w.heap.size) N7 (b:=w.heap.size) z3 (bw z3) [aa 0,ae ⟨#[]⟩,aa 0,.slice fa fn fc] 0
  ·exact N8.rd R R.blocks.1 R.blocks.2 R3.lt
theorem Lr (w:an)(rb wb:Nat)(ws:List W)(i:Nat)(R:Rd w rb wb ws i)(t0:d7 ws [111,110,101,111,102] i=false)(t1:d7 ws [109,97,112] i=false)(t2:d7 ws [114,101,112,101,97,116,101,100] i=false)(t3:d7 ws [111,112,116,105,111,110,97,108] i=false):
  Calls Tryz.prog 259 #[ag rb] w (lg w rb wb ws (fo (ee ws 0 i)) (mr w)):=by
 obtain⟨x,hx⟩:=R.word;have HX:Hid (ws[i]?=some x):=hx;have A0:gm w.heap.size rb w (w.alloc (ak #[aa 0,ae ⟨#[]⟩,aa 0,ah] 208)) i:=gm.of_below R.next ((Below.refl w.heap.size w).alloc (ay _) _);have R0:=R.alloc (ak #[aa 0,ae ⟨#[]⟩,aa 0,ah] 208);have K0:=de.new w #[aa 0,ae ⟨#[]⟩,aa 0,ah] 208;have n1:¬w.heap.size=rb:=by have:=R.blocks;omega
 have n3:¬rb=w.heap.size:=by omega
 have z0:w.heap.size<(w.alloc (ak #[aa 0,ae ⟨#[]⟩,aa 0,ah] 208)).heap.size:=by simp
 rw[fI _ hx]at t0;rw[fI _ hx]at t1;rw[fI _ hx]at t2;rw[fI _ hx]at t3;clear hx;generalize hr:fo (ee ws 0 i)=r;have HR:Hid (fo (ee ws 0 i)=r):=hr;clear hr;go_enter Tryz.func259,Tryz.ntmps259
 go_wp2_with fail
 refine(BJ _ rb wb ws i x R0 HX.out).mono ?_;rintro e w1 ⟨rfl,N2⟩;have R1:=R0.below N2 R0.blocks.1 R0.blocks.2;have A1:=A0.below N2 (bw z0);have K1:=K0.below N2 z0;have z1:w.heap.size<w1.heap.size:=aC z0 N2.size;clear R0 A0 K0 z0 N2;go_wp2_with fail
 refine(Mh _ rb wb ws i 0 R1).mono ?_
 cases h1:ee ws 0 i with
 |error p=>
  rintro e w3 ⟨rfl,j,A⟩;obtain rfl:r= .error p:=by rw[<-HR.out,fo,d8 h1]
  unfold da;go_wp2;exact⟨rfl,rfl,j,A1.trans A (by omega)⟩
 |ok q=>
  obtain⟨f,i1⟩:=q;rintro e w3 ⟨rfl,R3,A⟩;obtain rfl:r= .ok (⟨none,[f]⟩,i1):=by rw[<-HR.out,fo,dy h1]
  have K3:=K1.adv_ A z1 n1;have A3:=A1.trans A (by omega);have z3:w.heap.size<w3.heap.size:=aC z1 A.size;clear A;go_wp2_with fail
  refine(Mi _ f).mono ?_;rintro e w4 ⟨fv,rfl,N3,Oa⟩;obtain⟨fa,fn,fc,rfl⟩:=df N3;have N7:w4.ownsRow w3.heap.size 211 13 (.slice fa fn fc) [f].length ([f].flatMap ox):=by simpa using N3
  have K9:=K3.below Oa z3;have A9:=A3.below Oa (bw z3);obtain⟨k1,k2⟩:=K9.rules;go_wp2;have N8:=A9.sets (b:=w.heap.size) (ay _) [aa 0,ae ⟨#[]⟩,aa 0,.slice fa fn fc] 0;have Ob:=K9.sets_all [aa 0,ae ⟨#[]⟩,aa 0,.slice fa fn fc] rfl;refine bodyPost_ret (dw Tryz.results259 _ _ rfl Ob Tryz.underlying208 (by kernel_rfl)) rfl ⟨⟨fa,fn,fc,rfl,?_⟩,?_,N8⟩
  ·exact fM (lo:=w.heap.size) N7 (b:=w.heap.size) z3 (bw z3) [aa 0,ae ⟨#[]⟩,aa 0,.slice fa fn fc] 0
  ·exact N8.rd R R.blocks.1 R.blocks.2 R3.lt
theorem Nl (w:an)(rb wb:Nat)(ws:List W)(i:Nat)(R:Rd w rb wb ws i):
  Calls Tryz.prog 259 #[ag rb] w (lg w rb wb ws (kX ws i) (mr w)):=by
 unfold kX
 cases t0:d7 ws [111,110,101,111,102] i
 ·cases t1:d7 ws [109,97,112] i
  ·cases t2:d7 ws [114,101,112,101,97,116,101,100] i
   ·cases t3:d7 ws [111,112,116,105,111,110,97,108] i
    ·exact Lr w rb wb ws i R t0 t1 t2 t3
    ·exact Lq w rb wb ws i R t0 t1 t2 t3
   ·exact Lp w rb wb ws i R t0 t1 t2
  ·exact Lo w rb wb ws i R t0 t1
 ·exact Ln w rb wb ws i R t0
end
def At (x:W×W):aq:=sJ x.1++sJ x.2
def dJ (w:an)(S:ap)(T:TypeId)(k:Nat)(v:Value)(n:Nat)(xs:aq):Prop:=
 w.ownsRow 0 T k v n xs/\∀b,v.ownBlock=some b->S b
theorem dz {w w':an}{base:Nat}{T:TypeId}{k n:Nat}{v:Value}{xs:aq}(h:w.ownsRow base T k v n xs)(hk:∀b,v.ownBlock=some b->w'.heap[b]?=w.heap[b]?):w'.ownsRow base T k v n xs:=by
 refine⟨h.1,?_⟩
 rcases h.2 with h2|⟨g,cap,N2,rfl,h3,h4,h5⟩
 ·exact .inl h2
 ·exact .inr ⟨g,cap,N2,rfl,h3,(hk g rfl).trans h4,h5⟩
theorem dJ.keep {w w':an}{S:ap}{T:TypeId}{k n:Nat}{v:Value}{xs:aq}(h:dJ w S T k v n xs)(hk:∀b,S b->b<w.heap.size->w'.heap[b]?=w.heap[b]?):dJ w' S T k v n xs:=
 ⟨dz h.1 fun b hb=>hk b (h.2 b hb) (h.1.lt b hb).2,h.2⟩
theorem dJ.mono {w:an}{S S':ap}{T:TypeId}{k n:Nat}{v:Value}{xs:aq}(h:dJ w S T k v n xs)(hs:∀b,S b->b<w.heap.size->S' b):dJ w S' T k v n xs:=
 ⟨h.1,fun b hb=>hs b (h.2 b hb) (h.1.lt b hb).2⟩
theorem dJ.of {w:an}{base:Nat}{T:TypeId}{k n:Nat}{v:Value}{xs:aq}(h:w.ownsRow base T k v n xs):dJ w (fun b=>base<=b) T k v n xs:=
 ⟨mq h (aM _),fun b hb=>(h.lt b hb).1⟩
def ec (w:an)(S:ap):aq->List er->Prop
 |cs,[]=>cs= []
 |cs,p::ps=>∃fa fn fc rest,cs=aa (kS p.oneof)::ae (iz p.oneof)::aa (kM p.oneof):: .slice fa fn fc::rest/\
   dJ w S 211 13 (.slice fa fn fc) p.fields.length (p.fields.flatMap ox)/\ec w S rest ps
theorem ec.keep {w w':an}{S:ap}(hk:∀b,S b->b<w.heap.size->w'.heap[b]?=w.heap[b]?):∀{ps:List er} {cs:aq},ec w S cs ps->ec w' S cs ps
 | [],_,h=>h
 |_::_,_,⟨fa,fn,fc,rest,h1,h2,h3⟩=>⟨fa,fn,fc,rest,h1,h2.keep hk,ec.keep hk h3⟩
theorem ec.mono {w:an}{S S':ap}(hs:∀b,S b->b<w.heap.size->S' b):∀{ps:List er} {cs:aq},ec w S cs ps->ec w S' cs ps
 | [],_,h=>h
 |_::_,_,⟨fa,fn,fc,rest,h1,h2,h3⟩=>⟨fa,fn,fc,rest,h1,h2.mono hs,ec.mono hs h3⟩
theorem ec.snoc {w:an}{S:ap}{p:er}{fa:aw}{fn fc:Nat}(h2:dJ w S 211 13 (.slice fa fn fc) p.fields.length (p.fields.flatMap ox)):∀{ps:List er} {cs:aq},ec w S cs ps->
   ec w S (cs++ [aa (kS p.oneof),ae (iz p.oneof),aa (kM p.oneof),.slice fa fn fc]) (ps++ [p])
 | [],cs,h=>by
  obtain rfl:cs= []:=h;exact⟨fa,fn,fc,[],rfl,h2,rfl⟩
 |_::_,cs,⟨ga,gn,gc,rest,h1,h3,h4⟩=>by
  subst h1;exact⟨ga,gn,gc,_,rfl,h3,ec.snoc h2 h4⟩
def im (w:an)(S:ap)(b:dh)(pv vv:Value):Prop:=
 ∃pcs,dJ w S 208 4 pv b.parts.length pcs/\ec w S pcs b.parts/\dJ w S 302 6 vv b.values.length (b.values.flatMap At)
theorem im.keep {w w':an}{S:ap}{b:dh}{pv vv:Value}(hk:∀b,S b->b<w.heap.size->w'.heap[b]?=w.heap[b]?):im w S b pv vv->im w' S b pv vv
 |⟨pcs,h1,h2,h3⟩=>⟨pcs,h1.keep hk,h2.keep hk,h3.keep hk⟩
theorem im.mono {w:an}{S S':ap}{b:dh}{pv vv:Value}(hs:∀b,S b->b<w.heap.size->S' b):im w S b pv vv->im w S' b pv vv
 |⟨pcs,h1,h2,h3⟩=>⟨pcs,h1.mono hs,h2.mono hs,h3.mono hs⟩
def dU (w:an)(S:ap):aq->List dh->Prop
 |cs,[]=>cs= []
 |cs,b::bs=>∃pa pn pc va vn vc rest,cs= .bool b.enum::aa (cZ b.name.1)::ae b.name.1::aa b.name.2:: .slice pa pn pc:: .slice va vn vc::rest/\
   im w S b (.slice pa pn pc) (.slice va vn vc)/\dU w S rest bs
theorem dU.keep {w w':an}{S:ap}(hk:∀b,S b->b<w.heap.size->w'.heap[b]?=w.heap[b]?):∀{bs:List dh} {cs:aq},dU w S cs bs->dU w' S cs bs
 | [],_,h=>h
 |_::_,_,⟨pa,pn,pc,va,vn,vc,rest,h1,h2,h3⟩=>⟨pa,pn,pc,va,vn,vc,rest,h1,h2.keep hk,dU.keep hk h3⟩
theorem dU.mono {w:an}{S S':ap}(hs:∀b,S b->b<w.heap.size->S' b):∀{bs:List dh} {cs:aq},dU w S cs bs->dU w S' cs bs
 | [],_,h=>h
 |_::_,_,⟨pa,pn,pc,va,vn,vc,rest,h1,h2,h3⟩=>⟨pa,pn,pc,va,vn,vc,rest,h1,h2.mono hs,dU.mono hs h3⟩
theorem dU.snoc {w:an}{S:ap}{b:dh}{pa va:aw}{pn pc vn vc:Nat}(h2:im w S b (.slice pa pn pc) (.slice va vn vc)):∀{bs:List dh} {cs:aq},dU w S cs bs->
   dU w S (cs++ [.bool b.enum,aa (cZ b.name.1),ae b.name.1,aa b.name.2,.slice pa pn pc,.slice va vn vc]) (bs++ [b])
 | [],cs,h=>by
  obtain rfl:cs= []:=h;exact⟨pa,pn,pc,va,vn,vc,[],rfl,h2,rfl⟩
 |_::_,cs,⟨qa,qn,qc,ra,rn,rc,rest,h1,h3,h4⟩=>by
  subst h1;exact⟨qa,qn,qc,ra,rn,rc,_,rfl,h3,dU.snoc h2 h4⟩
def mQ (w:an)(b:dh)(w':an)(e:Ending):Prop:=
 ∃pa pn pc va vn vc,e= .returned (.agg #[.bool b.enum,aa (cZ b.name.1),ae b.name.1,aa b.name.2,.slice pa pn pc,.slice va vn vc])/\
  im w' (fun x=>w.heap.size<=x) b (.slice pa pn pc) (.slice va vn vc)
def Ha (w:an)(bs:List dh)(w':an)(e:Ending):Prop:=
 ∃a n c cs,e= .returned (.agg #[.slice a n c])/\dJ w' (fun x=>w.heap.size<=x) 152 6 (.slice a n c) bs.length cs/\dU w' (fun x=>w.heap.size<=x) cs bs
theorem Tryz.info302:(Tryz.prog.info? 302).map (fun i=>(i.zero,i.size,i.bytes))=some (some (.agg #[aa 0,ae ⟨#[]⟩,aa 0,aa 0,ae ⟨#[]⟩,aa 0]),6,64):=by kernel_rfl
theorem Tryz.info208:(Tryz.prog.info? 208).map (fun i=>(i.zero,i.size,i.bytes))=some (some (.agg #[aa 0,ae ⟨#[]⟩,aa 0,ah]),4,56):=by kernel_rfl
theorem Tryz.info152:(Tryz.prog.info? 152).map (fun i=>(i.zero,i.size,i.bytes))=some (some (.agg #[.bool false,aa 0,ae ⟨#[]⟩,aa 0,ah,ah]),6,88):=by kernel_rfl
theorem dR {w:an}{base:Nat}{T:TypeId}{k m:Nat}{a:aw}{n c:Nat}{xs:aq}(h:w.ownsRow base T k (.slice a n c) m xs):n=m:=by
 rcases h.2 with⟨h1,h2⟩|⟨g,cap,N2,h1,h2⟩
 ·cases h1;exact h2.symm
 ·cases h1;rfl
theorem gS {w:an}{base:Nat}{T:TypeId}{k m:Nat}{v:Value}{xs:aq}(h:w.ownsRow base T k v m xs):∃a c,v= .slice a m c:=by
 obtain⟨a,n,c,rfl⟩:=df h;rw[dR h];exact⟨a,c,rfl⟩
theorem dE {w:an}{base:Nat}{T:TypeId}{k m:Nat}{a:aw}{n c:Nat}{xs:aq}(h:w.ownsRow base T k (.slice a n c) m xs)(hm:0<m):
  ∃g,a=some (ai g 0)/\base<=g/\g<w.heap.size/\∀w':an,w'.heap[g]?=w.heap[g]?->∀j u,xs[j]?=some u->w'.cell? (ai g j)=some u:=by
 rcases h.2 with⟨h1,h2⟩|⟨g,cap,N2,h1,h2,h3,h4,h5,h6,h7⟩
 ·omega
 ·cases h1
  refine⟨g,rfl,h2,de.lt h3,fun w' hw j u hj=> ?_⟩;have hb:de w' g N2 T:=hw.trans h3;rw[hb.cell];rw[<-h7,List.getElem?_take]at hj
  split at hj
  ·rw[<-bi];exact hj
  ·simp at hj
def el (l:ar):aq:=l.map Value.string
theorem gC {n:Nat}{a b:an}(h:Below n a b)(k:Nat):Below n a (b.drewN k):=h.trans ⟨rfl,rfl,rfl,ay _,fun _ _=>rfl⟩
theorem Tryz.info9:(Tryz.prog.info? 9).map (fun i=>(i.zero,i.size,i.bytes))=some (some (ae ⟨#[]⟩),1,16):=by kernel_rfl
theorem eE {α:Type}(f:α->aq)(k:Nat)(hk:∀x,(f x).length=k):∀(l:List α) (i:Nat) (x:α),l[i]?=some x->∀j,j<k->(l.flatMap f)[i*k+j]?=(f x)[j]?
 | [],i,x,h,j,hj=>by simp at h
 |y::l,0,x,h,j,hj=>by
  simp at h;subst h;rw[bm,Nat.zero_mul,Nat.zero_add,cn (by rw[hk];exact hj)]
 |y::l,i+1,x,h,j,hj=>by
  rw[bm,ck (by rw[hk,Nat.succ_mul];omega),hk];have:=eE f k hk l i x (by simpa using h) j hj;rw[<-this]
  congr 1;rw[Nat.succ_mul];omega
def gL (k:Int)(s:am):Bool:=k==3&&(!(s.toList== [102,108,111,97,116])&&(!(s.toList== [100,111,117,98,108,101])&& !(s.toList== [98,121,116,101,115])))
section
attribute [local go_sem] ia ic ie
attribute [local go_sem↓] Go.wp_at_zero Go.wp_at_succ
theorem fP (w:an){c:Nat}(b:Nat)(hne:c≠b):∀(vs:aq) (o:Nat),(w.setCells c o vs).heap[b]?=w.heap[b]?
 | [],o=>rfl
 |v::vs,o=>by
  have:=fP (w.setCell (ai c o) v) b hne vs (o+1);rw[dd,if_neg hne]at this;simpa [World.setCells]using this
theorem ec.appended {w w5:an}{v:Value}{gg H b1 off:Nat}{u:Value}{cs:aq}{ps:List er}(hg:w.grownBy w5 v.ownBlock)(Oc:v.ownBlock=some gg\/gg=H)(hH:w.heap.size=H)
  (h:ec w (fun b=>b1<b/\some b≠v.ownBlock) cs ps) {cap n:Nat}:ec (w5.setCell (ai b1 off) u) (fun b=>b1<b/\some b≠(Value.slice (some (ai gg 0)) n cap).ownBlock) cs ps:=by
 have h2:ec w (fun b=>b1<b/\some b≠v.ownBlock/\some b≠some gg) cs ps:=h.mono fun b hb Ol=>⟨hb.1,hb.2,fun e=>by
  rcases Oc with Oc|Oc
  ·exact hb.2 (e.trans Oc.symm)
  ·have:=Option.some.inj e;omega⟩
 have h3:ec (w5.setCell (ai b1 off) u) (fun b=>b1<b/\some b≠v.ownBlock/\some b≠some gg) cs ps:=ec.keep (w:=w) (fun b hb Ol=>by
  rw[dd,if_neg (by have:=hb.1;omega)]
  exact hg.block b Ol hb.2.1) h2
 exact h3.mono fun b hb _=>⟨hb.1,hb.2.2⟩
theorem NJ (w:an)(rb wb:Nat)(ws:List W)(i:Nat)(R:Rd w rb wb ws i):
  Calls Tryz.prog 177 #[ag rb] w (lg w rb wb ws (fH ws i) (mQ w)):=by
 obtain⟨i0,Ou,Ov,Ow,Ox⟩:=info_parts Tryz.info208;have A0:gm w.heap.size rb w (w.alloc (ak #[.bool false,aa 0,ae ⟨#[]⟩,aa 0,ah,ah] 152)) i:=gm.of_below R.next ((Below.refl w.heap.size w).alloc (ay _) _);have R0:=R.alloc (ak #[.bool false,aa 0,ae ⟨#[]⟩,aa 0,ah,ah] 152);have K0:=de.new w #[.bool false,aa 0,ae ⟨#[]⟩,aa 0,ah,ah] 152;have n1:¬w.heap.size=rb:=by have:=R.blocks;omega
 have n3:¬rb=w.heap.size:=by omega
 have z0:w.heap.size<(w.alloc (ak #[.bool false,aa 0,ae ⟨#[]⟩,aa 0,ah,ah] 152)).heap.size:=by simp
 generalize hr:fH ws i=r;have HR:Hid (fH ws i=r):=hr;clear hr;go_enter Tryz.func177,Tryz.ntmps177
 go_wp2_with fail
 refine(Ax _ rb wb ws i _ [109,101,115,115,97,103,101] R0 (by decide+kernel) (by decide)).mono ?_
 cases h1:eQ ws [109,101,115,115,97,103,101] i with
 |error p=>
  rintro e w1 ⟨rfl,j,A⟩;obtain rfl:r= .error p:=by rw[<-HR.out,fH,d8 h1]
  unfold da;go_wp2;exact⟨rfl,rfl,j,A0.trans A (by omega)⟩
 |ok q=>
  obtain⟨_,i1⟩:=q;rintro e w1 ⟨rfl,R1,A⟩;have z1:w.heap.size<w1.heap.size:=aC z0 A.size;have K1:=K0.adv_ A z0 n1;have A1:=A0.trans A (by omega);clear A R0 K0 A0 z0;go_wp2_with fail
  refine(Lg _ rb wb ws i1 1 R1 (by decide)).mono ?_
  cases h2:jb ws 1 i1 with
  |error p=>
   rintro e w2 ⟨rfl,j,A⟩;obtain rfl:r= .error p:=by rw[<-HR.out,fH,dy h1,d8 h2]
   unfold da;go_wp2;exact⟨rfl,rfl,j,A1.trans A (by omega)⟩
  |ok q=>
   obtain⟨x,i2⟩:=q;rintro e w2 ⟨rfl,R2,A⟩;have z2:w.heap.size<w2.heap.size:=aC z1 A.size;have K2:=(K1.adv_ A z1 n1).alloc (ak #[.bool false,aa (cZ x.1),ae x.1,aa x.2,ah,ah] 152);have J2:=de.new w2 #[.bool false,aa (cZ x.1),ae x.1,aa x.2,ah,ah] 152;have A2:=(A1.trans A (by omega)).alloc (ay _) (ak #[.bool false,aa (cZ x.1),ae x.1,aa x.2,ah,ah] 152);have R3:=R2.alloc (ak #[.bool false,aa (cZ x.1),ae x.1,aa x.2,ah,ah] 152);have z3:w2.heap.size<(w2.alloc (ak #[.bool false,aa (cZ x.1),ae x.1,aa x.2,ah,ah] 152)).heap.size:=by simp
   have n5:¬w2.heap.size=rb:=by have:=R.blocks;omega
   have n6:¬w2.heap.size=w.heap.size:=by omega
   have n7:rb<w2.heap.size:=by have:=R.blocks;omega
   clear A R1 K1 A1 z1;go_wp2_with fail
   refine(Ax _ rb wb ws i2 _ [123] R3 (by decide+kernel) (by decide)).mono ?_
   cases h3:eQ ws [123] i2 with
   |error p=>
    rintro e w3 ⟨rfl,j,A⟩;obtain rfl:r= .error p:=by rw[<-HR.out,fH,dy h1,dy h2,d8 h3]
    unfold da;go_wp2;exact⟨rfl,rfl,j,A2.trans A (by omega)⟩
   |ok q=>
    obtain⟨_,i3⟩:=q;rintro e w3 ⟨rfl,R4,A⟩;have z4:w2.heap.size<w3.heap.size:=aC z3 A.size;have K4:=K2.adv_ A (by omega) n1;have J4:=J2.adv_ A z3 n5;have A4:=A2.trans A (by omega);clear A R2 R3 K2 J2 A2 z3;obtain⟨M,HM⟩:∃M,Hid (fk (d7 ws [125]) (kX ws) ws.length i3=M):=⟨_,rfl⟩
    have Om:Hid ((fx M fun l i=>fx (eQ ws [125] i) fun _ i=> .ok (⟨false,x,l,[]⟩,i))=r):=by
     have:=HR.out;rw[fH,dy h1,dy h2,dy h3,HM.out]at this;exact this
    clear HR h1 h2 h3;go_wp2_with fail
    go_loopw [13] (fun _ wr=>∃(n k:Nat) (ps:List er) (pa:aw) (pn pc:Nat) (N8:aq),ps.length<=k/\ws.length-k<=n/\Hid (lf ps (fk (d7 ws [125]) (kX ws) n k)=M)/\Rd wr rb wb ws k/\gm w.heap.size rb w wr k/\de wr w.heap.size #[.bool false,aa 0,ae ⟨#[]⟩,aa 0,ah,ah] 152/\de wr w2.heap.size #[.bool false,aa (cZ x.1),ae x.1,aa x.2,.slice pa pn pc,ah] 152/\wr.ownsRow (w2.heap.size+1) 208 4 (.slice pa pn pc) ps.length N8/\ec wr (fun b=>w2.heap.size<b/\some b≠(Value.slice pa pn pc).ownBlock) N8 ps/\w2.heap.size<wr.heap.size) (fun _ wr=>ws.length-gK rb wr)
    case atStart=>
     refine⟨ws.length,i3,[],none,0,0,[],by simp,by omega,?_,R4,A4,K4,J4,aX _ _ _ _,rfl,z4⟩;rw[<-HM.out];unfold Hid lf fx
     cases fk (d7 ws [125]) (kX ws) ws.length i3<;>rfl
    case round=>
     clear J4 R4 K4 A4 z4 HM;obtain⟨n,k,ps,pa,pn,pc,N8,hfl,hn,HP,RR,AA,KK,J,Oa,Oi,hz⟩:=hrel;have hk:=RR.lt;have hfew:=RR.few;have HN:Hid (gK rb wr=k):=RR.nextOf;obtain⟨y,hy⟩:=RR.word
     cases hs:(y.1.toList== [125])
     ·have Oh:d7 ws [125] k=false:=by unfold d7;simp only[hy,hs]
      have HY:Hid (ws[k]?=some y):=hy;clear hy;go_wp2_with fail
      refine(GU _ rb wb ws k y _ RR HY.out).mono ?_;rintro e w3 ⟨rfl,N7⟩;rw[show(ByteArray.mk #[125]).toList= [125]from by decide+kernel];have R3:=RR.below N7 RR.blocks.1 RR.blocks.2;have A3:=AA.below N7 AA.size;have K3:=KK.below N7 KK.lt;have J3:=J.below N7 J.lt;have N2:w3.ownsRow (w2.heap.size+1) 208 4 (.slice pa pn pc) ps.length N8:=dO N7 Oa;have Ob:=Oi.keep (fun b _ hb=>N7.block b hb);have Oo:w2.heap.size<w3.heap.size:=aC hz N7.size
      have HO:Hid (some w2.heap.size≠(Value.slice pa pn pc).ownBlock):=by
       intro e;have:=(N2.lt _ e.symm).1;omega
      clear RR AA KK J Oa Oi hz N7;go_wp2_with fail
      have j3:=J3.cell 4
      cases h4:kX ws k with
      |error p=>
       obtain rfl:r= .error p:=by
        rw[<-Om.out,<-HP.out,nV Oh (by omega) h4];rfl
       refine wp_region_held_drew (S:=fun w'=>w'.cell? (ai w2.heap.size 4)=some (.slice pa pn pc)) (by kernel_rfl) (by simpa using j3) (fun hHeld=> ?_);refine fC 0 (.pointer (some (ai w2.heap.size 4))) rfl (by kernel_rfl) (fun _ _ _ h=>h) (Or.inl ⟨by rfl,fun w Oe=>by dsimp only at Oe;go_simp⟩) hHeld ?_;refine fC 1 (.slice pa pn pc) rfl (by kernel_rfl) (fun _ _ _ h=>h) (Or.inl ⟨by rfl,fun w Oe=>by dsimp only at Oe;go_simp⟩) hHeld ?_;refine fC 2 (ag rb) rfl (by kernel_rfl) (fun _ _ _ h=>h) (Or.inl ⟨by rfl,fun w Oe=>by dsimp only at Oe;go_simp⟩) hHeld ?_;simp only[Act.put,NZ];refine wpAnyH_ready (rs:= [3]) (by kernel_rfl) (by simp) (AllReadyH.cons rfl (fun K hK=> ?_) AllReadyH.nil);clear hK;go_simp;refine(Nl _ rb wb ws k R3.drew).mono ?_;rw[h4];rintro e w4 ⟨rfl,j,A⟩;exact⟨rfl,rfl,j,A3.drew.trans A (by have:=A3.size;simp;omega)⟩
      |ok q=>
       obtain⟨p,k1⟩:=q;have hk1:k<k1:=yq _ _ _ _ h4
       have Oq:Hid (lf (ps++ [p]) (fk (d7 ws [125]) (kX ws) (n-1) k1)=M):=by
        rw[<-HP.out,pF ps Oh (by omega) h4];exact rfl
       have J:=J3;have RR:=R3;go_region_law (first|(refine step_append_lies _ (by rfl) _ _ _ (by rfl) (w2.heap.size+1) 208 i0 _ 4 56 Tryz.underlying149 Ou Ov Ow Ox rfl (by omega) (.slice pa pn pc) ps.length N8 (by rfl) ((ig A (ay _) (by omega) (mo N2)).alloc _) (ai w4.heap.size 0) 1 1 [_,_,_,_] (by rfl) (by rfl) (bl (t:=208) (fr:=(0,0)) (heap_alloc_new w4 _)) (by simp[Value.oneCell']) (by omega) (by unfold maxLen;omega) (by omega) (by have:=A.size;simp at this⊢;omega) (w4.heap.size+1) (by simp) ?_;intro gg cap w5 Of N3 Oc Ol;obtain⟨x1,x2⟩:=(((J.drew.adv_ A (by simp;omega) n5).alloc _).grown N3 HO.out).rules)|(go_simp;go_at_call 259;refine(Nl _ rb wb ws k RR.drew).mono ?_;rw[h4];rintro e w4 ⟨⟨fa,fn,fc,rfl,Og⟩,R5,A⟩;obtain⟨y1,y2⟩:=(J.drew.adv_ A (by simp;omega) n5).rules;obtain⟨y3,y4,y5,y6⟩:=eK (w:=w4) (b:=w2.heap.size) (by have:=A.size;simp at this;omega)))
       all_goals
        go_wp2;go_roundw
        case rel=>
         go_light;have hz4:w3.heap.size<=w4.heap.size:=by have:=A.size;simpa using this
         have Ot:=N3.size;have A6:=((((A3.drew.trans A (by have:=A3.size;simp;omega)).alloc (ay _) _).grown N3 (ay _) (fun j hj=>by have:=(N2.lt j hj).1;omega))).setCell (a:=(ai w2.heap.size 4)) (by simp;omega) (.slice (some (ai gg 0)) (ps.length+1) cap);refine⟨n-1,k1,ps++ [p],some (ai gg 0),ps.length+1,cap,N8++ [aa (kS p.oneof),ae (iz p.oneof),aa (kM p.oneof),.slice fa fn fc],by simp;omega,by omega,Oq,A6.rd R R.blocks.1 R.blocks.2 R5.lt,A6,?_,?_,?_,?_,?_⟩;rotate_left 2
         ·have:=ownsRow_setCell_below Of (a:=(ai w2.heap.size 4)) (by simp) (.slice (some (ai gg 0)) (ps.length+1) cap);simpa using this
         rotate_left 2
         ·exact(((K3.drew.adv_ A (by simp;omega) n1).alloc _).grown N3 (fun e=>by have:=(N2.lt _ e.symm).1;omega)).other 4 _ n6
         ·exact(((J3.drew.adv_ A (by simp;omega) n5).alloc _).grown N3 HO.out).set 4 _
         ·refine ec.appended N3 Oc (by simp) ?_;refine ec.snoc ?_ ?_
          ·refine((dJ.of (Og.alloc _)).mono fun b hb Oj=>⟨aC Oo (by simpa using hb),fun e=> ?_⟩);have:=(N2.lt b e.symm).2;have:w3.heap.size<=b:=by simpa using hb
           omega
          ·refine ec.keep (w:=w3) (fun b hb Oj=> ?_) Ob;rw[Below.heap_alloc _ _ _ (by omega),Below.block A b (by simpa using Oj),yh,dd,if_neg (by have:=hb.1;omega)];rfl
         ·simp[World.setCell]at Ot⊢;omega
        case measure=>
         go_light;have A6:=((((A3.drew.trans A (by have:=A3.size;simp;omega)).alloc (ay _) _).grown N3 (ay _) (fun j hj=>by have:=(N2.lt j hj).1;omega))).setCell (a:=(ai w2.heap.size 4)) (by simp;omega) (.slice (some (ai gg 0)) (ps.length+1) cap);have R6:=A6.rd R R.blocks.1 R.blocks.2 R5.lt;have h6:=R6.lt;rw[R6.nextOf,HN.out];omega
     ·have Oh:d7 ws [125] k=true:=by unfold d7;simp only[hy,hs]
      have h5:eQ ws [125] k= .ok ((),k+1):=by unfold eQ;simp only[hy,hs];rfl
      have HY:Hid (ws[k]?=some y):=hy;clear hy
      obtain rfl:r= .ok (⟨false,x,ps,[]⟩,k+1):=by
       rw[<-Om.out,<-HP.out,mm Oh];simp only[lf,fx,h5,bT]
      go_wp2_with fail
      refine(GU _ rb wb ws k y _ RR HY.out).mono ?_;rintro e w3 ⟨rfl,N7⟩;rw[show(ByteArray.mk #[125]).toList= [125]from by decide+kernel];have R3:=RR.below N7 RR.blocks.1 RR.blocks.2;have A3:=AA.below N7 AA.size;have K3:=KK.below N7 KK.lt;have J3:=J.below N7 J.lt;have N2:w3.ownsRow (w2.heap.size+1) 208 4 (.slice pa pn pc) ps.length N8:=dO N7 Oa;have Ob:=Oi.keep (fun b _ hb=>N7.block b hb);have Oo:w2.heap.size<w3.heap.size:=aC hz N7.size;clear RR AA KK J Oa Oi hz N7;go_wp2_with fail
      refine(Ax _ rb wb ws k _ [125] R3 (by decide+kernel) (by decide)).mono ?_;rw[h5];rintro e w4 ⟨rfl,R4,A⟩;have K4:=K3.adv_ A (by omega) n1;have J4:=J3.adv_ A (by omega) n5;have A4:=A3.trans A A3.size;have Od:w4.ownsRow (w2.heap.size+1) 208 4 (.slice pa pn pc) ps.length N8:=ig A (ay _) (by omega) N2
      have Ok:ec w4 (fun b=>w2.heap.size<b/\some b≠(Value.slice pa pn pc).ownBlock) N8 ps:=ec.keep (w:=w3) (fun b hb Oj=>by
       rw[Below.block A b Oj,yh,dd,if_neg (by have:=hb.1;omega)]) Ob
      obtain⟨k1,k2⟩:=K4.rules;obtain⟨j1,j2⟩:=J4.rules;go_wp2;have A9:=A4.sets (b:=w.heap.size) (ay _) [.bool false,aa (cZ x.1),ae x.1,aa x.2,.slice pa pn pc,ah] 0;have K9:=K4.sets_all [.bool false,aa (cZ x.1),ae x.1,aa x.2,.slice pa pn pc,ah] rfl;refine bodyPost_ret (dw Tryz.results177 _ _ rfl K9 Tryz.underlying152 (by kernel_rfl)) rfl ⟨⟨pa,pn,pc,none,0,0,rfl,N8,?_,?_,?_⟩,?_,A9⟩
      ·exact(dJ.of (fM (lo:=w.heap.size) Od (b:=w.heap.size) (Nat.lt_succ_of_lt z2) (Nat.le_succ_of_le (bw z2)) [.bool false,aa (cZ x.1),ae x.1,aa x.2,.slice pa pn pc,ah] 0))
      ·have h9:=(ec.keep (w:=w4) (w':=w4.setCells w.heap.size 0 [.bool false,aa (cZ x.1),ae x.1,aa x.2,.slice pa pn pc,ah]) (fun b hb _=>fP _ _ (by have:=hb.1;omega) _ _) Ok);exact h9.mono (fun b hb _=>bw (Nat.lt_trans z2 hb.1))
      ·exact⟨aX _ _ _ _,fun b hb=>by cases hb⟩
      ·exact A9.rd R R.blocks.1 R.blocks.2 R4.lt
end
end Go.Proofs.YtfebdimolnobaaaGreatDoor
