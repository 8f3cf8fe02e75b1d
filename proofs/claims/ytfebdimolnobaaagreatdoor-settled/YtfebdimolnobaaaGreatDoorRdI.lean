import Derived.Test.YtfebdimolnobaaaGreatDoorAl
import Derived.Deep.Draws
import Derived.Maps.OwnSet
import Derived.Maps.OwnOps
import Derived.Shelf.Pu.ParseUintPublic10
set_option maxRecDepth 100000
set_option maxHeartbeats 8000000
set_option linter.all false
namespace Go.Proofs.YtfebdimolnobaaaGreatDoor
open Go.RowKit Go.Proofs.Tryz
section
attribute [local go_sem] ji jj jk
def mE:Option W->Int
 |some x=>dH x.1
 |none=>0
def jm:Option W->am
 |some x=>x.1
 |none=>⟨#[]⟩
def mA:Option W->Nat
 |some x=>x.2
 |none=>0
abbrev FC (f:eD):Array Value:= #[aa f.form,aa (mE f.key),ae (jm f.key),aa (mA f.key),aa (dH f.type.1),ae f.type.1,aa f.type.2,aa (dH f.name.1),ae f.name.1,aa f.name.2,aa (dH f.num.1),ae f.num.1,aa f.num.2]
abbrev FO (f:eD):Obj:=Obj.cells (FC f) 211
def Jy (o:Option W):Jv o= [aa (mE o),ae (jm o),aa (mA o)]:=by cases o<;>rfl
def nW (w:an)(p:fC)(w':an)(e:Ending):Prop:=
 ∃fa fn fc,e= .returned (.agg #[aa (mE p.oneof),ae (jm p.oneof),aa (mA p.oneof),.slice fa fn fc])/\w'.ownsRow w.heap.size 211 13 (.slice fa fn fc) p.fields.length (p.fields.flatMap p6)
def O1 (w:an)(rb wb:Nat)(ws:List W)(i:Nat)(R:Rd w rb wb ws i):
  Calls prog 338 #[ag rb] w (mP w rb wb ws (ir ws i) (nW w)):=by
 refine(Qb w rb wb ws i R).mono λe w' h=> ?_
 cases hf:ir ws i with
 |error p=>rw[hf]at h;exact h
 |ok q=>
  obtain⟨p,j⟩:=q;rw[hf]at h;obtain⟨⟨fv,h1,h3⟩,h2⟩:=h;obtain⟨fa,fn,fc,rfl⟩:=dL h3;exact⟨⟨fa,fn,fc,by rw[h1,Jy];rfl,h3⟩,h2⟩
def gP {ws:List W}{i:Nat}{x:W}(s:List UInt8)(h:ws[i]?=some x):eZ ws s i=(x.1.toList==s):=by unfold eZ;simp only[h]
def NO (w:an)(rb wb:Nat)(ws:List W)(i:Nat)(R:Rd w rb wb ws i)(t0:eZ ws [111,110,101,111,102] i=true):
  Calls prog 259 #[ag rb] w (mP w rb wb ws (ir ws i) (nW w)):=by
 obtain⟨x,hx⟩:=R.word;have HX:Hid (ws[i]?=some x):=hx;have A0:ip w.heap.size rb w (w.alloc (ak #[aa 0,ae ⟨#[]⟩,aa 0,ah] 208)) i:=ip.of_below R.next ((Below.refl w.heap.size w).alloc (ay _) _);have R0:=R.alloc (ak #[aa 0,ae ⟨#[]⟩,aa 0,ah] 208);have K0:=dK.new w #[aa 0,ae ⟨#[]⟩,aa 0,ah] 208;have n1:¬w.heap.size=rb:=by have:=R.blocks;omega
 have n3:¬rb=w.heap.size:=QD;have z0:w.heap.size<(w.alloc (ak #[aa 0,ae ⟨#[]⟩,aa 0,ah] 208)).heap.size:=QE;rw[gP _ hx]at t0;clear hx;generalize hr:ir ws i=r;have HR:Hid (ir ws i=r):=hr;clear hr;go_enter func259,ntmps259;go_wp2_with fail;refine(DR _ rb wb ws i x R0 HX.out).mono ?_;rintro e w1 ⟨rfl,QP⟩;have R1:=R0.below QP R0.blocks.1 R0.blocks.2;have A1:=A0.below QP (bG z0);have K1:=K0.below QP z0;have z1:w.heap.size<w1.heap.size:=aC z0 QP.size;clear R0 A0 K0 z0 QP;go_wp2_with fail;refine(O1 _ rb wb ws i R1).mono ?_
 cases h1:ir ws i with
 |error p=>
  rintro e w2 ⟨rfl,j,A⟩;obtain rfl:r= .error p:=HR.out.symm.trans h1;unfold dI;go_wp2;exact⟨rfl,rfl,j,A1.trans A QD⟩
 |ok q=>
  obtain⟨p,i1⟩:=q;rintro e w2 ⟨⟨fa,fn,fc,rfl,QQ⟩,R2,A⟩;obtain rfl:r= .ok (p,i1):=HR.out.symm.trans h1;have K9:=K1.adv_ A z1 n1;have A9:=A1.trans A QD;obtain⟨k1,k2⟩:=K9.rules;go_wp2;have QS:=A9.sets (b:=w.heap.size) (ay _) [aa (mE p.oneof),ae (jm p.oneof),aa (mA p.oneof),.slice fa fn fc] 0;have QU:=K9.sets_all [aa (mE p.oneof),ae (jm p.oneof),aa (mA p.oneof),.slice fa fn fc] rfl;refine dE (dZ results259 _ _ rfl QU underlying208 QI) rfl ⟨⟨fa,fn,fc,rfl,?_⟩,?_,QS⟩
  ·exact gS (lo:=w.heap.size) QQ (b:=w.heap.size) z1 (bG z1) [aa (mE p.oneof),ae (jm p.oneof),aa (mA p.oneof),.slice fa fn fc] 0
  ·exact QS.rd R R.blocks.1 R.blocks.2 R2.lt
def NP (w:an)(rb wb:Nat)(ws:List W)(i:Nat)(R:Rd w rb wb ws i)(t0:eZ ws [111,110,101,111,102] i=false)(t1:eZ ws [109,97,112] i=true):
  Calls prog 259 #[ag rb] w (mP w rb wb ws (gz (mD ws i)) (nW w)):=by
 obtain⟨x,hx⟩:=R.word;have HX:Hid (ws[i]?=some x):=hx;have A0:ip w.heap.size rb w (w.alloc (ak #[aa 0,ae ⟨#[]⟩,aa 0,ah] 208)) i:=ip.of_below R.next ((Below.refl w.heap.size w).alloc (ay _) _);have R0:=R.alloc (ak #[aa 0,ae ⟨#[]⟩,aa 0,ah] 208);have K0:=dK.new w #[aa 0,ae ⟨#[]⟩,aa 0,ah] 208;have n1:¬w.heap.size=rb:=by have:=R.blocks;omega
 have n3:¬rb=w.heap.size:=QD;have z0:w.heap.size<(w.alloc (ak #[aa 0,ae ⟨#[]⟩,aa 0,ah] 208)).heap.size:=QE;rw[gP _ hx]at t0;rw[gP _ hx]at t1;clear hx;generalize hr:gz (mD ws i)=r;have HR:Hid (gz (mD ws i)=r):=hr;clear hr;go_enter func259,ntmps259;go_wp2_with fail;refine(DR _ rb wb ws i x R0 HX.out).mono ?_;rintro e w1 ⟨rfl,QP⟩;have R1:=R0.below QP R0.blocks.1 R0.blocks.2;have A1:=A0.below QP (bG z0);have K1:=K0.below QP z0;have z1:w.heap.size<w1.heap.size:=aC z0 QP.size;clear R0 A0 K0 z0 QP;go_wp2_with fail;refine(Qa _ rb wb ws i R1).mono ?_
 cases h1:mD ws i with
 |error p=>
  rintro e w3 ⟨rfl,j,A⟩;obtain rfl:r= .error p:=by rw[<-HR.out,gz,e7 h1]
  unfold dI;go_wp2;exact⟨rfl,rfl,j,A1.trans A QD⟩
 |ok q=>
  obtain⟨f,i1⟩:=q;rintro e w3 ⟨rfl,R3,A⟩;obtain rfl:r= .ok (⟨none,[f]⟩,i1):=by rw[<-HR.out,gz,d6 h1]
  have K3:=K1.adv_ A z1 n1;have A3:=A1.trans A QD;have z3:w.heap.size<w3.heap.size:=aC z1 A.size;clear A;go_wp2_with fail;refine(ON _ f).mono ?_;rintro e w4 ⟨fv,rfl,QQ,QT⟩;obtain⟨fa,fn,fc,rfl⟩:=dL QQ;have QR:w4.ownsRow w3.heap.size 211 13 (.slice fa fn fc) [f].length ([f].flatMap p6):=by simpa using QQ
  have K9:=K3.below QT z3;have A9:=A3.below QT (bG z3);obtain⟨k1,k2⟩:=K9.rules;go_wp2;have QS:=A9.sets (b:=w.heap.size) (ay _) [aa 0,ae ⟨#[]⟩,aa 0,.slice fa fn fc] 0;have QU:=K9.sets_all [aa 0,ae ⟨#[]⟩,aa 0,.slice fa fn fc] rfl;refine dE (dZ results259 _ _ rfl QU underlying208 QI) rfl ⟨⟨fa,fn,fc,rfl,?_⟩,?_,QS⟩
  ·exact gS (lo:=w.heap.size) QR (b:=w.heap.size) z3 (bG z3) [aa 0,ae ⟨#[]⟩,aa 0,.slice fa fn fc] 0
  ·exact QS.rd R R.blocks.1 R.blocks.2 R3.lt
def NQ (w:an)(rb wb:Nat)(ws:List W)(i:Nat)(R:Rd w rb wb ws i)(t0:eZ ws [111,110,101,111,102] i=false)(t1:eZ ws [109,97,112] i=false)(t2:eZ ws [114,101,112,101,97,116,101,100] i=true):
  Calls prog 259 #[ag rb] w (mP w rb wb ws (gz (fm ws 2 (i+1))) (nW w)):=by
 obtain⟨x,hx⟩:=R.word;have HX:Hid (ws[i]?=some x):=hx;have A0:ip w.heap.size rb w (w.alloc (ak #[aa 0,ae ⟨#[]⟩,aa 0,ah] 208)) i:=ip.of_below R.next ((Below.refl w.heap.size w).alloc (ay _) _);have R0:=R.alloc (ak #[aa 0,ae ⟨#[]⟩,aa 0,ah] 208);have K0:=dK.new w #[aa 0,ae ⟨#[]⟩,aa 0,ah] 208;have n1:¬w.heap.size=rb:=by have:=R.blocks;omega
 have n3:¬rb=w.heap.size:=QD;have z0:w.heap.size<(w.alloc (ak #[aa 0,ae ⟨#[]⟩,aa 0,ah] 208)).heap.size:=QE;rw[gP _ hx]at t0;rw[gP _ hx]at t1;rw[gP _ hx]at t2;have hp:0<x.1.size:=nS t2 QG;clear hx;generalize hr:gz (fm ws 2 (i+1))=r;have HR:Hid (gz (fm ws 2 (i+1))=r):=hr;clear hr;go_enter func259,ntmps259;go_wp2_with fail;refine(DR _ rb wb ws i x R0 HX.out).mono ?_;rintro e w1 ⟨rfl,QP⟩;have R1:=R0.below QP R0.blocks.1 R0.blocks.2;have A1:=A0.below QP (bG z0);have K1:=K0.below QP z0;have z1:w.heap.size<w1.heap.size:=aC z0 QP.size;clear R0 A0 K0 z0 QP;go_wp2_with fail;refine(NN _ rb wb ws i x R1 HX.out hp).mono ?_;rintro e w2 ⟨rfl,R2,A⟩;have K2:=K1.adv_ A z1 n1;have A2:=A1.trans A QD;have z2:w.heap.size<w2.heap.size:=aC z1 A.size;clear R1 A1 K1 z1 A;go_wp2_with fail;refine(OM _ rb wb ws (i+1) 2 R2).mono ?_
 cases h1:fm ws 2 (i+1)with
 |error p=>
  rintro e w3 ⟨rfl,j,A⟩;obtain rfl:r= .error p:=by rw[<-HR.out,gz,e7 h1]
  unfold dI;go_wp2;exact⟨rfl,rfl,j,A2.trans A QD⟩
 |ok q=>
  obtain⟨f,i1⟩:=q;rintro e w3 ⟨rfl,R3,A⟩;obtain rfl:r= .ok (⟨none,[f]⟩,i1):=by rw[<-HR.out,gz,d6 h1]
  have K3:=K2.adv_ A z2 n1;have A3:=A2.trans A QD;have z3:w.heap.size<w3.heap.size:=aC z2 A.size;clear A;go_wp2_with fail;refine(ON _ f).mono ?_;rintro e w4 ⟨fv,rfl,QQ,QT⟩;obtain⟨fa,fn,fc,rfl⟩:=dL QQ;have QR:w4.ownsRow w3.heap.size 211 13 (.slice fa fn fc) [f].length ([f].flatMap p6):=by simpa using QQ
  have K9:=K3.below QT z3;have A9:=A3.below QT (bG z3);obtain⟨k1,k2⟩:=K9.rules;go_wp2;have QS:=A9.sets (b:=w.heap.size) (ay _) [aa 0,ae ⟨#[]⟩,aa 0,.slice fa fn fc] 0;have QU:=K9.sets_all [aa 0,ae ⟨#[]⟩,aa 0,.slice fa fn fc] rfl;refine dE (dZ results259 _ _ rfl QU underlying208 QI) rfl ⟨⟨fa,fn,fc,rfl,?_⟩,?_,QS⟩
  ·exact gS (lo:=w.heap.size) QR (b:=w.heap.size) z3 (bG z3) [aa 0,ae ⟨#[]⟩,aa 0,.slice fa fn fc] 0
  ·exact QS.rd R R.blocks.1 R.blocks.2 R3.lt
def NR (w:an)(rb wb:Nat)(ws:List W)(i:Nat)(R:Rd w rb wb ws i)(t0:eZ ws [111,110,101,111,102] i=false)(t1:eZ ws [109,97,112] i=false)(t2:eZ ws [114,101,112,101,97,116,101,100] i=false)(t3:eZ ws [111,112,116,105,111,110,97,108] i=true):
  Calls prog 259 #[ag rb] w (mP w rb wb ws (gz (fm ws 1 (i+1))) (nW w)):=by
 obtain⟨x,hx⟩:=R.word;have HX:Hid (ws[i]?=some x):=hx;have A0:ip w.heap.size rb w (w.alloc (ak #[aa 0,ae ⟨#[]⟩,aa 0,ah] 208)) i:=ip.of_below R.next ((Below.refl w.heap.size w).alloc (ay _) _);have R0:=R.alloc (ak #[aa 0,ae ⟨#[]⟩,aa 0,ah] 208);have K0:=dK.new w #[aa 0,ae ⟨#[]⟩,aa 0,ah] 208;have n1:¬w.heap.size=rb:=by have:=R.blocks;omega
 have n3:¬rb=w.heap.size:=QD;have z0:w.heap.size<(w.alloc (ak #[aa 0,ae ⟨#[]⟩,aa 0,ah] 208)).heap.size:=QE;rw[gP _ hx]at t0;rw[gP _ hx]at t1;rw[gP _ hx]at t2;rw[gP _ hx]at t3;have hp:0<x.1.size:=nS t3 QG;clear hx;generalize hr:gz (fm ws 1 (i+1))=r;have HR:Hid (gz (fm ws 1 (i+1))=r):=hr;clear hr;go_enter func259,ntmps259;go_wp2_with fail;refine(DR _ rb wb ws i x R0 HX.out).mono ?_;rintro e w1 ⟨rfl,QP⟩;have R1:=R0.below QP R0.blocks.1 R0.blocks.2;have A1:=A0.below QP (bG z0);have K1:=K0.below QP z0;have z1:w.heap.size<w1.heap.size:=aC z0 QP.size;clear R0 A0 K0 z0 QP;go_wp2_with fail;refine(NN _ rb wb ws i x R1 HX.out hp).mono ?_;rintro e w2 ⟨rfl,R2,A⟩;have K2:=K1.adv_ A z1 n1;have A2:=A1.trans A QD;have z2:w.heap.size<w2.heap.size:=aC z1 A.size;clear R1 A1 K1 z1 A;go_wp2_with fail;refine(OM _ rb wb ws (i+1) 1 R2).mono ?_
 cases h1:fm ws 1 (i+1)with
 |error p=>
  rintro e w3 ⟨rfl,j,A⟩;obtain rfl:r= .error p:=by rw[<-HR.out,gz,e7 h1]
  unfold dI;go_wp2;exact⟨rfl,rfl,j,A2.trans A QD⟩
 |ok q=>
  obtain⟨f,i1⟩:=q;rintro e w3 ⟨rfl,R3,A⟩;obtain rfl:r= .ok (⟨none,[f]⟩,i1):=by rw[<-HR.out,gz,d6 h1]
  have K3:=K2.adv_ A z2 n1;have A3:=A2.trans A QD;have z3:w.heap.size<w3.heap.size:=aC z2 A.size;clear A;go_wp2_with fail;refine(ON _ f).mono ?_;rintro e w4 ⟨fv,rfl,QQ,QT⟩;obtain⟨fa,fn,fc,rfl⟩:=dL QQ;have QR:w4.ownsRow w3.heap.size 211 13 (.slice fa fn fc) [f].length ([f].flatMap p6):=by simpa using QQ
  have K9:=K3.below QT z3;have A9:=A3.below QT (bG z3);obtain⟨k1,k2⟩:=K9.rules;go_wp2;have QS:=A9.sets (b:=w.heap.size) (ay _) [aa 0,ae ⟨#[]⟩,aa 0,.slice fa fn fc] 0;have QU:=K9.sets_all [aa 0,ae ⟨#[]⟩,aa 0,.slice fa fn fc] rfl;refine dE (dZ results259 _ _ rfl QU underlying208 QI) rfl ⟨⟨fa,fn,fc,rfl,?_⟩,?_,QS⟩
  ·exact gS (lo:=w.heap.size) QR (b:=w.heap.size) z3 (bG z3) [aa 0,ae ⟨#[]⟩,aa 0,.slice fa fn fc] 0
  ·exact QS.rd R R.blocks.1 R.blocks.2 R3.lt
def NS (w:an)(rb wb:Nat)(ws:List W)(i:Nat)(R:Rd w rb wb ws i)(t0:eZ ws [111,110,101,111,102] i=false)(t1:eZ ws [109,97,112] i=false)(t2:eZ ws [114,101,112,101,97,116,101,100] i=false)(t3:eZ ws [111,112,116,105,111,110,97,108] i=false):
  Calls prog 259 #[ag rb] w (mP w rb wb ws (gz (fm ws 0 i)) (nW w)):=by
 obtain⟨x,hx⟩:=R.word;have HX:Hid (ws[i]?=some x):=hx;have A0:ip w.heap.size rb w (w.alloc (ak #[aa 0,ae ⟨#[]⟩,aa 0,ah] 208)) i:=ip.of_below R.next ((Below.refl w.heap.size w).alloc (ay _) _);have R0:=R.alloc (ak #[aa 0,ae ⟨#[]⟩,aa 0,ah] 208);have K0:=dK.new w #[aa 0,ae ⟨#[]⟩,aa 0,ah] 208;have n1:¬w.heap.size=rb:=by have:=R.blocks;omega
 have n3:¬rb=w.heap.size:=QD;have z0:w.heap.size<(w.alloc (ak #[aa 0,ae ⟨#[]⟩,aa 0,ah] 208)).heap.size:=QE;rw[gP _ hx]at t0;rw[gP _ hx]at t1;rw[gP _ hx]at t2;rw[gP _ hx]at t3;clear hx;generalize hr:gz (fm ws 0 i)=r;have HR:Hid (gz (fm ws 0 i)=r):=hr;clear hr;go_enter func259,ntmps259;go_wp2_with fail;refine(DR _ rb wb ws i x R0 HX.out).mono ?_;rintro e w1 ⟨rfl,QP⟩;have R1:=R0.below QP R0.blocks.1 R0.blocks.2;have A1:=A0.below QP (bG z0);have K1:=K0.below QP z0;have z1:w.heap.size<w1.heap.size:=aC z0 QP.size;clear R0 A0 K0 z0 QP;go_wp2_with fail;refine(OM _ rb wb ws i 0 R1).mono ?_
 cases h1:fm ws 0 i with
 |error p=>
  rintro e w3 ⟨rfl,j,A⟩;obtain rfl:r= .error p:=by rw[<-HR.out,gz,e7 h1]
  unfold dI;go_wp2;exact⟨rfl,rfl,j,A1.trans A QD⟩
 |ok q=>
  obtain⟨f,i1⟩:=q;rintro e w3 ⟨rfl,R3,A⟩;obtain rfl:r= .ok (⟨none,[f]⟩,i1):=by rw[<-HR.out,gz,d6 h1]
  have K3:=K1.adv_ A z1 n1;have A3:=A1.trans A QD;have z3:w.heap.size<w3.heap.size:=aC z1 A.size;clear A;go_wp2_with fail;refine(ON _ f).mono ?_;rintro e w4 ⟨fv,rfl,QQ,QT⟩;obtain⟨fa,fn,fc,rfl⟩:=dL QQ;have QR:w4.ownsRow w3.heap.size 211 13 (.slice fa fn fc) [f].length ([f].flatMap p6):=by simpa using QQ
  have K9:=K3.below QT z3;have A9:=A3.below QT (bG z3);obtain⟨k1,k2⟩:=K9.rules;go_wp2;have QS:=A9.sets (b:=w.heap.size) (ay _) [aa 0,ae ⟨#[]⟩,aa 0,.slice fa fn fc] 0;have QU:=K9.sets_all [aa 0,ae ⟨#[]⟩,aa 0,.slice fa fn fc] rfl;refine dE (dZ results259 _ _ rfl QU underlying208 QI) rfl ⟨⟨fa,fn,fc,rfl,?_⟩,?_,QS⟩
  ·exact gS (lo:=w.heap.size) QR (b:=w.heap.size) z3 (bG z3) [aa 0,ae ⟨#[]⟩,aa 0,.slice fa fn fc] 0
  ·exact QS.rd R R.blocks.1 R.blocks.2 R3.lt
def PH (w:an)(rb wb:Nat)(ws:List W)(i:Nat)(R:Rd w rb wb ws i):
  Calls prog 259 #[ag rb] w (mP w rb wb ws (mH ws i) (nW w)):=by
 unfold mH
 cases t0:eZ ws [111,110,101,111,102] i
 ·cases t1:eZ ws [109,97,112] i
  ·cases t2:eZ ws [114,101,112,101,97,116,101,100] i
   ·cases t3:eZ ws [111,112,116,105,111,110,97,108] i
    ·exact NS w rb wb ws i R t0 t1 t2 t3
    ·exact NR w rb wb ws i R t0 t1 t2 t3
   ·exact NQ w rb wb ws i R t0 t1 t2
  ·exact NP w rb wb ws i R t0 t1
 ·exact NO w rb wb ws i R t0
end
section
variable {w w':an} {base k n:Nat} {T:TypeId} {v:Value} {xs:aq} {S S':ap} {b:dO} {a:aw}
def CI (x:W×W):aq:=uN x.1++uN x.2
def et (w:an)(S:ap)(T:TypeId)(k:Nat)(v:Value)(n:Nat)(xs:aq):Prop:=
 w.ownsRow 0 T k v n xs/\∀b,v.ownBlock=some b->S b
theorem d7 (h:w.ownsRow base T k v n xs)(hk:∀b,v.ownBlock=some b->w'.heap[b]?=w.heap[b]?):w'.ownsRow base T k v n xs:=by
 refine⟨h.1,?_⟩
 rcases h.2 with h2|⟨g,cap,QP,rfl,h3,h4,h5⟩
 ·exact .inl h2
 ·exact .inr ⟨g,cap,QP,rfl,h3,(hk g rfl).trans h4,h5⟩
theorem et.keep (h:et w S T k v n xs)(hk:∀b,S b->b<w.heap.size->w'.heap[b]?=w.heap[b]?):et w' S T k v n xs:=
 ⟨d7 h.1 λb hb=>hk b (h.2 b hb) (h.1.lt b hb).2,h.2⟩
theorem et.mono (h:et w S T k v n xs)(hs:∀b,S b->b<w.heap.size->S' b):et w S' T k v n xs:=
 ⟨h.1,λb hb=>hs b (h.2 b hb) (h.1.lt b hb).2⟩
theorem et.of (h:w.ownsRow base T k v n xs):et w (λb=>base<=b) T k v n xs:=
 ⟨nV h (aM _),λb hb=>(h.lt b hb).1⟩
def fj (w:an)(S:ap):aq->List fC->Prop
 |cs,[]=>cs= []
 |cs,p::ps=>∃fa fn fc rest,cs=aa (mE p.oneof)::ae (jm p.oneof)::aa (mA p.oneof):: .slice fa fn fc::rest/\
   et w S 211 13 (.slice fa fn fc) p.fields.length (p.fields.flatMap p6)/\fj w S rest ps
theorem fj.keep (hk:∀b,S b->b<w.heap.size->w'.heap[b]?=w.heap[b]?):∀{ps:List fC} {cs:aq},fj w S cs ps->fj w' S cs ps
 | [],_,h=>h
 |_::_,_,⟨fa,fn,fc,rest,h1,h2,h3⟩=>⟨fa,fn,fc,rest,h1,h2.keep hk,fj.keep hk h3⟩
theorem fj.mono (hs:∀b,S b->b<w.heap.size->S' b):∀{ps:List fC} {cs:aq},fj w S cs ps->fj w S' cs ps
 | [],_,h=>h
 |_::_,_,⟨fa,fn,fc,rest,h1,h2,h3⟩=>⟨fa,fn,fc,rest,h1,h2.mono hs,fj.mono hs h3⟩
theorem fj.snoc {p:fC}{fa:aw}{fn fc:Nat}(h2:et w S 211 13 (.slice fa fn fc) p.fields.length (p.fields.flatMap p6)):∀{ps:List fC} {cs:aq},fj w S cs ps->
   fj w S (cs++ [aa (mE p.oneof),ae (jm p.oneof),aa (mA p.oneof),.slice fa fn fc]) (ps++ [p])
 | [],cs,h=>by
  obtain rfl:cs= []:=h;exact⟨fa,fn,fc,[],rfl,h2,rfl⟩
 |_::_,cs,⟨ga,gn,gc,rest,h1,h3,h4⟩=>by
  subst h1;exact⟨ga,gn,gc,_,rfl,h3,fj.snoc h2 h4⟩
def ju (w:an)(S:ap)(b:dO)(pv vv:Value):Prop:=
 ∃pcs,et w S 208 4 pv b.parts.length pcs/\fj w S pcs b.parts/\et w S 302 6 vv b.values.length (b.values.flatMap CI)
theorem ju.keep {pv vv:Value}(hk:∀b,S b->b<w.heap.size->w'.heap[b]?=w.heap[b]?):ju w S b pv vv->ju w' S b pv vv
 |⟨pcs,h1,h2,h3⟩=>⟨pcs,h1.keep hk,h2.keep hk,h3.keep hk⟩
theorem ju.mono {pv vv:Value}(hs:∀b,S b->b<w.heap.size->S' b):ju w S b pv vv->ju w S' b pv vv
 |⟨pcs,h1,h2,h3⟩=>⟨pcs,h1.mono hs,h2.mono hs,h3.mono hs⟩
def eO (w:an)(S:ap):aq->List dO->Prop
 |cs,[]=>cs= []
 |cs,b::bs=>∃pa pn pc va vn vc rest,cs= .bool b.enum::aa (dH b.name.1)::ae b.name.1::aa b.name.2:: .slice pa pn pc:: .slice va vn vc::rest/\
   ju w S b (.slice pa pn pc) (.slice va vn vc)/\eO w S rest bs
theorem eO.keep (hk:∀b,S b->b<w.heap.size->w'.heap[b]?=w.heap[b]?):∀{bs:List dO} {cs:aq},eO w S cs bs->eO w' S cs bs
 | [],_,h=>h
 |_::_,_,⟨pa,pn,pc,va,vn,vc,rest,h1,h2,h3⟩=>⟨pa,pn,pc,va,vn,vc,rest,h1,h2.keep hk,eO.keep hk h3⟩
theorem eO.mono (hs:∀b,S b->b<w.heap.size->S' b):∀{bs:List dO} {cs:aq},eO w S cs bs->eO w S' cs bs
 | [],_,h=>h
 |_::_,_,⟨pa,pn,pc,va,vn,vc,rest,h1,h2,h3⟩=>⟨pa,pn,pc,va,vn,vc,rest,h1,h2.mono hs,eO.mono hs h3⟩
theorem eO.snoc {pa va:aw}{pn pc vn vc:Nat}(h2:ju w S b (.slice pa pn pc) (.slice va vn vc)):∀{bs:List dO} {cs:aq},eO w S cs bs->
   eO w S (cs++ [.bool b.enum,aa (dH b.name.1),ae b.name.1,aa b.name.2,.slice pa pn pc,.slice va vn vc]) (bs++ [b])
 | [],cs,h=>by
  obtain rfl:cs= []:=h;exact⟨pa,pn,pc,va,vn,vc,[],rfl,h2,rfl⟩
 |_::_,cs,⟨qa,qn,qc,ra,rn,rc,rest,h1,h3,h4⟩=>by
  subst h1;exact⟨qa,qn,qc,ra,rn,rc,_,rfl,h3,eO.snoc h2 h4⟩
def ox (w:an)(b:dO)(w':an)(e:Ending):Prop:=
 ∃pa pn pc va vn vc,e= .returned (.agg #[.bool b.enum,aa (dH b.name.1),ae b.name.1,aa b.name.2,.slice pa pn pc,.slice va vn vc])/\
  ju w' (λx=>w.heap.size<=x) b (.slice pa pn pc) (.slice va vn vc)
def Jz (w:an)(bs:List dO)(w':an)(e:Ending):Prop:=
 ∃a n c cs,e= .returned (.agg #[.slice a n c])/\et w' (λx=>w.heap.size<=x) 152 6 (.slice a n c) bs.length cs/\eO w' (λx=>w.heap.size<=x) cs bs
theorem Tryz.info302:(prog.info? 302).map (λi=>(i.zero,i.size,i.bytes))=some (some (.agg #[aa 0,ae ⟨#[]⟩,aa 0,aa 0,ae ⟨#[]⟩,aa 0]),6,64):=QI
theorem Tryz.info208:(prog.info? 208).map (λi=>(i.zero,i.size,i.bytes))=some (some (.agg #[aa 0,ae ⟨#[]⟩,aa 0,ah]),4,56):=QI
theorem Tryz.info152:(prog.info? 152).map (λi=>(i.zero,i.size,i.bytes))=some (some (.agg #[.bool false,aa 0,ae ⟨#[]⟩,aa 0,ah,ah]),6,88):=QI
theorem eI {m:Nat}{c:Nat}(h:w.ownsRow base T k (.slice a n c) m xs):n=m:=by
 rcases h.2 with⟨h1,h2⟩|⟨g,cap,QP,h1,h2⟩
 ·cases h1;exact h2.symm
 ·cases h1;rfl
theorem iW {m:Nat}(h:w.ownsRow base T k v m xs):∃a c,v= .slice a m c:=by
 obtain⟨a,n,c,rfl⟩:=dL h;rw[eI h];exact⟨a,c,rfl⟩
theorem eh {m:Nat}{c:Nat}(h:w.ownsRow base T k (.slice a n c) m xs)(hm:0<m):
  ∃g,a=some (ai g 0)/\base<=g/\g<w.heap.size/\∀w':an,w'.heap[g]?=w.heap[g]?->∀j u,xs[j]?=some u->w'.cell? (ai g j)=some u:=by
 rcases h.2 with⟨h1,h2⟩|⟨g,cap,QP,h1,h2,h3,h4,h5,h6,h7⟩
 ·omega
 ·cases h1
  refine⟨g,rfl,h2,dK.lt h3,λw' hw j u hj=> ?_⟩;have hb:dK w' g QP T:=hw.trans h3;rw[hb.cell];rw[<-h7,List.getElem?_take]at hj
  split at hj
  ·rw[<-bt];exact hj
  ·simp at hj
def fx (l:ar):aq:=l.map Value.string
theorem iE {a b:an}(h:Below n a b)(k:Nat):Below n a (b.drewN k):=h.trans ⟨rfl,rfl,rfl,ay _,λ_ _=>rfl⟩
theorem Tryz.info9:(prog.info? 9).map (λi=>(i.zero,i.size,i.bytes))=some (some (ae ⟨#[]⟩),1,16):=QI
theorem fL {α:Type}(f:α->aq)(k:Nat)(hk:∀x,(f x).length=k):∀(l:List α) (i:Nat) (x:α),l[i]?=some x->∀j,j<k->(l.flatMap f)[i*k+j]?=(f x)[j]?
 | [],i,x,h,j,hj=>by simp at h
 |y::l,0,x,h,j,hj=>by
  simp at h;subst h;rw[bw,Nat.zero_mul,Nat.zero_add,cM (by rw[hk];exact hj)]
 |y::l,i+1,x,h,j,hj=>by
  rw[bw,cB (by rw[hk,Nat.succ_mul];omega),hk];have:=fL f k hk l i x (by simpa using h) j hj;rw[<-this]
  congr 1;rw[Nat.succ_mul];omega
def ii (k:Int)(s:am):Bool:=k==3&&(!(s.toList== [102,108,111,97,116])&&(!(s.toList== [100,111,117,98,108,101])&& !(s.toList== [98,121,116,101,115])))
end
section
attribute [local go_sem] ji jj jk
attribute [local go_sem↓] Go.wp_at_zero Go.wp_at_succ
def gV (w:an){c:Nat}(b:Nat)(hne:c≠b):∀(vs:aq) (o:Nat),(w.setCells c o vs).heap[b]?=w.heap[b]?
 | [],o=>rfl
 |v::vs,o=>by
  have:=gV (w.setCell (ai c o) v) b hne vs (o+1);rw[dJ,dA hne]at this;simpa [World.setCells]using this
def fj.appended {w w5:an}{v:Value}{gg H b1 off:Nat}{u:Value}{cs:aq}{ps:List fC}(hg:w.grownBy w5 v.ownBlock)(QV:v.ownBlock=some gg\/gg=H)(hH:w.heap.size=H)
  (h:fj w (λb=>b1<b/\some b≠v.ownBlock) cs ps) {cap n:Nat}:fj (w5.setCell (ai b1 off) u) (λb=>b1<b/\some b≠(Value.slice (some (ai gg 0)) n cap).ownBlock) cs ps:=by
 have h2:fj w (λb=>b1<b/\some b≠v.ownBlock/\some b≠some gg) cs ps:=h.mono λb hb Q4=>⟨hb.1,hb.2,λe=>by
  rcases QV with QV|QV
  ·exact hb.2 (e.trans QV.symm)
  ·have:=Option.some.inj e;omega⟩
 have h3:fj (w5.setCell (ai b1 off) u) (λb=>b1<b/\some b≠v.ownBlock/\some b≠some gg) cs ps:=fj.keep (w:=w) (λb hb Q4=>by
  rw[dJ,dA (by have:=hb.1;omega)]
  exact hg.block b Q4 hb.2.1) h2
 exact h3.mono λb hb _=>⟨hb.1,hb.2.2⟩
def Qc (w:an)(rb wb:Nat)(ws:List W)(i:Nat)(R:Rd w rb wb ws i):
  Calls prog 177 #[ag rb] w (mP w rb wb ws (gO ws i) (ox w)):=by
 obtain⟨i0,Q9,Ra,Rb,Rc⟩:=info_parts Tryz.info208;have A0:ip w.heap.size rb w (w.alloc (ak #[.bool false,aa 0,ae ⟨#[]⟩,aa 0,ah,ah] 152)) i:=ip.of_below R.next ((Below.refl w.heap.size w).alloc (ay _) _);have R0:=R.alloc (ak #[.bool false,aa 0,ae ⟨#[]⟩,aa 0,ah,ah] 152);have K0:=dK.new w #[.bool false,aa 0,ae ⟨#[]⟩,aa 0,ah,ah] 152;have n1:¬w.heap.size=rb:=by have:=R.blocks;omega
 have n3:¬rb=w.heap.size:=QD;have z0:w.heap.size<(w.alloc (ak #[.bool false,aa 0,ae ⟨#[]⟩,aa 0,ah,ah] 152)).heap.size:=QE;generalize hr:gO ws i=r;have HR:Hid (gO ws i=r):=hr;clear hr;go_enter func177,ntmps177;go_wp2_with fail;refine(CL _ rb wb ws i _ [109,101,115,115,97,103,101] R0 QH QG).mono ?_
 cases h1:gd ws [109,101,115,115,97,103,101] i with
 |error p=>
  rintro e w1 ⟨rfl,j,A⟩;obtain rfl:r= .error p:=by rw[<-HR.out,gO,e7 h1]
  unfold dI;go_wp2;exact⟨rfl,rfl,j,A0.trans A QD⟩
 |ok q=>
  obtain⟨_,i1⟩:=q;rintro e w1 ⟨rfl,R1,A⟩;have z1:w.heap.size<w1.heap.size:=aC z0 A.size;have K1:=K0.adv_ A z0 n1;have A1:=A0.trans A QD;clear A R0 K0 A0 z0;go_wp2_with fail;refine(NH _ rb wb ws i1 1 R1 QG).mono ?_
  cases h2:ki ws 1 i1 with
  |error p=>
   rintro e w2 ⟨rfl,j,A⟩;obtain rfl:r= .error p:=by rw[<-HR.out,gO,d6 h1,e7 h2]
   unfold dI;go_wp2;exact⟨rfl,rfl,j,A1.trans A QD⟩
  |ok q=>
   obtain⟨x,i2⟩:=q;rintro e w2 ⟨rfl,R2,A⟩;have z2:w.heap.size<w2.heap.size:=aC z1 A.size;have K2:=(K1.adv_ A z1 n1).alloc (ak #[.bool false,aa (dH x.1),ae x.1,aa x.2,ah,ah] 152);have J2:=dK.new w2 #[.bool false,aa (dH x.1),ae x.1,aa x.2,ah,ah] 152;have A2:=(A1.trans A QD).alloc (ay _) (ak #[.bool false,aa (dH x.1),ae x.1,aa x.2,ah,ah] 152);have R3:=R2.alloc (ak #[.bool false,aa (dH x.1),ae x.1,aa x.2,ah,ah] 152);have z3:w2.heap.size<(w2.alloc (ak #[.bool false,aa (dH x.1),ae x.1,aa x.2,ah,ah] 152)).heap.size:=QE;have n5:¬w2.heap.size=rb:=by have:=R.blocks;omega
   have n6:¬w2.heap.size=w.heap.size:=QD;have n7:rb<w2.heap.size:=by have:=R.blocks;omega
   clear A R1 K1 A1 z1;go_wp2_with fail;refine(CL _ rb wb ws i2 _ [123] R3 QH QG).mono ?_
   cases h3:gd ws [123] i2 with
   |error p=>
    rintro e w3 ⟨rfl,j,A⟩;obtain rfl:r= .error p:=by rw[<-HR.out,gO,d6 h1,d6 h2,e7 h3]
    unfold dI;go_wp2;exact⟨rfl,rfl,j,A2.trans A QD⟩
   |ok q=>
    obtain⟨_,i3⟩:=q;rintro e w3 ⟨rfl,R4,A⟩;have z4:w2.heap.size<w3.heap.size:=aC z3 A.size;have K4:=K2.adv_ A QD n1;have J4:=J2.adv_ A z3 n5;have A4:=A2.trans A QD;clear A R2 R3 K2 J2 A2 z3;obtain⟨M,HM⟩:∃M,Hid (gu (eZ ws [125]) (mH ws) ws.length i3=M):=⟨_,rfl⟩
    have Q5:Hid ((gG M λl i=>gG (gd ws [125] i) λ_ i=> .ok (⟨false,x,l,[]⟩,i))=r):=by
     have:=HR.out;rw[gO,d6 h1,d6 h2,d6 h3,HM.out]at this;exact this
    clear HR h1 h2 h3;go_wp2_with fail;go_loopw [13] (λ_ wr=>∃(n k:Nat) (ps:List fC) (pa:aw) (pn pc:Nat) (QS:aq),ps.length<=k/\ws.length-k<=n/\Hid (mO ps (gu (eZ ws [125]) (mH ws) n k)=M)/\Rd wr rb wb ws k/\ip w.heap.size rb w wr k/\dK wr w.heap.size #[.bool false,aa 0,ae ⟨#[]⟩,aa 0,ah,ah] 152/\dK wr w2.heap.size #[.bool false,aa (dH x.1),ae x.1,aa x.2,.slice pa pn pc,ah] 152/\wr.ownsRow (w2.heap.size+1) 208 4 (.slice pa pn pc) ps.length QS/\fj wr (λb=>w2.heap.size<b/\some b≠(Value.slice pa pn pc).ownBlock) QS ps/\w2.heap.size<wr.heap.size) (λ_ wr=>ws.length-iO rb wr)
    case atStart=>
     refine⟨ws.length,i3,[],none,0,0,[],QE,QD,?_,R4,A4,K4,J4,bf _ _ _ _,rfl,z4⟩;rw[<-HM.out];unfold Hid mO gG
     cases gu (eZ ws [125]) (mH ws) ws.length i3<;>rfl
    case round=>
     clear J4 R4 K4 A4 z4 HM;obtain⟨n,k,ps,pa,pn,pc,QS,hfl,hn,HP,RR,AA,KK,J,QT,Q1,hz⟩:=hrel;have hk:=RR.lt;have hfew:=RR.few;have HN:Hid (iO rb wr=k):=RR.nextOf;obtain⟨y,hy⟩:=RR.word
     cases hs:(y.1.toList== [125])
     ·have Q0:eZ ws [125] k=false:=by unfold eZ;simp only[hy,hs]
      have HY:Hid (ws[k]?=some y):=hy;clear hy;go_wp2_with fail;refine(Jo _ rb wb ws k y _ RR HY.out).mono ?_;rintro e w3 ⟨rfl,QR⟩;rw[show(ByteArray.mk #[125]).toList= [125]from by decide+kernel];have R3:=RR.below QR RR.blocks.1 RR.blocks.2;have A3:=AA.below QR AA.size;have K3:=KK.below QR KK.lt;have J3:=J.below QR J.lt;have QP:w3.ownsRow (w2.heap.size+1) 208 4 (.slice pa pn pc) ps.length QS:=eF QR QT;have QU:=Q1.keep (λb _ hb=>QR.block b hb);have Q6:w2.heap.size<w3.heap.size:=aC hz QR.size
      have HO:Hid (some w2.heap.size≠(Value.slice pa pn pc).ownBlock):=by
       intro e;have:=(QP.lt _ e.symm).1;omega
      clear RR AA KK J QT Q1 hz QR;go_wp2_with fail;have j3:=J3.cell 4
      cases h4:mH ws k with
      |error p=>
       obtain rfl:r= .error p:=by
        rw[<-Q5.out,<-HP.out,pC Q0 QD h4];rfl
       refine wp_region_held_drew (S:=λw'=>w'.cell? (ai w2.heap.size 4)=some (.slice pa pn pc)) QI (by simpa using j3) (λhHeld=> ?_);refine gI 0 (.pointer (some (ai w2.heap.size 4))) rfl QI (λ_ _ _ h=>h) (Or.inl ⟨QJ,λw QX=>by dsimp only at QX;go_simp⟩) hHeld ?_;refine gI 1 (.slice pa pn pc) rfl QI (λ_ _ _ h=>h) (Or.inl ⟨QJ,λw QX=>by dsimp only at QX;go_simp⟩) hHeld ?_;refine gI 2 (ag rb) rfl QI (λ_ _ _ h=>h) (Or.inl ⟨QJ,λw QX=>by dsimp only at QX;go_simp⟩) hHeld ?_;simp only[Act.put,QC];refine wpAnyH_ready (rs:= [3]) QI QE (AllReadyH.cons rfl (λK hK=> ?_) AllReadyH.nil);clear hK;go_simp;refine(PH _ rb wb ws k R3.drew).mono ?_;rw[h4];rintro e w4 ⟨rfl,j,A⟩;exact⟨rfl,rfl,j,A3.drew.trans A (by have:=A3.size;simp;omega)⟩
      |ok q=>
       obtain⟨p,k1⟩:=q;have hk1:k<k1:=AN _ _ _ _ h4
       have Q7:Hid (mO (ps++ [p]) (gu (eZ ws [125]) (mH ws) (n-1) k1)=M):=by
        rw[<-HP.out,qS ps Q0 QD h4];exact rfl
       have J:=J3;have RR:=R3;go_region_law (first|(refine step_append_lies _ QJ _ _ _ QJ (w2.heap.size+1) 208 i0 _ 4 56 underlying149 Q9 Ra Rb Rc rfl QD (.slice pa pn pc) ps.length QS QJ ((jl A (ay _) QD (nU QP)).alloc _) (ai w4.heap.size 0) 1 1 [_,_,_,_] QJ QJ (br (t:=208) (fr:=(0,0)) (heap_alloc_new w4 _)) QL QD QK QD (by have:=A.size;simp at this⊢;omega) (w4.heap.size+1) QE ?_;intro gg cap w5 QY QQ QV Q4;obtain⟨x1,x2⟩:=(((J.drew.adv_ A QF n5).alloc _).grown QQ HO.out).rules)|(go_simp;go_at_call 259;refine(PH _ rb wb ws k RR.drew).mono ?_;rw[h4];rintro e w4 ⟨⟨fa,fn,fc,rfl,QZ⟩,R5,A⟩;obtain⟨y1,y2⟩:=(J.drew.adv_ A QF n5).rules;obtain⟨y3,y4,y5,y6⟩:=fT (w:=w4) (b:=w2.heap.size) (by have:=A.size;simp at this;omega)))
       all_goals
        go_wp2;go_roundw
        case rel=>
         go_light;have hz4:w3.heap.size<=w4.heap.size:=by have:=A.size;simpa using this
         have Q8:=QQ.size;have A6:=((((A3.drew.trans A (by have:=A3.size;simp;omega)).alloc (ay _) _).grown QQ (ay _) (λj hj=>by have:=(QP.lt j hj).1;omega))).setCell (a:=(ai w2.heap.size 4)) QF (.slice (some (ai gg 0)) (ps.length+1) cap);refine⟨n-1,k1,ps++ [p],some (ai gg 0),ps.length+1,cap,QS++ [aa (mE p.oneof),ae (jm p.oneof),aa (mA p.oneof),.slice fa fn fc],QF,QD,Q7,A6.rd R R.blocks.1 R.blocks.2 R5.lt,A6,?_,?_,?_,?_,?_⟩;rotate_left 2
         ·have:=ownsRow_setCell_below QY (a:=(ai w2.heap.size 4)) QE (.slice (some (ai gg 0)) (ps.length+1) cap);simpa using this
         rotate_left 2
         ·exact(((K3.drew.adv_ A QF n1).alloc _).grown QQ (λe=>by have:=(QP.lt _ e.symm).1;omega)).other 4 _ n6
         ·exact(((J3.drew.adv_ A QF n5).alloc _).grown QQ HO.out).set 4 _
         ·refine fj.appended QQ QV QE ?_;refine fj.snoc ?_ ?_
          ·refine((et.of (QZ.alloc _)).mono λb hb Q2=>⟨aC Q6 (by simpa using hb),λe=> ?_⟩);have:=(QP.lt b e.symm).2;have:w3.heap.size<=b:=by simpa using hb
           omega
          ·refine fj.keep (w:=w3) (λb hb Q2=> ?_) QU;rw[Below.heap_alloc _ _ _ QD,Below.block A b (by simpa using Q2),AF,dJ,dA (by have:=hb.1;omega)];rfl
         ·simp[World.setCell]at Q8⊢;omega
        case measure=>
         go_light;have A6:=((((A3.drew.trans A (by have:=A3.size;simp;omega)).alloc (ay _) _).grown QQ (ay _) (λj hj=>by have:=(QP.lt j hj).1;omega))).setCell (a:=(ai w2.heap.size 4)) QF (.slice (some (ai gg 0)) (ps.length+1) cap);have R6:=A6.rd R R.blocks.1 R.blocks.2 R5.lt;have h6:=R6.lt;rw[R6.nextOf,HN.out];omega
     ·have Q0:eZ ws [125] k=true:=by unfold eZ;simp only[hy,hs]
      have h5:gd ws [125] k= .ok ((),k+1):=by unfold gd;simp only[hy,hs];rfl
      have HY:Hid (ws[k]?=some y):=hy;clear hy
      obtain rfl:r= .ok (⟨false,x,ps,[]⟩,k+1):=by
       rw[<-Q5.out,<-HP.out,nT Q0];simp only[mO,gG,h5,bK]
      go_wp2_with fail;refine(Jo _ rb wb ws k y _ RR HY.out).mono ?_;rintro e w3 ⟨rfl,QR⟩;rw[show(ByteArray.mk #[125]).toList= [125]from by decide+kernel];have R3:=RR.below QR RR.blocks.1 RR.blocks.2;have A3:=AA.below QR AA.size;have K3:=KK.below QR KK.lt;have J3:=J.below QR J.lt;have QP:w3.ownsRow (w2.heap.size+1) 208 4 (.slice pa pn pc) ps.length QS:=eF QR QT;have QU:=Q1.keep (λb _ hb=>QR.block b hb);have Q6:w2.heap.size<w3.heap.size:=aC hz QR.size;clear RR AA KK J QT Q1 hz QR;go_wp2_with fail;refine(CL _ rb wb ws k _ [125] R3 QH QG).mono ?_;rw[h5];rintro e w4 ⟨rfl,R4,A⟩;have K4:=K3.adv_ A QD n1;have J4:=J3.adv_ A QD n5;have A4:=A3.trans A A3.size;have QW:w4.ownsRow (w2.heap.size+1) 208 4 (.slice pa pn pc) ps.length QS:=jl A (ay _) QD QP
      have Q3:fj w4 (λb=>w2.heap.size<b/\some b≠(Value.slice pa pn pc).ownBlock) QS ps:=fj.keep (w:=w3) (λb hb Q2=>by
       rw[Below.block A b Q2,AF,dJ,dA (by have:=hb.1;omega)]) QU
      obtain⟨k1,k2⟩:=K4.rules;obtain⟨j1,j2⟩:=J4.rules;go_wp2;have A9:=A4.sets (b:=w.heap.size) (ay _) [.bool false,aa (dH x.1),ae x.1,aa x.2,.slice pa pn pc,ah] 0;have K9:=K4.sets_all [.bool false,aa (dH x.1),ae x.1,aa x.2,.slice pa pn pc,ah] rfl;refine dE (dZ results177 _ _ rfl K9 underlying152 QI) rfl ⟨⟨pa,pn,pc,none,0,0,rfl,QS,?_,?_,?_⟩,?_,A9⟩
      ·exact(et.of (gS (lo:=w.heap.size) QW (b:=w.heap.size) (Nat.lt_succ_of_lt z2) (Nat.le_succ_of_le (bG z2)) [.bool false,aa (dH x.1),ae x.1,aa x.2,.slice pa pn pc,ah] 0))
      ·have h9:=(fj.keep (w:=w4) (w':=w4.setCells w.heap.size 0 [.bool false,aa (dH x.1),ae x.1,aa x.2,.slice pa pn pc,ah]) (λb hb _=>gV _ _ (by have:=hb.1;omega) _ _) Q3);exact h9.mono (λb hb _=>bG (Nat.lt_trans z2 hb.1))
      ·exact⟨bf _ _ _ _,λb hb=>by cases hb⟩
      ·exact A9.rd R R.blocks.1 R.blocks.2 R4.lt
def Qd (w:an)(rb wb:Nat)(ws:List W)(i:Nat)(R:Rd w rb wb ws i):
  Calls prog 176 #[ag rb] w (mP w rb wb ws (ly ws i) (ox w)):=by
 obtain⟨i0,Q0,Q1,Q2,Q3⟩:=info_parts Tryz.info302;have A0:ip w.heap.size rb w (w.alloc (ak #[.bool false,aa 0,ae ⟨#[]⟩,aa 0,ah,ah] 152)) i:=ip.of_below R.next ((Below.refl w.heap.size w).alloc (ay _) _);have R0:=R.alloc (ak #[.bool false,aa 0,ae ⟨#[]⟩,aa 0,ah,ah] 152);have K0:=dK.new w #[.bool false,aa 0,ae ⟨#[]⟩,aa 0,ah,ah] 152;have n1:¬w.heap.size=rb:=by have:=R.blocks;omega
 have n3:¬rb=w.heap.size:=QD;have z0:w.heap.size<(w.alloc (ak #[.bool false,aa 0,ae ⟨#[]⟩,aa 0,ah,ah] 152)).heap.size:=QE;generalize hr:ly ws i=r;have HR:Hid (ly ws i=r):=hr;clear hr;go_enter func176,ntmps176;go_wp2_with fail;refine(CL _ rb wb ws i _ [101,110,117,109] R0 QH QG).mono ?_
 cases h1:gd ws [101,110,117,109] i with
 |error p=>
  rintro e w1 ⟨rfl,j,A⟩;obtain rfl:r= .error p:=by rw[<-HR.out,ly,e7 h1]
  unfold dI;go_wp2;exact⟨rfl,rfl,j,A0.trans A QD⟩
 |ok q=>
  obtain⟨_,i1⟩:=q;rintro e w1 ⟨rfl,R1,A⟩;have z1:w.heap.size<w1.heap.size:=aC z0 A.size;have K1:=K0.adv_ A z0 n1;have A1:=A0.trans A QD;clear A R0 K0 A0 z0;go_wp2_with fail;refine(NH _ rb wb ws i1 1 R1 QG).mono ?_
  cases h2:ki ws 1 i1 with
  |error p=>
   rintro e w2 ⟨rfl,j,A⟩;obtain rfl:r= .error p:=by rw[<-HR.out,ly,d6 h1,e7 h2]
   unfold dI;go_wp2;exact⟨rfl,rfl,j,A1.trans A QD⟩
  |ok q=>
   obtain⟨x,i2⟩:=q;rintro e w2 ⟨rfl,R2,A⟩;have z2:w.heap.size<w2.heap.size:=aC z1 A.size;have K2:=(K1.adv_ A z1 n1).alloc (ak #[.bool true,aa (dH x.1),ae x.1,aa x.2,ah,ah] 152);have J2:=dK.new w2 #[.bool true,aa (dH x.1),ae x.1,aa x.2,ah,ah] 152;have A2:=(A1.trans A QD).alloc (ay _) (ak #[.bool true,aa (dH x.1),ae x.1,aa x.2,ah,ah] 152);have R3:=R2.alloc (ak #[.bool true,aa (dH x.1),ae x.1,aa x.2,ah,ah] 152);have z3:w2.heap.size<(w2.alloc (ak #[.bool true,aa (dH x.1),ae x.1,aa x.2,ah,ah] 152)).heap.size:=QE;have n5:¬w2.heap.size=rb:=by have:=R.blocks;omega
   have n6:¬w2.heap.size=w.heap.size:=QD;have n7:rb<w2.heap.size:=by have:=R.blocks;omega
   clear A R1 K1 A1 z1;go_wp2_with fail;refine(CL _ rb wb ws i2 _ [123] R3 QH QG).mono ?_
   cases h3:gd ws [123] i2 with
   |error p=>
    rintro e w3 ⟨rfl,j,A⟩;obtain rfl:r= .error p:=by rw[<-HR.out,ly,d6 h1,d6 h2,e7 h3]
    unfold dI;go_wp2;exact⟨rfl,rfl,j,A2.trans A QD⟩
   |ok q=>
    obtain⟨_,i3⟩:=q;rintro e w3 ⟨rfl,R4,A⟩;have z4:w2.heap.size<w3.heap.size:=aC z3 A.size;have K4:=K2.adv_ A QD n1;have J4:=J2.adv_ A z3 n5;have A4:=A2.trans A QD;clear A R2 R3 K2 J2 A2 z3;obtain⟨M,HM⟩:∃M,Hid (gu (eZ ws [125]) (mB ws) ws.length i3=M):=⟨_,rfl⟩
    have QW:Hid ((gG M λl i=>gG (gd ws [125] i) λ_ i=> .ok (⟨true,x,[],l⟩,i))=r):=by
     have:=HR.out;rw[ly,d6 h1,d6 h2,d6 h3,HM.out]at this;exact this
    clear HR h1 h2 h3;go_wp2_with fail;go_loopw [15] (λ_ wr=>∃(n k:Nat) (vs:List (W×W)) (va:aw) (vn vc:Nat),vs.length<=k/\ws.length-k<=n/\Hid (mO vs (gu (eZ ws [125]) (mB ws) n k)=M)/\Rd wr rb wb ws k/\ip w.heap.size rb w wr k/\dK wr w.heap.size #[.bool false,aa 0,ae ⟨#[]⟩,aa 0,ah,ah] 152/\dK wr w2.heap.size #[.bool true,aa (dH x.1),ae x.1,aa x.2,ah,.slice va vn vc] 152/\wr.ownsRow (w2.heap.size+1) 302 6 (.slice va vn vc) vs.length (vs.flatMap CI)/\w2.heap.size<wr.heap.size) (λ_ wr=>ws.length-iO rb wr)
    case atStart=>
     refine⟨ws.length,i3,[],none,0,0,QE,QD,?_,R4,A4,K4,J4,bf _ _ _ _,z4⟩;rw[<-HM.out];unfold Hid mO gG
     cases gu (eZ ws [125]) (mB ws) ws.length i3<;>rfl
    case round=>
     clear J4 R4 K4 A4 z4 HM;obtain⟨n,k,vs,va,vn,vc,hfl,hn,HP,RR,AA,KK,J,QT,hz⟩:=hrel;have hk:=RR.lt;have hfew:=RR.few;have HN:Hid (iO rb wr=k):=RR.nextOf;obtain⟨y,hy⟩:=RR.word
     cases hs:(y.1.toList== [125])
     ·have QV:eZ ws [125] k=false:=by unfold eZ;simp only[hy,hs]
      have HY:Hid (ws[k]?=some y):=hy;clear hy;go_wp2_with fail;refine(Jo _ rb wb ws k y _ RR HY.out).mono ?_;rintro e w3 ⟨rfl,QR⟩;rw[show(ByteArray.mk #[125]).toList= [125]from by decide+kernel];have R3:=RR.below QR RR.blocks.1 RR.blocks.2;have A3:=AA.below QR AA.size;have K3:=KK.below QR KK.lt;have J3:=J.below QR J.lt;have QP:w3.ownsRow (w2.heap.size+1) 302 6 (.slice va vn vc) vs.length (vs.flatMap CI):=eF QR QT;have QX:w2.heap.size<w3.heap.size:=aC hz QR.size
      have HO:Hid (some w2.heap.size≠(Value.slice va vn vc).ownBlock):=by
       intro e;have:=(QP.lt _ e.symm).1;omega
      clear RR AA KK J QT hz QR;go_wp2_with fail;refine(OY _ rb wb ws k R3).mono ?_
      cases h4:mB ws k with
      |error p=>
       rintro e w4 ⟨rfl,j,A⟩
       obtain rfl:r= .error p:=by
        rw[<-QW.out,<-HP.out,pC QV QD h4];rfl
       unfold dI;go_wp2;exact⟨rfl,rfl,j,A3.trans A A3.size⟩
      |ok q=>
       obtain⟨q,k1⟩:=q;rintro e w4 ⟨rfl,R5,A⟩;have hk1:k<k1:=ue _ _ _ _ h4
       have QY:Hid (mO (vs++ [q]) (gu (eZ ws [125]) (mB ws) (n-1) k1)=M):=by
        rw[<-HP.out,qS vs QV QD h4];exact rfl
       have hz4:w3.heap.size<=w4.heap.size:=A.size;have A4:=(((A3.trans A A3.size).alloc (ay _) (ak #[aa (dH q.1.1),ae q.1.1,aa q.1.2] 148)).alloc (ay _) (ak #[aa (dH q.2.1),ae q.2.1,aa q.2.2] 148));have K4:=((K3.adv_ A QD n1).alloc (ak #[aa (dH q.1.1),ae q.1.1,aa q.1.2] 148)).alloc (ak #[aa (dH q.2.1),ae q.2.1,aa q.2.2] 148);have J4:=((J3.adv_ A QD n5).alloc (ak #[aa (dH q.1.1),ae q.1.1,aa q.1.2] 148)).alloc (ak #[aa (dH q.2.1),ae q.2.1,aa q.2.2] 148);have QS:((w4.alloc (ak #[aa (dH q.1.1),ae q.1.1,aa q.1.2] 148)).alloc (ak #[aa (dH q.2.1),ae q.2.1,aa q.2.2] 148)).ownsRow (w2.heap.size+1) 302 6 (.slice va vn vc) vs.length (vs.flatMap CI):=((jl A (ay _) QD QP).alloc _).alloc _
       have HW:Hid (∀j u,[aa (dH q.1.1),ae q.1.1,aa q.1.2,aa (dH q.2.1),ae q.2.1,aa q.2.2][j]?=some u->(((w4.alloc (ak #[aa (dH q.1.1),ae q.1.1,aa q.1.2] 148)).alloc (ak #[aa (dH q.2.1),ae q.2.1,aa q.2.2] 148)).alloc (ak #[aa (dH q.1.1),ae q.1.1,aa q.1.2,aa (dH q.2.1),ae q.2.1,aa q.2.2] 302)).cell? (((ai (w4.heap.size+1+1) 0):Addr).add j)=some u):=by
        have:=br (cs:= #[aa (dH q.1.1),ae q.1.1,aa q.1.2,aa (dH q.2.1),ae q.2.1,aa q.2.2]) (t:=302) (fr:=(0,0)) (heap_alloc_new ((w4.alloc (ak #[aa (dH q.1.1),ae q.1.1,aa q.1.2] 148)).alloc (ak #[aa (dH q.2.1),ae q.2.1,aa q.2.2] 148)) (ak #[aa (dH q.1.1),ae q.1.1,aa q.1.2,aa (dH q.2.1),ae q.2.1,aa q.2.2] 302));simp only[ck]at this;exact this
       obtain⟨j1,j2⟩:=J4.rules;obtain⟨m1,m2⟩:=(J4.alloc (ak #[aa (dH q.1.1),ae q.1.1,aa q.1.2,aa (dH q.2.1),ae q.2.1,aa q.2.2] 302)).rules;go_wp2_with (first|(at_builtin;refine wpList_append_lies _ rfl _ _ _ rfl (w2.heap.size+1) 302 i0 _ 6 64 underlying150 Q0 Q1 Q2 Q3 rfl QD (.slice va vn vc) vs.length (vs.flatMap CI) rfl (QS.alloc _) (ai (w4.heap.size+1+1) 0) 1 1 [aa (dH q.1.1),ae q.1.1,aa q.1.2,aa (dH q.2.1),ae q.2.1,aa q.2.2] rfl rfl HW.out ?h1 ?hm ?h63 ?hby ?hba (w4.heap.size+1+1+1) ?hH ?_;rotate_right;intro gg cap w5 QU QQ hat hlt;obtain⟨x1,x2⟩:=((J4.alloc _).grown QQ HO.out).rules))
       case h1=>intro u hu;simp at hu;rcases hu with rfl|rfl|rfl|rfl|rfl|rfl<;>rfl
       case hm=>omega
       case h63=>unfold maxLen;omega
       case hby=>omega
       case hba=>simp;omega
       case hH=>simp
       have QZ:=QQ.size;have A6:=((A4.alloc (ay _) _).grown QQ (ay _) (λj hj=>by have:=(QP.lt j hj).1;omega)).setCell (a:=(ai w2.heap.size 5)) QF (.slice (some (ai gg 0)) (vs.length+1) cap);have R6:=A6.rd R R.blocks.1 R.blocks.2 R5.lt;refine⟨⟨n-1,k1,vs++ [q],some (ai gg 0),vs.length+1,cap,QF,QD,QY,R6,A6,?_,?_,?_,?_⟩,?_⟩
       ·exact((K4.alloc _).grown QQ (λe=>by have:=(QP.lt _ e.symm).1;omega)).other 5 _ n6
       ·exact((J4.alloc _).grown QQ HO.out).set 5 _
       ·have:=ownsRow_setCell_below QU (a:=(ai w2.heap.size 5)) QE (.slice (some (ai gg 0)) (vs.length+1) cap);simpa [CI,uN]using this
       ·simp[World.setCell]at QZ⊢;omega
       ·have h6:=R6.lt;rw[R6.nextOf,HN.out];omega
     ·have QV:eZ ws [125] k=true:=by unfold eZ;simp only[hy,hs]
      have h5:gd ws [125] k= .ok ((),k+1):=by unfold gd;simp only[hy,hs];rfl
      have HY:Hid (ws[k]?=some y):=hy;clear hy
      obtain rfl:r= .ok (⟨true,x,[],vs⟩,k+1):=by
       rw[<-QW.out,<-HP.out,nT QV];simp only[mO,gG,h5,bK]
      go_wp2_with fail;refine(Jo _ rb wb ws k y _ RR HY.out).mono ?_;rintro e w3 ⟨rfl,QR⟩;rw[show(ByteArray.mk #[125]).toList= [125]from by decide+kernel];have R3:=RR.below QR RR.blocks.1 RR.blocks.2;have A3:=AA.below QR AA.size;have K3:=KK.below QR KK.lt;have J3:=J.below QR J.lt;have QP:w3.ownsRow (w2.heap.size+1) 302 6 (.slice va vn vc) vs.length (vs.flatMap CI):=eF QR QT;have QX:w2.heap.size<w3.heap.size:=aC hz QR.size;clear RR AA KK J QT hz QR;go_wp2_with fail;refine(CL _ rb wb ws k _ [125] R3 QH QG).mono ?_;rw[h5];rintro e w4 ⟨rfl,R4,A⟩;have K4:=K3.adv_ A QD n1;have J4:=J3.adv_ A QD n5;have A4:=A3.trans A A3.size;have QS:w4.ownsRow (w2.heap.size+1) 302 6 (.slice va vn vc) vs.length (vs.flatMap CI):=jl A (ay _) QD QP;obtain⟨k1,k2⟩:=K4.rules;obtain⟨j1,j2⟩:=J4.rules;go_wp2;have A9:=A4.sets (b:=w.heap.size) (ay _) [.bool true,aa (dH x.1),ae x.1,aa x.2,ah,.slice va vn vc] 0;have K9:=K4.sets_all [.bool true,aa (dH x.1),ae x.1,aa x.2,ah,.slice va vn vc] rfl;refine dE (dZ results176 _ _ rfl K9 underlying152 QI) rfl ⟨⟨none,0,0,va,vn,vc,rfl,[],?_,?_,?_⟩,?_,A9⟩
      ·exact⟨bf _ _ _ _,λb hb=>by cases hb⟩
      ·rfl
      ·exact(et.of (gS (lo:=w.heap.size) QS (b:=w.heap.size) (Nat.lt_succ_of_lt z2) (Nat.le_succ_of_le (bG z2)) [.bool true,aa (dH x.1),ae x.1,aa x.2,ah,.slice va vn vc] 0))
      ·exact A9.rd R R.blocks.1 R.blocks.2 R4.lt
def NT (w:an)(rb wb:Nat)(ws:List W)(i:Nat)(R:Rd w rb wb ws i)(t0:eZ ws [101,110,117,109] i=false):
  Calls prog 119 #[ag rb] w (mP w rb wb ws (gO ws i) (ox w)):=by
 obtain⟨x,hx⟩:=R.word;have HX:Hid (ws[i]?=some x):=hx;rw[gP _ hx]at t0;have A0:ip w.heap.size rb w (w.alloc (ak #[.bool false,aa 0,ae ⟨#[]⟩,aa 0,ah,ah] 152)) i:=ip.of_below R.next ((Below.refl w.heap.size w).alloc (ay _) _);have R0:=R.alloc (ak #[.bool false,aa 0,ae ⟨#[]⟩,aa 0,ah,ah] 152);have K0:=dK.new w #[.bool false,aa 0,ae ⟨#[]⟩,aa 0,ah,ah] 152;have n1:¬w.heap.size=rb:=by have:=R.blocks;omega
 have z0:w.heap.size<(w.alloc (ak #[.bool false,aa 0,ae ⟨#[]⟩,aa 0,ah,ah] 152)).heap.size:=QE;generalize hr:gO ws i=r;have HR:Hid (gO ws i=r):=hr;clear hr hx;go_enter func119,ntmps119;go_wp2_with fail;refine(Jo _ rb wb ws i x _ R0 HX.out).mono ?_;rintro e w1 ⟨rfl,QP⟩;rw[show(ByteArray.mk #[101,110,117,109]).toList= [101,110,117,109]from by decide+kernel];have R1:=R0.below QP R0.blocks.1 R0.blocks.2;have A1:=A0.below QP (bG z0);have K1:=K0.below QP z0;have z1:w.heap.size<w1.heap.size:=aC z0 QP.size;clear R0 A0 K0 z0 QP;go_wp2_with fail;refine(Qc _ rb wb ws i R1).mono ?_
 cases h1:gO ws i with
 |error p=>
  rintro e w2 ⟨rfl,j,A⟩;obtain rfl:r= .error p:=HR.out.symm.trans h1;unfold dI;go_wp2;exact⟨rfl,rfl,j,A1.trans A QD⟩
 |ok q=>
  obtain⟨b,i1⟩:=q;rintro e w2 ⟨⟨pa,pn,pc,va,vn,vc,rfl,hb⟩,R2,A⟩;obtain rfl:r= .ok (b,i1):=HR.out.symm.trans h1;have K9:=K1.adv_ A z1 n1;have A9:=A1.trans A QD;obtain⟨k1,k2⟩:=K9.rules;go_wp2;have QQ:=A9.sets (b:=w.heap.size) (ay _) [.bool b.enum,aa (dH b.name.1),ae b.name.1,aa b.name.2,.slice pa pn pc,.slice va vn vc] 0;have QR:=K9.sets_all [.bool b.enum,aa (dH b.name.1),ae b.name.1,aa b.name.2,.slice pa pn pc,.slice va vn vc] rfl;refine dE (dZ results119 _ _ rfl QR underlying152 QI) rfl ⟨⟨pa,pn,pc,va,vn,vc,rfl,?_⟩,?_,QQ⟩
  ·have h9:=(ju.keep (w:=w2) (w':=w2.setCells w.heap.size 0 [.bool b.enum,aa (dH b.name.1),ae b.name.1,aa b.name.2,.slice pa pn pc,.slice va vn vc]) (λc hc _=>gV _ _ (by have:w1.heap.size<=c:=hc;omega) _ _) hb);exact h9.mono (λc hc _=>by have:w1.heap.size<=c:=hc;omega)
  ·exact QQ.rd R R.blocks.1 R.blocks.2 R2.lt
def NU (w:an)(rb wb:Nat)(ws:List W)(i:Nat)(R:Rd w rb wb ws i)(t0:eZ ws [101,110,117,109] i=true):
  Calls prog 119 #[ag rb] w (mP w rb wb ws (ly ws i) (ox w)):=by
 obtain⟨x,hx⟩:=R.word;have HX:Hid (ws[i]?=some x):=hx;rw[gP _ hx]at t0;have A0:ip w.heap.size rb w (w.alloc (ak #[.bool false,aa 0,ae ⟨#[]⟩,aa 0,ah,ah] 152)) i:=ip.of_below R.next ((Below.refl w.heap.size w).alloc (ay _) _);have R0:=R.alloc (ak #[.bool false,aa 0,ae ⟨#[]⟩,aa 0,ah,ah] 152);have K0:=dK.new w #[.bool false,aa 0,ae ⟨#[]⟩,aa 0,ah,ah] 152;have n1:¬w.heap.size=rb:=by have:=R.blocks;omega
 have z0:w.heap.size<(w.alloc (ak #[.bool false,aa 0,ae ⟨#[]⟩,aa 0,ah,ah] 152)).heap.size:=QE;generalize hr:ly ws i=r;have HR:Hid (ly ws i=r):=hr;clear hr hx;go_enter func119,ntmps119;go_wp2_with fail;refine(Jo _ rb wb ws i x _ R0 HX.out).mono ?_;rintro e w1 ⟨rfl,QP⟩;rw[show(ByteArray.mk #[101,110,117,109]).toList= [101,110,117,109]from by decide+kernel];have R1:=R0.below QP R0.blocks.1 R0.blocks.2;have A1:=A0.below QP (bG z0);have K1:=K0.below QP z0;have z1:w.heap.size<w1.heap.size:=aC z0 QP.size;clear R0 A0 K0 z0 QP;go_wp2_with fail;refine(Qd _ rb wb ws i R1).mono ?_
 cases h1:ly ws i with
 |error p=>
  rintro e w2 ⟨rfl,j,A⟩;obtain rfl:r= .error p:=HR.out.symm.trans h1;unfold dI;go_wp2;exact⟨rfl,rfl,j,A1.trans A QD⟩
 |ok q=>
  obtain⟨b,i1⟩:=q;rintro e w2 ⟨⟨pa,pn,pc,va,vn,vc,rfl,hb⟩,R2,A⟩;obtain rfl:r= .ok (b,i1):=HR.out.symm.trans h1;have K9:=K1.adv_ A z1 n1;have A9:=A1.trans A QD;obtain⟨k1,k2⟩:=K9.rules;go_wp2;have QQ:=A9.sets (b:=w.heap.size) (ay _) [.bool b.enum,aa (dH b.name.1),ae b.name.1,aa b.name.2,.slice pa pn pc,.slice va vn vc] 0;have QR:=K9.sets_all [.bool b.enum,aa (dH b.name.1),ae b.name.1,aa b.name.2,.slice pa pn pc,.slice va vn vc] rfl;refine dE (dZ results119 _ _ rfl QR underlying152 QI) rfl ⟨⟨pa,pn,pc,va,vn,vc,rfl,?_⟩,?_,QQ⟩
  ·have h9:=(ju.keep (w:=w2) (w':=w2.setCells w.heap.size 0 [.bool b.enum,aa (dH b.name.1),ae b.name.1,aa b.name.2,.slice pa pn pc,.slice va vn vc]) (λc hc _=>gV _ _ (by have:w1.heap.size<=c:=hc;omega) _ _) hb);exact h9.mono (λc hc _=>by have:w1.heap.size<=c:=hc;omega)
  ·exact QQ.rd R R.blocks.1 R.blocks.2 R2.lt
def PI (w:an)(rb wb:Nat)(ws:List W)(i:Nat)(R:Rd w rb wb ws i):
  Calls prog 119 #[ag rb] w (mP w rb wb ws (kr ws i) (ox w)):=by
 unfold kr
 cases t0:eZ ws [101,110,117,109] i
 ·exact NT w rb wb ws i R t0
 ·exact NU w rb wb ws i R t0
def EY (ws:List W)(i:Nat):On i (kr ws i):=by
 intro a j h;unfold kr at h
 split at h
 ·unfold ly at h;obtain⟨_,i1,h1,h⟩:=dM h;obtain⟨_,i2,h2,h⟩:=dM h;obtain⟨_,i3,h3,h⟩:=dM h;obtain⟨_,i4,h4,h⟩:=dM h;obtain⟨_,i5,h5,h⟩:=dM h;have:=(eU _ _ _ _ _ h1).1;have:=(ig _ _ _ _ _ h2).1;have:=(eU _ _ _ _ _ h3).1;have:=qR _ _ (ue ws) _ _ _ _ h4;have:=(eU _ _ _ _ _ h5).1;simp at h;omega
 ·unfold gO at h;obtain⟨_,i1,h1,h⟩:=dM h;obtain⟨_,i2,h2,h⟩:=dM h;obtain⟨_,i3,h3,h⟩:=dM h;obtain⟨_,i4,h4,h⟩:=dM h;obtain⟨_,i5,h5,h⟩:=dM h;have:=(eU _ _ _ _ _ h1).1;have:=(ig _ _ _ _ _ h2).1;have:=(eU _ _ _ _ _ h3).1;have:=qR _ _ (AN ws) _ _ _ _ h4;have:=(eU _ _ _ _ _ h5).1;simp at h;omega
def eO.appended {w w5:an}{v:Value}{gg H b1 off:Nat}{u:Value}{cs:aq}{ps:List dO}(hg:w.grownBy w5 v.ownBlock)(QV:v.ownBlock=some gg\/gg=H)(hH:w.heap.size=H)
  (h:eO w (λb=>b1<b/\some b≠v.ownBlock) cs ps) {cap n:Nat}:eO (w5.setCell (ai b1 off) u) (λb=>b1<b/\some b≠(Value.slice (some (ai gg 0)) n cap).ownBlock) cs ps:=by
 have h2:eO w (λb=>b1<b/\some b≠v.ownBlock/\some b≠some gg) cs ps:=h.mono λb hb Q1=>⟨hb.1,hb.2,λe=>by
  rcases QV with QV|QV
  ·exact hb.2 (e.trans QV.symm)
  ·have:=Option.some.inj e;omega⟩
 have h3:eO (w5.setCell (ai b1 off) u) (λb=>b1<b/\some b≠v.ownBlock/\some b≠some gg) cs ps:=eO.keep (w:=w) (λb hb Q1=>by
  rw[dJ,dA (by have:=hb.1;omega)]
  exact hg.block b Q1 hb.2.1) h2
 exact h3.mono λb hb _=>⟨hb.1,hb.2.2⟩
def Qe (w:an)(rb wb:Nat)(ws:List W)(R:Rd w rb wb ws 0):
  Calls prog 70 #[ag rb] w (mP w rb wb ws (qi ws) (Jz w)):=by
 obtain⟨i0,Q6,Q7,Q8,Q9⟩:=info_parts Tryz.info152;have A0:ip w.heap.size rb w ((w.alloc (ak #[ah] 87)).alloc (ak #[ah] 87)) 0:=ip.of_below R.next (((Below.refl w.heap.size w).alloc (ay _) _).alloc QE _);have R0:=(R.alloc (ak #[ah] 87)).alloc (ak #[ah] 87);have K0:=(dK.new w #[ah] 87).alloc (ak #[ah] 87)
 have J0:dK ((w.alloc (ak #[ah] 87)).alloc (ak #[ah] 87)) (w.heap.size+1) #[ah] 87:=by
  have:=dK.new (w.alloc (ak #[ah] 87)) #[ah] 87;simpa using this
 have n1:¬w.heap.size=rb:=by have:=R.blocks;omega
 have n5:¬w.heap.size+1=rb:=by have:=R.blocks;omega
 have n6:¬w.heap.size+1=w.heap.size:=QD;have n7:rb<w.heap.size:=by have:=R.blocks;omega
 generalize hr:qi ws=r;have HR:Hid (qi ws=r):=hr;clear hr;go_enter func70,ntmps70;go_wp2_with fail;go_loopw [7] (λ_ wr=>∃(n k:Nat) (bs:List dO) (ta:aw) (tn tc:Nat) (QT:aq),bs.length<=k/\ws.length-k<=n/\Hid (mO bs (gu (tj ws) (kr ws) n k)=r)/\Rd wr rb wb ws k/\ip w.heap.size rb w wr k/\dK wr w.heap.size #[ah] 87/\dK wr (w.heap.size+1) #[.slice ta tn tc] 87/\wr.ownsRow (w.heap.size+2) 152 6 (.slice ta tn tc) bs.length QT/\eO wr (λb=>w.heap.size+1<b/\some b≠(Value.slice ta tn tc).ownBlock) QT bs/\w.heap.size+1<wr.heap.size) (λ_ wr=>ws.length-iO rb wr)
 case atStart=>
  refine⟨ws.length,0,[],none,0,0,[],QE,QD,?_,R0,A0,K0,J0,bf _ _ _ _,rfl,QE⟩;rw[<-HR.out];unfold Hid mO gG qi
  cases gu (tj ws) (kr ws) ws.length 0<;>rfl
 case round=>
  clear R0 A0 K0 J0 HR;obtain⟨n,k,bs,ta,tn,tc,QT,hfl,hn,HP,RR,AA,KK,J,QS,QZ,hz⟩:=hrel;have hk:=RR.lt;have hfew:=RR.few;have HN:Hid (iO rb wr=k):=RR.nextOf;obtain⟨y,hy⟩:=RR.word
  cases hs:(dH y.1==4)
  ·have QY:tj ws k=false:=by unfold tj;simp only[hy,hs]
   have Q3:(dH y.1 !=4)=true:=by simpa [bne]using hs
   have HY:Hid (ws[k]?=some y):=hy;clear hy hs;go_wp2_with fail;refine(DR _ rb wb ws k y RR HY.out).mono ?_;rintro e w3 ⟨rfl,QR⟩;have R3:=RR.below QR RR.blocks.1 RR.blocks.2;have A3:=AA.below QR AA.size;have K3:=KK.below QR KK.lt;have J3:=J.below QR J.lt;have QP:w3.ownsRow (w.heap.size+2) 152 6 (.slice ta tn tc) bs.length QT:=eF QR QS;have QU:=QZ.keep (λb _ hb=>QR.block b hb);have hz3:w.heap.size+1<w3.heap.size:=aC hz QR.size
   have HO:Hid (some (w.heap.size+1)≠(Value.slice ta tn tc).ownBlock):=by
    intro e;have:=(QP.lt _ e.symm).1;omega
   clear RR AA KK J QS QZ hz QR;go_wp2_with fail;have j3:=J3.cell 0
   cases h4:kr ws k with
   |error p=>
    obtain rfl:r= .error p:=by
     rw[<-HP.out,pC QY QD h4];rfl
    refine wp_region_held_drew (S:=λw'=>w'.cell? (ai (w.heap.size+1) 0)=some (.slice ta tn tc)) QI (by simpa using j3) (λhHeld=> ?_);refine gI 0 (ag (w.heap.size+1)) rfl QI (λ_ _ _ h=>h) (Or.inl ⟨QJ,λw QW=>by dsimp only at QW;go_simp⟩) hHeld ?_;refine gI 1 (.slice ta tn tc) rfl QI (λ_ _ _ h=>h) (Or.inl ⟨QJ,λw QW=>by dsimp only at QW;go_simp⟩) hHeld ?_;refine gI 2 (ag rb) rfl QI (λ_ _ _ h=>h) (Or.inl ⟨QJ,λw QW=>by dsimp only at QW;go_simp⟩) hHeld ?_;simp only[Act.put,QC];refine wpAnyH_ready (rs:= [3]) QI QE (AllReadyH.cons rfl (λK hK=> ?_) AllReadyH.nil);clear hK;go_simp;refine(PI _ rb wb ws k R3.drew).mono ?_;rw[h4];rintro e w4 ⟨rfl,j,A⟩;exact⟨rfl,rfl,j,A3.drew.trans A (by have:=A3.size;simp;omega)⟩
   |ok q=>
    obtain⟨b,k1⟩:=q;have hk1:k<k1:=EY _ _ _ _ h4
    have Q4:Hid (mO (bs++ [b]) (gu (tj ws) (kr ws) (n-1) k1)=r):=by
     rw[<-HP.out,qS bs QY QD h4];exact rfl
    have J:=J3;have RR:=R3;go_region_law (first|(refine step_append_lies _ QJ _ _ _ QJ (w.heap.size+2) 152 i0 _ 6 88 underlying85 Q6 Q7 Q8 Q9 rfl QD (.slice ta tn tc) bs.length QT QJ ((jl A (ay _) QD (nU QP)).alloc _) (ai w4.heap.size 0) 1 1 [_,_,_,_,_,_] QJ QJ (br (t:=152) (fr:=(0,0)) (heap_alloc_new w4 _)) QL QD QK QD (by have:=A.size;simp at this⊢;omega) (w4.heap.size+1) QE ?_;intro gg cap w5 QX QQ QV Q1;obtain⟨x1,x2⟩:=(((J.drew.adv_ A QF n5).alloc _).grown QQ HO.out).rules)|(go_simp;go_at_call 119;refine(PI _ rb wb ws k RR.drew).mono ?_;rw[h4];rintro e w4 ⟨⟨pa,pn,pc,va,vn,vc,rfl,Ra⟩,R5,A⟩;obtain⟨y1,y2⟩:=(J.drew.adv_ A QF n5).rules;obtain⟨y3,y4,y5,y6⟩:=fT (w:=w4) (b:=w.heap.size+1) (by have:=A.size;simp at this;omega)))
    all_goals
     go_wp2;go_roundw
     case rel=>
      go_light;have hz4:w3.heap.size<=w4.heap.size:=by have:=A.size;simpa using this
      have Q5:=QQ.size;have A6:=((((A3.drew.trans A (by have:=A3.size;simp;omega)).alloc (ay _) _).grown QQ (ay _) (λj hj=>by have:=(QP.lt j hj).1;omega))).setCell (a:=(ai (w.heap.size+1) 0)) QE (.slice (some (ai gg 0)) (bs.length+1) cap);refine⟨n-1,k1,bs++ [b],some (ai gg 0),bs.length+1,cap,QT++ [.bool b.enum,aa (dH b.name.1),ae b.name.1,aa b.name.2,.slice pa pn pc,.slice va vn vc],QF,QD,Q4,A6.rd R R.blocks.1 R.blocks.2 R5.lt,A6,?_,?_,?_,?_,?_⟩
      ·exact(((K3.drew.adv_ A QF n1).alloc _).grown QQ (λe=>by have:=(QP.lt _ e.symm).1;omega)).other 0 _ n6
      ·exact(((J3.drew.adv_ A QF n5).alloc _).grown QQ HO.out).set 0 _
      ·have:=ownsRow_setCell_below QX (a:=(ai (w.heap.size+1) 0)) QE (.slice (some (ai gg 0)) (bs.length+1) cap);simpa using this
      ·refine eO.appended QQ QV QE ?_;refine eO.snoc ?_ ?_
       ·have Q0:ju (w4.alloc (ak #[.bool b.enum,aa (dH b.name.1),ae b.name.1,aa b.name.2,.slice pa pn pc,.slice va vn vc] 152)) (λx=>w3.drew.heap.size<=x) b (.slice pa pn pc) (.slice va vn vc):=Ra.keep (λc _ hc=>Below.heap_alloc _ _ _ hc);refine Q0.mono λc hc Q2=> ?_
        have hc3:w3.heap.size<=c:=by simpa using hc
        refine⟨QD,λe=> ?_⟩;have:=(QP.lt c e.symm).2;omega
       ·refine eO.keep (w:=w3) (λc hc Q2=> ?_) QU;rw[Below.heap_alloc _ _ _ QD,Below.block A c (by simpa using Q2),AF,dJ,dA (by have:=hc.1;omega)];rfl
      ·simp[World.setCell]at Q5⊢;omega
     case measure=>
      go_light;have A6:=((((A3.drew.trans A (by have:=A3.size;simp;omega)).alloc (ay _) _).grown QQ (ay _) (λj hj=>by have:=(QP.lt j hj).1;omega))).setCell (a:=(ai (w.heap.size+1) 0)) QE (.slice (some (ai gg 0)) (bs.length+1) cap);have R6:=A6.rd R R.blocks.1 R.blocks.2 R5.lt;have h6:=R6.lt;rw[R6.nextOf,HN.out];omega
  ·have QY:tj ws k=true:=by unfold tj;simp only[hy,hs]
   have Q3:(dH y.1 !=4)=false:=by simpa [bne]using hs
   have HY:Hid (ws[k]?=some y):=hy;clear hy hs
   obtain rfl:r= .ok (bs,k):=by
    rw[<-HP.out,nT QY];simp only[mO,gG,bK]
   go_wp2_with fail;refine(DR _ rb wb ws k y RR HY.out).mono ?_;rintro e w3 ⟨rfl,QR⟩;have R3:=RR.below QR RR.blocks.1 RR.blocks.2;have A3:=AA.below QR AA.size;have K3:=KK.below QR KK.lt;have J3:=J.below QR J.lt;have QP:w3.ownsRow (w.heap.size+2) 152 6 (.slice ta tn tc) bs.length QT:=eF QR QS;have QU:=QZ.keep (λb _ hb=>QR.block b hb);clear RR AA KK J QS QZ hz QR;obtain⟨k1,k2⟩:=K3.rules;obtain⟨j1,j2⟩:=J3.rules;go_wp2;have A9:=A3.sets (b:=w.heap.size) (ay _) [.slice ta tn tc] 0;have K9:=K3.sets_all [.slice ta tn tc] rfl;refine dE (dZ results70 _ _ rfl K9 underlying87 QI) rfl ⟨⟨ta,tn,tc,QT,rfl,?_,?_⟩,?_,A9⟩
   ·exact(et.of (gS (lo:=w.heap.size) QP (b:=w.heap.size) QD QD [.slice ta tn tc] 0))
   ·have h9:=(eO.keep (w:=w3) (w':=w3.setCells w.heap.size 0 [.slice ta tn tc]) (λb hb _=>gV _ _ (by have:=hb.1;omega) _ _) QU);exact h9.mono (λb hb _=>by have:=hb.1;omega)
   ·exact A9.rd R R.blocks.1 R.blocks.2 R3.lt
end
section
open Go.Maps Go.ChangeMaps Go.WideMaps Go.WideElems
section
variable (w:an) {n b:Nat} {l:ar} {bs:au} {a w':an}
attribute [local go_sem] ji jj jk
theorem EZ:Keyed prog 9:=string_keyed underlying9
theorem NV:Keyed prog 53:=int_keyed underlying53
theorem DT:(zeroValue 162).run prog w= .ok (.agg #[]) w:=QI
def p7 (s:am):Lit:= .string s.data.toList
def oy (n:Nat):Lit:= .int .u64 n
def eE (w:an)(b:Nat)(l:ar):Prop:=w.ownsMap prog 9 (unitElem (H:=Unit)) b l.length (setOf (.agg []) (l.map p7))
def fJ (w:an)(b:Nat)(l:au):Prop:=w.ownsMap prog 53 (unitElem (H:=Unit)) b l.length (setOf (.agg []) (l.map oy))
def eM (l:ar)(s:am):Bool:=l.any λx=>x.toList==s.toList
def wU (l:au)(n:Nat):Bool:=l.any λx=>x==n
theorem E7 (s:am)(h:s.size<=maxLen):keyOf prog 9 (ae s)=some (p7 s):=keyOf_string_mk underlying9 h
theorem NW (n:Nat)(h:n<18446744073709551616):keyOf prog 53 (.int .u64 n)=some (oy n):=keyOf_int_mk underlying53 (WalkArith.wf_u64 QD)
theorem NX (l:ar)(s:am):Maps.has (setOf (H:=Unit) (.agg []) (l.map p7)) (p7 s)=eM l s:=by
 rw[has_setOf _ _ _ (by intro x hx;obtain⟨y,_,rfl⟩:=aQ.1 hx;exact trivial)];unfold eM;rw[List.any_map]
 congr 1
 funext x;show(x.data.toList==s.data.toList)=_;rw[ByteArray.toList_eq,ByteArray.toList_eq]
theorem NY (l:au)(n:Nat):Maps.has (setOf (H:=Unit) (.agg []) (l.map oy)) (oy n)=wU l n:=by
 rw[has_setOf _ _ _ (by intro x hx;obtain⟨y,_,rfl⟩:=aQ.1 hx;exact trivial)];unfold wU;rw[List.any_map]
 congr 1
 funext x;show decide (IntKind.u64=IntKind.u64/\(x:Int)=(n:Int))=_;rw[cn];simp;omega
structure dS (bs:au)(w w':an):Prop where
 os:w'.os=w.os
 tape:w'.tape=w.tape
 output:w'.output=w.output
 size:w.heap.size<=w'.heap.size
 block:∀k,k<w.heap.size->k∉bs->w'.heap[k]?=w.heap[k]?
theorem dS.refl (bs:au)(w:an):dS bs w w:=⟨rfl,rfl,rfl,ay _,λ_ _ _=>rfl⟩
theorem dS.trans {b c:an}(h:dS bs a b)(k:dS bs b c):dS bs a c:=
 ⟨k.os.trans h.os,k.tape.trans h.tape,k.output.trans h.output,aH h.size k.size,λi hi hn=>(k.block i (aC hi h.size) hn).trans (h.block i hi hn)⟩
theorem dS.mono {cs:au}{b:an}(h:dS bs a b)(hs:∀x∈bs,x∈cs):dS cs a b:=
 ⟨h.os,h.tape,h.output,h.size,λi hi hn=>h.block i hi (λhc=>hn (hs i hc))⟩
theorem dS.of_below {b:an}(h:Below a.heap.size a b):dS bs a b:=⟨h.os,h.tape,h.output,h.size,λi hi _=>h.block i hi⟩
theorem dS.of_grown {b:an}{k:Nat}(h:a.grownBy b (some k)):dS [k] a b:=⟨h.os,h.tape,h.output,h.size,λi hi hn=>h.block i hi (λe=>hn (by simp at e;simp[e]))⟩
theorem dS.to_below {b:an}(h:dS bs a b)(hn:n<=a.heap.size)(hb:∀x∈bs,n<=x):Below n a b:=
 ⟨h.os,h.tape,h.output,h.size,λi hi=>h.block i (aC hi hn) (λhc=>by have:=hb i hc;omega)⟩
theorem dS.alloc {b:an}(h:dS bs a b)(o:Obj):dS bs a (b.alloc o):=h.trans (dS.of_below ((Below.refl _ _).alloc (ay _) o))
theorem dS.drew {b:an}(h:dS bs a b):dS bs a b.drew:=h.trans (dS.of_below (Below.refl _ _).drew)
theorem jT {w:an}{k:TypeId}{R:Value->Option (DataW Unit×List MemPlace)}{D:DataW Unit}(h:w.ownsMap prog k R b n D)(hb:w'.heap[b]?=w.heap[b]?):w'.ownsMap prog k R b n D:=by
 obtain⟨es,clock,h1,h2⟩:=h;exact⟨es,clock,hb.trans h1,h2⟩
theorem eE.lt {w:an}(h:eE w b l):b<w.heap.size:=World.ownsMap.lt h
theorem fJ.lt {w:an}{l:au}(h:fJ w b l):b<w.heap.size:=World.ownsMap.lt h
theorem eE.keep {w:an}(h:eE w b l)(hb:w'.heap[b]?=w.heap[b]?):eE w' b l:=jT h hb
theorem fJ.keep {w:an}{l:au}(h:fJ w b l)(hb:w'.heap[b]?=w.heap[b]?):fJ w' b l:=jT h hb
theorem PJ (b:Nat)(l:ar)(s:am)(h:eE w b l)(hl:l.length<maxLen)(hs:s.size<=maxLen):
  Calls prog 178 #[.map (some b),ae s] w λe w'=>e= .returned (.tuple #[])/\eE w' b (l++ [s])/\dS [b] w w':=by
 have QP:w.ownsMap prog 9 (unitElem (H:=Unit)) b l.length (setOf (.agg []) (l.map p7)):=h;go_enter func178,ntmps178;go_wp2_with (at_mapUpdate;refine wpList_mapUpdate_own _ rfl _ _ _ 229 rfl 9 162 EZ underlying229 _ b _ _ rfl QP hl _ _ _ rfl rfl (E7 s hs) _ [] unitElem_mk ?_;intro w1 QR QQ)
 go_end0;refine⟨rfl,?_,dS.of_grown QQ⟩;unfold eE;rw[bM,List.map_singleton,setOf_snoc,aG];exact QR
theorem Qf (b:Nat)(l:au)(n:Nat)(h:fJ w b l)(hl:l.length<maxLen)(hs:n<18446744073709551616):
  Calls prog 343 #[.map (some b),.int .u64 n] w λe w'=>e= .returned (.tuple #[])/\fJ w' b (l++ [n])/\dS [b] w w':=by
 have QP:w.ownsMap prog 53 (unitElem (H:=Unit)) b l.length (setOf (.agg []) (l.map oy)):=h;go_enter func343,ntmps343;go_wp2_with (at_mapUpdate;refine wpList_mapUpdate_own _ rfl _ _ _ 304 rfl 53 162 NV underlying304 _ b _ _ rfl QP hl _ _ _ rfl rfl (NW n hs) _ [] unitElem_mk ?_;intro w1 QR QQ)
 go_end0;refine⟨rfl,?_,dS.of_grown QQ⟩;unfold fJ;rw[bM,List.map_singleton,setOf_snoc,aG];exact QR
theorem OO (b:Nat)(l:ar)(s:am)(h:eE w b l)(hs:s.size<=maxLen):
  Calls prog 179 #[.map (some b),ae s] w λe w'=>e= .returned (.bool (eM l s))/\aj w w':=by
 have QP:w.ownsMap prog 9 (unitElem (H:=Unit)) b l.length (setOf (.agg []) (l.map p7)):=h;rw[<-NX];go_enter func179,ntmps179;go_wp2_with (at_lookup;refine wpList_lookup_own_unit _ rfl _ _ 229 rfl 9 162 EZ underlying229 (DT _) b _ _ rfl QP _ _ rfl (E7 s hs) ?_)
 go_ret;exact⟨rfl,(Below.refl _ _).alloc (ay _) _⟩
theorem PL (b:Nat)(l:au)(n:Nat)(h:fJ w b l)(hs:n<18446744073709551616):
  Calls prog 342 #[.map (some b),.int .u64 n] w λe w'=>e= .returned (.bool (wU l n))/\aj w w':=by
 have QP:w.ownsMap prog 53 (unitElem (H:=Unit)) b l.length (setOf (.agg []) (l.map oy)):=h;rw[<-NY];go_enter func342,ntmps342;go_wp2_with (at_lookup;refine wpList_lookup_own_unit _ rfl _ _ 304 rfl 53 162 NV underlying304 (DT _) b _ _ rfl QP _ _ rfl (NW n hs) ?_)
 go_ret;exact⟨rfl,(Below.refl _ _).alloc (ay _) _⟩
theorem oz (k:Int)(s:am)(p:Nat):
  Calls prog 123 #[.bool false,.agg #[aa k,ae s,aa p]] w λe w'=>e= .returned (.tuple #[])/\aj w w':=by
 go_enter func123,ntmps123;go_wp2;go_end0;exact⟨rfl,(Below.refl _ _).alloc (ay _) _⟩
theorem jJ (k:Int)(s:am)(p:Nat):
  Calls prog 123 #[.bool true,.agg #[aa k,ae s,aa p]] w λe w'=>e=dI 3 p/\aj w w':=by
 go_enter func123,ntmps123;go_wp2_with fail;refine(Gg _ _ _).mono ?_;rintro e w2 ⟨rfl,rfl⟩;go_wp2;exact⟨rfl,rfl,(Below.refl _ _).alloc (ay _) _⟩
end
end
section
open Go.Maps
attribute [local go_sem] ji jj jk
attribute [local go_sem↓] Go.wp_at_zero Go.wp_at_succ
def iB (l:ar)(s:am):Bool:=decide (20<s.size)||eM l s
def fK (w:an)(c1 c2:Array Value)(T1 T2:TypeId):aj w ((w.alloc (Obj.cells c1 T1)).alloc (Obj.cells c2 T2))/\dK ((w.alloc (Obj.cells c1 T1)).alloc (Obj.cells c2 T2)) w.heap.size c1 T1/\dK ((w.alloc (Obj.cells c1 T1)).alloc (Obj.cells c2 T2)) (w.heap.size+1) c2 T2:=
 ⟨((Below.refl w.heap.size w).alloc (ay _) _).alloc QE _,(dK.new w c1 T1).alloc _,by simpa using dK.new (w.alloc (Obj.cells c1 T1)) c2 T2⟩
def Gi (w:an)(b:Nat)(k:Int)(s:am)(p:Nat)(hl:20<s.size):
  Calls prog 121 #[.agg #[aa k,ae s,aa p],.map (some b)] w λe w'=>e=dI 3 p/\aj w w':=by
 obtain⟨B0,K0⟩:=dR w #[aa k,ae s,aa p] 148;have hd:(20:Int)<(s.size:Int):=QD;go_enter func121,ntmps121;go_wp2_with fail;refine wp_region_held_drew (S:=λw'=>w'.cell? (ai w.heap.size 0)=some (aa k)/\w'.cell? (ai w.heap.size 1)=some (ae s)/\w'.cell? (ai w.heap.size 2)=some (aa p)) QI ⟨QE,QE,QE⟩ (λhHeld=> ?_);refine Qy 0 (.pointer (some (ai w.heap.size 1))) hHeld ?_;simp only[Act.put,QC];refine Qy 1 (ae s) hHeld ?_;simp only[Act.put,QC];refine Qy 2 (aa s.size) hHeld ?_;simp only[Act.put,QC];refine Qy 3 (.bool true) hHeld ?_;simp only[Act.put,QC];refine Qy 4 (.bool true) hHeld ?_;simp only[Act.put,QC];refine QB 5 undef hHeld ?_;simp only[Act.put,QC];refine QB 6 undef hHeld ?_;simp only[Act.put,QC];refine QB 7 undef hHeld ?_;simp only[Act.put,QC];refine QB 8 undef hHeld ?_;simp only[Act.put,QC];refine Qy 9 (.bool true) hHeld ?_;simp only[Act.put,QC];refine Qy 10 (.agg #[aa k,ae s,aa p]) hHeld ?_;simp only[Act.put,QC];refine wpAnyH_ready (rs:= [11]) QI QE (AllReadyH.cons rfl (λK hK=> ?_) AllReadyH.nil);clear hK;go_simp;refine(jJ _ k s p).mono ?_;rintro e w4 ⟨rfl,hb⟩;exact⟨rfl,rfl,B0.drew.trans (hb.mono QE)⟩
def JA (w:an)(b:Nat)(l:ar)(k:Int)(s:am)(p:Nat)(H:eE w b l)(hl:s.size<=20)(hm:eM l s=true):
  Calls prog 121 #[.agg #[aa k,ae s,aa p],.map (some b)] w λe w'=>e=dI 3 p/\aj w w':=by
 have B0:=(Below.refl w.heap.size w).alloc (ay _) (ak #[aa k,ae s,aa p] 148);have H1:eE (w.alloc (ak #[aa k,ae s,aa p] 148)).drew b l:=H.keep (Below.heap_alloc _ _ _ H.lt);have hd:¬(20:Int)<(s.size:Int):=QD;have QR:decide ((20:Int)<(s.size:Int))=false:=by simpa using hd
 have hx:s.size<=maxLen:=QK;clear hd;go_enter func121,ntmps121;go_wp2_with fail;refine wp_region_held_drew (S:=λw'=>w'.cell? (ai w.heap.size 0)=some (aa k)/\w'.cell? (ai w.heap.size 1)=some (ae s)/\w'.cell? (ai w.heap.size 2)=some (aa p)) QI ⟨QE,QE,QE⟩ (λhHeld=> ?_);refine Qy 0 (.pointer (some (ai w.heap.size 1))) hHeld ?_;simp only[Act.put,QC];refine Qy 1 (ae s) hHeld ?_;simp only[Act.put,QC];refine Qy 2 (aa s.size) hHeld ?_;simp only[Act.put,QC];refine Qy 3 (.bool false) hHeld ?_;simp only[Act.put,QC];refine Qy 4 (.bool false) hHeld ?_;simp only[Act.put,QC];refine Qy 5 (.map (some b)) hHeld ?_;simp only[Act.put,QC];refine Qy 6 (.pointer (some (ai w.heap.size 1))) hHeld ?_;simp only[Act.put,QC];refine Qy 7 (ae s) hHeld ?_;simp only[Act.put,QC];refine Qy 10 (.agg #[aa k,ae s,aa p]) hHeld ?_;simp only[Act.put,QC];refine wpAnyH_ready (rs:= [8]) QI QE (AllReadyH.cons rfl (λK hK=> ?_) AllReadyH.nil);go_simp;refine(OO _ b l s H1 hx).mono ?_;rw[hm];rintro e w3 ⟨rfl,QP⟩
 have QS:w3.cell? (ai w.heap.size 0)=some (aa k)/\w3.cell? (ai w.heap.size 1)=some (ae s)/\w3.cell? (ai w.heap.size 2)=some (aa p):=by
  obtain⟨c0,c1,c2⟩:=hHeld;exact⟨(QP.cell (p:=(ai w.heap.size 0)) QE).trans c0,(QP.cell (p:=(ai w.heap.size 1)) QE).trans c1,(QP.cell (p:=(ai w.heap.size 2)) QE).trans c2⟩
 clear hHeld;refine hK.out _ _ QS (λhHeld=> ?_);clear hK K;refine Qy 9 (.bool true) hHeld ?_;simp only[Act.put,QC];refine wpAnyH_ready (rs:= [11]) QI QE (AllReadyH.cons rfl (λK hK=> ?_) AllReadyH.nil);clear hK;go_simp;refine(jJ _ k s p).mono ?_;rintro e w4 ⟨rfl,hb⟩;exact⟨rfl,rfl,(B0.drew.trans (QP.mono QE)).trans (hb.mono (by have:=QP.size;simp at this;omega))⟩
def Mg (w:an)(b:Nat)(l:ar)(k:Int)(s:am)(p:Nat)(H:eE w b l)(hn:l.length<5000)(hl:s.size<=20)(hm:eM l s=false):
  Calls prog 121 #[.agg #[aa k,ae s,aa p],.map (some b)] w λe w'=>e= .returned (.tuple #[])/\eE w' b (l++ [s])/\dS [b] w w':=by
 obtain⟨B0,K0⟩:=dR w #[aa k,ae s,aa p] 148;have H1:eE (w.alloc (ak #[aa k,ae s,aa p] 148)).drew b l:=H.keep (Below.heap_alloc _ _ _ H.lt);have QT:=H.lt;have QR:decide ((20:Int)<(s.size:Int))=false:=QF;have hx:s.size<=maxLen:=QK;go_enter func121,ntmps121;go_wp2_with fail
 go_region_held3 (λw'=>w'.cell? (ai w.heap.size 0)=some (aa k)/\w'.cell? (ai w.heap.size 1)=some (ae s)/\w'.cell? (ai w.heap.size 2)=some (aa p))
  (first|exact⟨K4.cell 0,K4.cell 1,K4.cell 2⟩|exact⟨K3.cell 0,K3.cell 1,K3.cell 2⟩|go_keep)
  (first|(go_at_call 179;refine(OO _ b l s H1 hx).mono ?_;rw[hm];rintro e w3 ⟨rfl,QP⟩;have K3:=K0.drew.below QP QE)|(go_at_call 123;refine(oz _ k s p).mono ?_;rintro e w4 ⟨rfl,QQ⟩;have K4:=K3.below QQ K3.lt))
 have Hk:aj w w4:=(B0.drew.trans (QP.mono QE)).trans (QQ.mono (by have:=QP.size;simp at this;omega));have H4:eE w4 b l:=H.keep (Hk.block b QT);obtain⟨k1,k2⟩:=K4.rules;go_wp2_with fail;refine(PJ _ b l s H4 QK hx).mono ?_;rintro e w5 ⟨rfl,H5,QU⟩;go_wp2;go_end0;exact⟨rfl,H5,(dS.of_below Hk).trans QU⟩
def NZ (w:an)(b:Nat)(l:ar)(k:Int)(s:am)(p:Nat)(H:eE w b l)(hn:l.length<5000):
  Calls prog 121 #[.agg #[aa k,ae s,aa p],.map (some b)] w λe w'=>
   if iB l s then e=dI 3 p/\aj w w' else e= .returned (.tuple #[])/\eE w' b (l++ [s])/\dS [b] w w':=by
 unfold iB
 by_cases hl:20<s.size
 ·simp only[hl,decide_true,cz,if_true];exact Gi w b k s p hl
 ·cases hm:eM l s
  ·simp only[hl,decide_false,di,aL,if_false];exact Mg w b l k s p H hn QD hm
  ·simp only[hl,decide_false,di,if_true];exact JA w b l k s p H QD hm
end
end Go.Proofs.YtfebdimolnobaaaGreatDoor
namespace Go.Proofs
open Go.Shelf
def Tryz.laysPu14_ren:Go.Shelf.Ren:=⟨fun|14=>244|16=>329|17=>330|19=>394|20=>395|21=>396|22=>397|23=>398|24=>399|25=>164|27=>425|26=>424|28=>439|29=>445|30=>448|31=>449|32=>450|33=>451|35=>255|34=>452|36=>453|37=>454|38=>455|39=>456|40=>457|n=>n,fun|9=>9|3=>3|22=>53|24=>354|25=>362|4=>4|34=>463|5=>5|36=>295|37=>140|0=>0|39=>465|21=>21|44=>482|47=>357|50=>493|48=>491|2=>2|52=>500|55=>502|59=>505|60=>164|20=>20|61=>506|65=>507|66=>508|67=>70|n=>n,fun|0=>4|1=>5|2=>6|3=>7|4=>8|n=>n⟩
theorem Tryz.laysPu14:Go.Proofs.LaysPu.n14 Tryz.prog Tryz.laysPu14_ren:={
 mixed:=by kernel_rfl,
 f14:=Tryz.func244.trans (congrArg some (by kernel_rfl)),
 f16:=Tryz.func329.trans (congrArg some (by kernel_rfl)),
 f17:=Tryz.func330.trans (congrArg some (by kernel_rfl)),
 f19:=Tryz.func394.trans (congrArg some (by kernel_rfl)),
 f20:=Tryz.func395.trans (congrArg some (by kernel_rfl)),
 f21:=Tryz.func396.trans (congrArg some (by kernel_rfl)),
 f22:=Tryz.func397.trans (congrArg some (by kernel_rfl)),
 f23:=Tryz.func398.trans (congrArg some (by kernel_rfl)),
 f24:=Tryz.func399.trans (congrArg some (by kernel_rfl)),
 f25:=Tryz.func164.trans (congrArg some (by kernel_rfl)),
 f26:=Tryz.func424.trans (congrArg some (by kernel_rfl)),
 f27:=Tryz.func425.trans (congrArg some (by kernel_rfl)),
 f28:=Tryz.func439.trans (congrArg some (by kernel_rfl)),
 f29:=Tryz.func445.trans (congrArg some (by kernel_rfl)),
 f30:=Tryz.func448.trans (congrArg some (by kernel_rfl)),
 f31:=Tryz.func449.trans (congrArg some (by kernel_rfl)),
 f32:=Tryz.func450.trans (congrArg some (by kernel_rfl)),
 f33:=Tryz.func451.trans (congrArg some (by kernel_rfl)),
 f34:=Tryz.func452.trans (congrArg some (by kernel_rfl)),
 f35:=Tryz.func255.trans (congrArg some (by kernel_rfl)),
 f36:=Tryz.func453.trans (congrArg some (by kernel_rfl)),
 f37:=Tryz.func454.trans (congrArg some (by kernel_rfl)),
 f38:=Tryz.func455.trans (congrArg some (by kernel_rfl)),
 f39:=Tryz.func456.trans (congrArg some (by kernel_rfl)),
 f40:=Tryz.func457.trans (congrArg some (by kernel_rfl)),
 t0:=Tryz.underlying0,
 a0:=Tryz.isAgg0,
 z0:=Tryz.sizeOf0,
 v0:=Tryz.zeroValue0,
 i0:=by kernel_rfl,
 t2:=Tryz.underlying2,
 a2:=Tryz.isAgg2,
 z2:=Tryz.sizeOf2,
 v2:=Tryz.zeroValue2,
 i2:=by kernel_rfl,
 t3:=Tryz.underlying3,
 a3:=Tryz.isAgg3,
 z3:=Tryz.sizeOf3,
 v3:=Tryz.zeroValue3,
 i3:=by kernel_rfl,
 t4:=Tryz.underlying4,
 a4:=Tryz.isAgg4,
 z4:=Tryz.sizeOf4,
 v4:=Tryz.zeroValue4,
 i4:=by kernel_rfl,
 t5:=Tryz.underlying5,
 a5:=Tryz.isAgg5,
 z5:=Tryz.sizeOf5,
 v5:=Tryz.zeroValue5,
 i5:=by kernel_rfl,
 t9:=Tryz.underlying9,
 a9:=Tryz.isAgg9,
 z9:=Tryz.sizeOf9,
 v9:=Tryz.zeroValue9,
 i9:=by kernel_rfl,
 t20:=Tryz.underlying20,
 a20:=Tryz.isAgg20,
 z20:=Tryz.sizeOf20,
 v20:=Tryz.zeroValue20,
 i20:=by kernel_rfl,
 t21:=Tryz.underlying21,
 a21:=Tryz.isAgg21,
 z21:=Tryz.sizeOf21,
 v21:=Tryz.zeroValue21,
 i21:=by kernel_rfl,
 t22:=Tryz.underlying53,
 a22:=Tryz.isAgg53,
 z22:=Tryz.sizeOf53,
 v22:=Tryz.zeroValue53,
 i22:=by kernel_rfl,
 t24:=Tryz.underlying354,
 a24:=Tryz.isAgg354,
 z24:=Tryz.sizeOf354,
 v24:=Tryz.zeroValue354,
 i24:=by kernel_rfl,
 t25:=Tryz.underlying362,
 a25:=Tryz.isAgg362,
 z25:=Tryz.sizeOf362,
 v25:=Tryz.zeroValue362,
 i25:=by kernel_rfl,
 t34:=Tryz.underlying463,
 a34:=Tryz.isAgg463,
 z34:=Tryz.sizeOf463,
 v34:=Tryz.zeroValue463,
 i34:=by kernel_rfl,
 c34:=by kernel_rfl,
 t36:=Tryz.underlying295,
 a36:=Tryz.isAgg295,
 z36:=Tryz.sizeOf295,
 v36:=Tryz.zeroValue295,
 i36:=by kernel_rfl,
 t37:=Tryz.underlying140,
 a37:=Tryz.isAgg140,
 z37:=Tryz.sizeOf140,
 v37:=Tryz.zeroValue140,
 i37:=by kernel_rfl,
 t39:=Tryz.underlying465,
 a39:=Tryz.isAgg465,
 z39:=Tryz.sizeOf465,
 v39:=Tryz.zeroValue465,
 i39:=by kernel_rfl,
 t44:=Tryz.underlying482,
 a44:=Tryz.isAgg482,
 z44:=Tryz.sizeOf482,
 v44:=Tryz.zeroValue482,
 i44:=by kernel_rfl,
 t47:=Tryz.underlying357,
 a47:=Tryz.isAgg357,
 z47:=Tryz.sizeOf357,
 v47:=Tryz.zeroValue357,
 i47:=by kernel_rfl,
 t48:=Tryz.underlying491,
 a48:=Tryz.isAgg491,
 z48:=Tryz.sizeOf491,
 v48:=Tryz.zeroValue491,
 i48:=by kernel_rfl,
 t50:=Tryz.underlying493,
 a50:=Tryz.isAgg493,
 z50:=Tryz.sizeOf493,
 v50:=Tryz.zeroValue493,
 i50:=by kernel_rfl,
 t52:=Tryz.underlying500,
 a52:=Tryz.isAgg500,
 z52:=Tryz.sizeOf500,
 v52:=Tryz.zeroValue500,
 i52:=by kernel_rfl,
 t55:=Tryz.underlying502,
 a55:=Tryz.isAgg502,
 z55:=Tryz.sizeOf502,
 v55:=Tryz.zeroValue502,
 i55:=by kernel_rfl,
 t59:=Tryz.underlying505,
 a59:=Tryz.isAgg505,
 z59:=Tryz.sizeOf505,
 v59:=Tryz.zeroValue505,
 i59:=by kernel_rfl,
 t60:=Tryz.underlying164,
 a60:=Tryz.isAgg164,
 z60:=Tryz.sizeOf164,
 v60:=Tryz.zeroValue164,
 i60:=by kernel_rfl,
 t61:=Tryz.underlying506,
 a61:=Tryz.isAgg506,
 z61:=Tryz.sizeOf506,
 t65:=Tryz.underlying507,
 a65:=Tryz.isAgg507,
 z65:=Tryz.sizeOf507,
 v65:=Tryz.zeroValue507,
 i65:=by kernel_rfl,
 t66:=Tryz.underlying508,
 a66:=Tryz.isAgg508,
 z66:=Tryz.sizeOf508,
 v66:=Tryz.zeroValue508,
 i66:=by kernel_rfl,
 t67:=Tryz.underlying70,
 a67:=Tryz.isAgg70,
 z67:=Tryz.sizeOf70,
 v67:=Tryz.zeroValue70,
 i67:=by kernel_rfl,
 g0:=by kernel_rfl,
 m0:=by kernel_rfl,
 g1:=by kernel_rfl,
 m1:=by kernel_rfl,
 g2:=by kernel_rfl,
 m2:=by kernel_rfl,
 g3:=by kernel_rfl,
 m3:=by kernel_rfl,
 g4:=by kernel_rfl,
 m4:=by kernel_rfl}
def Tryz.laysPu25_ren:Go.Shelf.Ren:=⟨fun|25=>164|n=>n,fun|9=>9|3=>3|4=>4|37=>140|0=>0|47=>357|5=>5|n=>n,fun|n=>n⟩
theorem Tryz.laysPu25:Go.Proofs.LaysPu.n25 Tryz.prog Tryz.laysPu25_ren:={
 mixed:=by kernel_rfl,
 f25:=Tryz.func164.trans (congrArg some (by kernel_rfl)),
 t0:=Tryz.underlying0,
 a0:=Tryz.isAgg0,
 z0:=Tryz.sizeOf0,
 v0:=Tryz.zeroValue0,
 i0:=by kernel_rfl,
 t3:=Tryz.underlying3,
 a3:=Tryz.isAgg3,
 z3:=Tryz.sizeOf3,
 v3:=Tryz.zeroValue3,
 i3:=by kernel_rfl,
 t4:=Tryz.underlying4,
 a4:=Tryz.isAgg4,
 z4:=Tryz.sizeOf4,
 v4:=Tryz.zeroValue4,
 i4:=by kernel_rfl,
 t5:=Tryz.underlying5,
 a5:=Tryz.isAgg5,
 z5:=Tryz.sizeOf5,
 v5:=Tryz.zeroValue5,
 i5:=by kernel_rfl,
 t9:=Tryz.underlying9,
 a9:=Tryz.isAgg9,
 z9:=Tryz.sizeOf9,
 v9:=Tryz.zeroValue9,
 i9:=by kernel_rfl,
 t37:=Tryz.underlying140,
 a37:=Tryz.isAgg140,
 z37:=Tryz.sizeOf140,
 v37:=Tryz.zeroValue140,
 i37:=by kernel_rfl,
 t47:=Tryz.underlying357,
 a47:=Tryz.isAgg357,
 z47:=Tryz.sizeOf357,
 v47:=Tryz.zeroValue357,
 i47:=by kernel_rfl}
end Go.Proofs
namespace Go.Proofs.YtfebdimolnobaaaGreatDoor
open Go.RowKit Go.Proofs.Tryz
section
open Go.Maps
attribute [local go_sem] ji jj jk
def GOK (w:an):Prop:=∃ev,w.cell? (ai 5 0)=some ev/\(ev= .nilIface\/∃te pe,ev= .iface te pe)
def GOK.keep {w w':an}(h:GOK w)(hb:w'.heap[5]?=w.heap[5]?):GOK w':=by
 obtain⟨ev,h1,h2⟩:=h;exact⟨ev,(bj (a:=(ai 5 0)) hb).trans h1,h2⟩
def GOK.lt {w:an}(h:GOK w):5<w.heap.size:=by
 obtain⟨ev,h1,h2⟩:=h;exact aP _ _ h1
def gA (s:am):Nat:=
 match Lib.parseUintB 64 s.data.toList with
 | .ok u=>u
 |_=>18446744073709551615
def iX (s:am):Prop:=s.size<=2000/\((∃u,Lib.parseUintB 64 s.data.toList= .ok u)\/Lib.parseUintB 64 s.data.toList= .range)
def DU (s:am):gA s<18446744073709551616:=by
 unfold gA
 split
 ·rename_i u h
  have:=Lib.parseUintB_le h;omega
 ·omega
def Qg (s:am)(w:an)(h:iX s)(hg:GOK w):
  Calls prog 244 #[ae s,aa 10,aa 64] w λe w'=>∃v,e= .returned (.tuple #[.int .u64 (gA s),v])/\aj w w':=by
 obtain⟨ev,h1,h2⟩:=hg;unfold gA
 rcases h.2 with⟨u,hp⟩|hp
 ·rw[hp];refine(Any.strconv_ParseUint_10_at64_ok Tryz.laysPu14 s (by have:=h.1;omega) u hp w).mono ?_;rintro e w' ⟨rfl,hw⟩;refine⟨_,rfl,?_⟩
  rcases hw with rfl|rfl
  ·exact Below.refl _ _
  ·exact Lib.bytesWorld_below _ _ _
 ·rw[hp];refine(Any.strconv_ParseUint_10_at64_range Tryz.laysPu14 s (by have:=h.1;omega) hp ev w h1 h2).mono ?_;rintro e w' ⟨N,rfl,-,-,hb⟩;exact⟨_,rfl,hb⟩
def Qh (s:am)(w:an)(h:s.size<=2000):
  Calls prog 108 #[ae s] w λe w'=>e= .returned (ae s)/\aj w w':=by
 go_enter func108,ntmps108;go_wp2_with fail;refine(AnyPu.stringslite_Clone Tryz.laysPu25 s _ QD).mono ?_;rintro e w1 ⟨rfl,hb⟩;go_wp2;go_ret;exact⟨rfl,hb⟩
def Mh (w:an)(k:Int)(s:am)(p:Nat)(h:iX s)(hg:GOK w):
  Calls prog 165 #[.agg #[aa k,ae s,aa p]] w λe w'=>e= .returned (.int .u64 (gA s))/\aj w w':=by
 have B0:=(Below.refl w.heap.size w).alloc (ay _) (ak #[aa k,ae s,aa p] 148);go_enter func165,ntmps165;go_wp2_with fail;refine(Qg s _ h (hg.keep (Below.heap_alloc _ _ _ hg.lt))).mono ?_;rintro e w1 ⟨v,rfl,hb⟩;go_wp2;go_ret;exact⟨rfl,B0.trans (hb.mono QE)⟩
end
section
open Go.Maps
attribute [local go_sem] ji jj jk
attribute [local go_sem↓] Go.wp_at_zero Go.wp_at_succ
def PO (w:an)(k:Int)(s:am)(p:Nat):
  Calls prog 260 #[.agg #[aa k,ae s,aa p]] w λe w'=>e= .returned (.bool (ii k s))/\aj w w':=by
 have B0:=(Below.refl w.heap.size w).alloc (ay _) (ak #[aa k,ae s,aa p] 148)
 cases h0:(k==3)
 ·go_enter func260,ntmps260;go_wp2;go_ret;exact⟨iz (by simp only[ii,h0];simp),B0⟩
 ·cases h1:(s.toList== [102,108,111,97,116])
  ·cases h2:(s.toList== [100,111,117,98,108,101])
   ·cases h3:(s.toList== [98,121,116,101,115])
    ·go_enter func260,ntmps260;go_wp2;go_ret;exact⟨iz (by simp only[ii,h0,h1,h2,h3];simp),B0⟩
    ·go_enter func260,ntmps260;go_wp2;go_ret;exact⟨iz (by simp only[ii,h0,h1,h2,h3];simp),B0⟩
   ·go_enter func260,ntmps260;go_wp2;go_ret;exact⟨iz (by simp only[ii,h0,h1,h2];simp),B0⟩
  ·go_enter func260,ntmps260;go_wp2;go_ret;exact⟨iz (by simp only[ii,h0,h1];simp),B0⟩
def pD (types:ar)(k:Int)(s:am):Bool:=k==1&&(decide (20<s.size)|| !eM types s)
def Mi (w:an)(tb nb mb:Nat)(k:Int)(s:am)(p:Nat)(hk:(k==1)=false):
  Calls prog 261 #[.agg #[.map (some tb),.map (some nb),.map (some mb)],.agg #[aa k,ae s,aa p]] w λe w'=>e= .returned (.tuple #[])/\aj w w':=by
 obtain⟨B0,KC,KW⟩:=fK w #[.map (some tb),.map (some nb),.map (some mb)] #[aa k,ae s,aa p] 306 148;obtain⟨r1,r2⟩:=KC.rules;obtain⟨r3,r4⟩:=KW.rules;clear r1 r2 r3 r4 KC KW;go_enter func261,ntmps261;go_wp2;go_end0;exact⟨rfl,B0⟩
def Gj (w:an)(tb nb mb:Nat)(k:Int)(s:am)(p:Nat)(hk:(k==1)=true)(hl:20<s.size):
  Calls prog 261 #[.agg #[.map (some tb),.map (some nb),.map (some mb)],.agg #[aa k,ae s,aa p]] w λe w'=>e=dI 3 p/\aj w w':=by
 obtain⟨B0,KC,KW⟩:=fK w #[.map (some tb),.map (some nb),.map (some mb)] #[aa k,ae s,aa p] 306 148;obtain⟨r1,r2⟩:=KC.rules;obtain⟨r3,r4⟩:=KW.rules;have hd:(20:Int)<(s.size:Int):=QD;go_enter func261,ntmps261;go_wp2_with fail;clear r1 r2 r3 r4;refine wp_region_held_drew (S:=λw'=>w'.cell? (ai w.heap.size 0)=some (.map (some tb))/\w'.cell? (ai (w.heap.size+1) 0)=some (aa k)/\w'.cell? (ai (w.heap.size+1) 1)=some (ae s)/\w'.cell? (ai (w.heap.size+1) 2)=some (aa p)) QI ⟨KC.cell 0,KW.cell 0,KW.cell 1,KW.cell 2⟩ (λhHeld=> ?_);refine QA 0 (.pointer (some (ai (w.heap.size+1) 1))) hHeld ?_;simp only[Act.put,QC];refine QA 1 (ae s) hHeld ?_;simp only[Act.put,QC];refine QA 2 (aa s.size) hHeld ?_;simp only[Act.put,QC];refine QA 3 (.bool true) hHeld ?_;simp only[Act.put,QC];refine QA 4 (.bool true) hHeld ?_;simp only[Act.put,QC];refine QB 5 undef hHeld ?_;simp only[Act.put,QC];refine QB 6 undef hHeld ?_;simp only[Act.put,QC];refine QB 7 undef hHeld ?_;simp only[Act.put,QC];refine QB 8 undef hHeld ?_;simp only[Act.put,QC];refine QB 9 undef hHeld ?_;simp only[Act.put,QC];refine QB 10 undef hHeld ?_;simp only[Act.put,QC];refine QA 11 (.bool true) hHeld ?_;simp only[Act.put,QC];refine QA 12 (.agg #[aa k,ae s,aa p]) hHeld ?_;simp only[Act.put,QC];refine wpAnyH_ready (rs:= [13]) QI QE (AllReadyH.cons rfl (λK hK=> ?_) AllReadyH.nil);clear hK;go_simp;refine(jJ _ k s p).mono ?_;rintro e w4 ⟨rfl,hb⟩;exact⟨rfl,rfl,B0.drew.trans (hb.mono QF)⟩
def Gk (w:an)(tb nb mb:Nat)(types:ar)(k:Int)(s:am)(p:Nat)(H:eE w tb types)(hk:(k==1)=true)(hl:s.size<=20)(hm:eM types s=false):
  Calls prog 261 #[.agg #[.map (some tb),.map (some nb),.map (some mb)],.agg #[aa k,ae s,aa p]] w λe w'=>e=dI 3 p/\aj w w':=by
 obtain⟨B0,KC,KW⟩:=fK w #[.map (some tb),.map (some nb),.map (some mb)] #[aa k,ae s,aa p] 306 148;obtain⟨r1,r2⟩:=KC.rules;obtain⟨r3,r4⟩:=KW.rules;have QR:decide ((20:Int)<(s.size:Int))=false:=QF;have hx:s.size<=maxLen:=QK;have H1:eE ((w.alloc (ak #[.map (some tb),.map (some nb),.map (some mb)] 306)).alloc (ak #[aa k,ae s,aa p] 148)).drew tb types:=H.keep (B0.block _ H.lt);go_enter func261,ntmps261;go_wp2_with fail;clear r1 r2 r3 r4;refine wp_region_held_drew (S:=λw'=>w'.cell? (ai w.heap.size 0)=some (.map (some tb))/\w'.cell? (ai (w.heap.size+1) 0)=some (aa k)/\w'.cell? (ai (w.heap.size+1) 1)=some (ae s)/\w'.cell? (ai (w.heap.size+1) 2)=some (aa p)) QI ⟨KC.cell 0,KW.cell 0,KW.cell 1,KW.cell 2⟩ (λhHeld=> ?_);refine QA 0 (.pointer (some (ai (w.heap.size+1) 1))) hHeld ?_;simp only[Act.put,QC];refine QA 1 (ae s) hHeld ?_;simp only[Act.put,QC];refine QA 2 (aa s.size) hHeld ?_;simp only[Act.put,QC];refine QA 3 (.bool false) hHeld ?_;simp only[Act.put,QC];refine QA 4 (.bool false) hHeld ?_;simp only[Act.put,QC];refine QA 5 (ag w.heap.size) hHeld ?_;simp only[Act.put,QC];refine QA 6 (.map (some tb)) hHeld ?_;simp only[Act.put,QC];refine QA 7 (.pointer (some (ai (w.heap.size+1) 1))) hHeld ?_;simp only[Act.put,QC];refine QA 8 (ae s) hHeld ?_;simp only[Act.put,QC];refine QA 12 (.agg #[aa k,ae s,aa p]) hHeld ?_;simp only[Act.put,QC];refine wpAnyH_ready (rs:= [9]) QI QE (AllReadyH.cons rfl (λK hK=> ?_) AllReadyH.nil);go_simp;refine(OO _ tb types s H1 hx).mono ?_;rw[hm];rintro e w3 ⟨rfl,QP⟩;have K3:=KC.drew.below QP QF;have K4:=KW.drew.below QP QE;clear hHeld;refine hK.out _ _ ⟨K3.cell 0,K4.cell 0,K4.cell 1,K4.cell 2⟩ (λhHeld=> ?_);clear hK K;refine QA 10 (.bool true) hHeld ?_;simp only[Act.put,QC];refine QA 11 (.bool true) hHeld ?_;simp only[Act.put,QC];refine wpAnyH_ready (rs:= [13]) QI QE (AllReadyH.cons rfl (λK hK=> ?_) AllReadyH.nil);clear hK;go_simp;refine(jJ _ k s p).mono ?_;rintro e w4 ⟨rfl,hb⟩;exact⟨rfl,rfl,(B0.drew.trans (QP.mono QF)).trans (hb.mono (by have:=QP.size;simp at this;omega))⟩
def Mj (w:an)(tb nb mb:Nat)(types:ar)(k:Int)(s:am)(p:Nat)(H:eE w tb types)(hk:(k==1)=true)(hl:s.size<=20)(hm:eM types s=true):
  Calls prog 261 #[.agg #[.map (some tb),.map (some nb),.map (some mb)],.agg #[aa k,ae s,aa p]] w λe w'=>e= .returned (.tuple #[])/\aj w w':=by
 obtain⟨B0,KC,KW⟩:=fK w #[.map (some tb),.map (some nb),.map (some mb)] #[aa k,ae s,aa p] 306 148;obtain⟨r1,r2⟩:=KC.rules;obtain⟨r3,r4⟩:=KW.rules;have QR:decide ((20:Int)<(s.size:Int))=false:=QF;have hx:s.size<=maxLen:=QK;have H1:eE ((w.alloc (ak #[.map (some tb),.map (some nb),.map (some mb)] 306)).alloc (ak #[aa k,ae s,aa p] 148)).drew tb types:=H.keep (B0.block _ H.lt);go_enter func261,ntmps261;go_wp2_with fail
 go_region_held3 (λw'=>w'.cell? (ai w.heap.size 0)=some (.map (some tb))/\w'.cell? (ai (w.heap.size+1) 0)=some (aa k)/\w'.cell? (ai (w.heap.size+1) 1)=some (ae s)/\w'.cell? (ai (w.heap.size+1) 2)=some (aa p))
  (first|exact⟨K5.cell 0,K6.cell 0,K6.cell 1,K6.cell 2⟩|exact⟨K3.cell 0,K4.cell 0,K4.cell 1,K4.cell 2⟩|go_keep)
  (first|(go_at_call 179;refine(OO _ tb types s H1 hx).mono ?_;rw[hm];rintro e w3 ⟨rfl,QP⟩;have K3:=KC.drew.below QP QF;have K4:=KW.drew.below QP QE)|(go_at_call 123;refine(oz _ k s p).mono ?_;rintro e w4 ⟨rfl,QQ⟩;have K5:=K3.below QQ K3.lt;have K6:=K4.below QQ K4.lt))
 go_wp2;go_end0;exact⟨rfl,(B0.drew.trans (QP.mono QF)).trans (QQ.mono (by have:=QP.size;simp at this;omega))⟩
def PP (w:an)(tb nb mb:Nat)(types:ar)(k:Int)(s:am)(p:Nat)(H:eE w tb types):
  Calls prog 261 #[.agg #[.map (some tb),.map (some nb),.map (some mb)],.agg #[aa k,ae s,aa p]] w λe w'=>(if pD types k s then e=dI 3 p else e= .returned (.tuple #[]))/\aj w w':=by
 unfold pD
 cases hk:(k==1)
 ·simp only[cl,aL,if_false];exact Mi w tb nb mb k s p hk
 ·by_cases hl:20<s.size
  ·simp only[hl,decide_true,cz,cU,if_true];exact Gj w tb nb mb k s p hk hl
  ·cases hm:eM types s
   ·simp only[hl,decide_false,cG,cA,cU,if_true];exact Gk w tb nb mb types k s p H hk QD hm
   ·simp only[hl,decide_false,cF,cC,cr,aL,if_false];exact Mj w tb nb mb types k s p H hk QD hm
def qy (nums:au)(n:Nat):Bool:=decide (n<1)||(decide (536870911<n)||wU nums n)
def JB (w:an)(tb nb mb:Nat)(k:Int)(s:am)(p:Nat)(hok:iX s)(hg:GOK w)(hn:gA s<1):
  Calls prog 262 #[.agg #[.map (some tb),.map (some nb),.map (some mb)],.agg #[aa k,ae s,aa p]] w λe w'=>e=dI 3 p/\aj w w':=by
 obtain⟨B0,QQ,QR⟩:=fK w #[.map (some tb),.map (some nb),.map (some mb)] #[aa k,ae s,aa p] 306 148;obtain⟨r1,r2⟩:=QQ.rules;obtain⟨r3,r4⟩:=QR.rules;obtain⟨n,HN⟩:∃n,Hid (gA s=n):=⟨_,rfl⟩;rw[HN.out]at hn;have hd:(n:Int)<1:=QD;go_enter func262,ntmps262;go_wp2_with fail;refine(Mh _ k s p hok (hg.keep (B0.block _ hg.lt))).mono ?_;rw[HN.out];rintro e w2 ⟨rfl,QP⟩;have KC:=QQ.below QP QF;have KW:=QR.below QP QE;have B2:aj w w2:=B0.trans (QP.mono QF);have z2:w.heap.size+1<w2.heap.size:=KW.lt;clear r1 r2 r3 r4 QQ QR B0 QP;go_wp2_with fail;refine wp_region_held_drew (S:=λw'=>w'.cell? (ai w.heap.size 2)=some (.map (some mb))/\w'.cell? (ai (w.heap.size+1) 0)=some (aa k)/\w'.cell? (ai (w.heap.size+1) 1)=some (ae s)/\w'.cell? (ai (w.heap.size+1) 2)=some (aa p)) QI ⟨KC.cell 2,KW.cell 0,KW.cell 1,KW.cell 2⟩ (λhHeld=> ?_);refine QA 0 (.int .u64 (n:Int)) hHeld ?_;simp only[Act.put,QC];refine QA 1 (.bool true) hHeld ?_;simp only[Act.put,QC];refine QA 2 (.bool true) hHeld ?_;simp only[Act.put,QC];refine QB 3 undef hHeld ?_;simp only[Act.put,QC];refine QB 4 undef hHeld ?_;simp only[Act.put,QC];refine QA 5 (.bool true) hHeld ?_;simp only[Act.put,QC];refine QA 6 (.bool true) hHeld ?_;simp only[Act.put,QC];refine QB 7 undef hHeld ?_;simp only[Act.put,QC];refine QB 8 undef hHeld ?_;simp only[Act.put,QC];refine QB 9 undef hHeld ?_;simp only[Act.put,QC];refine QB 10 undef hHeld ?_;simp only[Act.put,QC];refine QA 11 (.bool true) hHeld ?_;simp only[Act.put,QC];refine QA 12 (.agg #[aa k,ae s,aa p]) hHeld ?_;simp only[Act.put,QC];refine wpAnyH_ready (rs:= [13]) QI QE (AllReadyH.cons rfl (λK hK=> ?_) AllReadyH.nil);clear hK;go_simp;refine(jJ _ k s p).mono ?_;rintro e w4 ⟨rfl,hb⟩;exact⟨rfl,rfl,B2.drew.trans (hb.mono QF)⟩
def Gl (w:an)(tb nb mb:Nat)(k:Int)(s:am)(p:Nat)(hok:iX s)(hg:GOK w)(hn:536870911<gA s):
  Calls prog 262 #[.agg #[.map (some tb),.map (some nb),.map (some mb)],.agg #[aa k,ae s,aa p]] w λe w'=>e=dI 3 p/\aj w w':=by
 obtain⟨B0,QQ,QR⟩:=fK w #[.map (some tb),.map (some nb),.map (some mb)] #[aa k,ae s,aa p] 306 148;obtain⟨r1,r2⟩:=QQ.rules;obtain⟨r3,r4⟩:=QR.rules;obtain⟨n,HN⟩:∃n,Hid (gA s=n):=⟨_,rfl⟩;rw[HN.out]at hn;have hd:¬(n:Int)<1:=QD;have QV:decide ((n:Int)<1)=false:=by simpa using hd
 have QW:(536870911:Int)<(n:Int):=QD;clear hd;go_enter func262,ntmps262;go_wp2_with fail;refine(Mh _ k s p hok (hg.keep (B0.block _ hg.lt))).mono ?_;rw[HN.out];rintro e w2 ⟨rfl,QP⟩;have KC:=QQ.below QP QF;have KW:=QR.below QP QE;have B2:aj w w2:=B0.trans (QP.mono QF);have z2:w.heap.size+1<w2.heap.size:=KW.lt;clear r1 r2 r3 r4 QQ QR B0 QP;go_wp2_with fail;refine wp_region_held_drew (S:=λw'=>w'.cell? (ai w.heap.size 2)=some (.map (some mb))/\w'.cell? (ai (w.heap.size+1) 0)=some (aa k)/\w'.cell? (ai (w.heap.size+1) 1)=some (ae s)/\w'.cell? (ai (w.heap.size+1) 2)=some (aa p)) QI ⟨KC.cell 2,KW.cell 0,KW.cell 1,KW.cell 2⟩ (λhHeld=> ?_);refine QA 0 (.int .u64 (n:Int)) hHeld ?_;simp only[Act.put,QC];refine QA 1 (.bool false) hHeld ?_;simp only[Act.put,QC];refine QA 2 (.bool false) hHeld ?_;simp only[Act.put,QC];refine QA 3 (.int .u64 (n:Int)) hHeld ?_;simp only[Act.put,QC];refine QA 4 (.bool true) hHeld ?_;simp only[Act.put,QC];refine QA 5 (.bool true) hHeld ?_;simp only[Act.put,QC];refine QA 6 (.bool true) hHeld ?_;simp only[Act.put,QC];refine QB 7 undef hHeld ?_;simp only[Act.put,QC];refine QB 8 undef hHeld ?_;simp only[Act.put,QC];refine QB 9 undef hHeld ?_;simp only[Act.put,QC];refine QB 10 undef hHeld ?_;simp only[Act.put,QC];refine QA 11 (.bool true) hHeld ?_;simp only[Act.put,QC];refine QA 12 (.agg #[aa k,ae s,aa p]) hHeld ?_;simp only[Act.put,QC];refine wpAnyH_ready (rs:= [13]) QI QE (AllReadyH.cons rfl (λK hK=> ?_) AllReadyH.nil);clear hK;go_simp;refine(jJ _ k s p).mono ?_;rintro e w4 ⟨rfl,hb⟩;exact⟨rfl,rfl,B2.drew.trans (hb.mono QF)⟩
def JC (w:an)(tb nb mb:Nat)(k:Int)(s:am)(p:Nat)(hok:iX s)(hg:GOK w)(nums:au)(H:fJ w mb nums)(hn:1<=gA s)(hn2:gA s<=536870911)(hm:wU nums (gA s)=true):
  Calls prog 262 #[.agg #[.map (some tb),.map (some nb),.map (some mb)],.agg #[aa k,ae s,aa p]] w λe w'=>e=dI 3 p/\aj w w':=by
 obtain⟨B0,QQ,QR⟩:=fK w #[.map (some tb),.map (some nb),.map (some mb)] #[aa k,ae s,aa p] 306 148;obtain⟨r1,r2⟩:=QQ.rules;obtain⟨r3,r4⟩:=QR.rules;obtain⟨n,HN⟩:∃n,Hid (gA s=n):=⟨_,rfl⟩;rw[HN.out]at hn hn2 hm;have QV:decide ((n:Int)<1)=false:=QF;have QW:decide ((536870911:Int)<(n:Int))=false:=QF;have QT:Hid (n<18446744073709551616):=by have:=DU s;rw[HN.out]at this;exact this
 clear hn hn2;go_enter func262,ntmps262;go_wp2_with fail;refine(Mh _ k s p hok (hg.keep (B0.block _ hg.lt))).mono ?_;rw[HN.out];rintro e w2 ⟨rfl,QP⟩;have KC:=QQ.below QP QF;have KW:=QR.below QP QE;have B2:aj w w2:=B0.trans (QP.mono QF);have z2:w.heap.size+1<w2.heap.size:=KW.lt;clear r1 r2 r3 r4 QQ QR B0 QP;go_wp2_with fail;have H2:fJ w2.drew mb nums:=H.keep (B2.block _ H.lt);refine wp_region_held_drew (S:=λw'=>w'.cell? (ai w.heap.size 2)=some (.map (some mb))/\w'.cell? (ai (w.heap.size+1) 0)=some (aa k)/\w'.cell? (ai (w.heap.size+1) 1)=some (ae s)/\w'.cell? (ai (w.heap.size+1) 2)=some (aa p)) QI ⟨KC.cell 2,KW.cell 0,KW.cell 1,KW.cell 2⟩ (λhHeld=> ?_);refine QA 0 (.int .u64 (n:Int)) hHeld ?_;simp only[Act.put,QC];refine QA 1 (.bool false) hHeld ?_;simp only[Act.put,QC];refine QA 2 (.bool false) hHeld ?_;simp only[Act.put,QC];refine QA 3 (.int .u64 (n:Int)) hHeld ?_;simp only[Act.put,QC];refine QA 4 (.bool false) hHeld ?_;simp only[Act.put,QC];refine QA 5 (.bool false) hHeld ?_;simp only[Act.put,QC];refine QA 6 (.bool false) hHeld ?_;simp only[Act.put,QC];refine QA 7 (.pointer (some (ai w.heap.size 2))) hHeld ?_;simp only[Act.put,QC];refine QA 8 (.map (some mb)) hHeld ?_;simp only[Act.put,QC];refine QA 9 (.int .u64 (n:Int)) hHeld ?_;simp only[Act.put,QC];refine QA 12 (.agg #[aa k,ae s,aa p]) hHeld ?_;simp only[Act.put,QC];refine wpAnyH_ready (rs:= [10]) QI QE (AllReadyH.cons rfl (λK hK=> ?_) AllReadyH.nil);go_simp;refine(PL _ mb nums n H2 QT.out).mono ?_;rw[hm];rintro e w3 ⟨rfl,QS⟩;have K3:=KC.drew.below QS KC.lt;have K4:=KW.drew.below QS KW.lt;clear hHeld;refine hK.out _ _ ⟨K3.cell 2,K4.cell 0,K4.cell 1,K4.cell 2⟩ (λhHeld=> ?_);clear hK K;refine QA 11 (.bool true) hHeld ?_;simp only[Act.put,QC];refine wpAnyH_ready (rs:= [13]) QI QE (AllReadyH.cons rfl (λK hK=> ?_) AllReadyH.nil);clear hK;go_simp;refine(jJ _ k s p).mono ?_;rintro e w4 ⟨rfl,hb⟩;exact⟨rfl,rfl,(B2.drew.trans (QS.mono QF)).trans (hb.mono (by have:=QS.size;simp at this;omega))⟩
def Mk (w:an)(tb nb mb:Nat)(k:Int)(s:am)(p:Nat)(hok:iX s)(hg:GOK w)(nums:au)(H:fJ w mb nums)(hl:nums.length<5000)(hn:1<=gA s)(hn2:gA s<=536870911)(hm:wU nums (gA s)=false):
  Calls prog 262 #[.agg #[.map (some tb),.map (some nb),.map (some mb)],.agg #[aa k,ae s,aa p]] w λe w'=>e= .returned (.tuple #[])/\fJ w' mb (nums++ [gA s])/\dS [mb] w w':=by
 obtain⟨B0,QQ,QR⟩:=fK w #[.map (some tb),.map (some nb),.map (some mb)] #[aa k,ae s,aa p] 306 148;obtain⟨r1,r2⟩:=QQ.rules;obtain⟨r3,r4⟩:=QR.rules;obtain⟨n,HN⟩:∃n,Hid (gA s=n):=⟨_,rfl⟩;rw[HN.out]at hn hn2 hm;have QV:decide ((n:Int)<1)=false:=QF;have QW:decide ((536870911:Int)<(n:Int))=false:=QF;have QT:Hid (n<18446744073709551616):=by have:=DU s;rw[HN.out]at this;exact this
 clear hn hn2;go_enter func262,ntmps262;go_wp2_with fail;refine(Mh _ k s p hok (hg.keep (B0.block _ hg.lt))).mono ?_;rw[HN.out];rintro e w2 ⟨rfl,QP⟩;have KC:=QQ.below QP QF;have KW:=QR.below QP QE;have B2:aj w w2:=B0.trans (QP.mono QF);have z2:w.heap.size+1<w2.heap.size:=KW.lt;clear r1 r2 r3 r4 QQ QR B0 QP;go_wp2_with fail;have H2:fJ w2.drew mb nums:=H.keep (B2.block _ H.lt)
 go_region_held3 (λw'=>w'.cell? (ai w.heap.size 2)=some (.map (some mb))/\w'.cell? (ai (w.heap.size+1) 0)=some (aa k)/\w'.cell? (ai (w.heap.size+1) 1)=some (ae s)/\w'.cell? (ai (w.heap.size+1) 2)=some (aa p))
  (first|exact⟨K5.cell 2,K6.cell 0,K6.cell 1,K6.cell 2⟩|exact⟨K3.cell 2,K4.cell 0,K4.cell 1,K4.cell 2⟩|exact⟨KC.cell 2,KW.cell 0,KW.cell 1,KW.cell 2⟩)
  (first|(go_at_call 342;refine(PL _ mb nums n H2 QT.out).mono ?_;rw[hm];rintro e w3 ⟨rfl,QS⟩;have K3:=KC.drew.below QS KC.lt;have K4:=KW.drew.below QS KW.lt)|(go_at_call 123;refine(oz _ k s p).mono ?_;rintro e w4 ⟨rfl,QU⟩;have K5:=K3.below QU K3.lt;have K6:=K4.below QU K4.lt))
 have Hk:aj w w4:=(B2.drew.trans (QS.mono QF)).trans (QU.mono (by have:=QS.size;simp at this;omega));have H4:fJ w4 mb nums:=H.keep (Hk.block _ H.lt);obtain⟨k1,k2⟩:=K5.rules;go_wp2_with fail;refine(Qf _ mb nums n H4 QK QT.out).mono ?_;rintro e w5 ⟨rfl,H5,QX⟩;go_wp2;go_end0;rw[HN.out];exact⟨rfl,H5,(dS.of_below Hk).trans QX⟩
def PQ (w:an)(tb nb mb:Nat)(k:Int)(s:am)(p:Nat)(hok:iX s)(hg:GOK w)(nums:au)(H:fJ w mb nums)(hl:nums.length<5000):
  Calls prog 262 #[.agg #[.map (some tb),.map (some nb),.map (some mb)],.agg #[aa k,ae s,aa p]] w λe w'=>if qy nums (gA s)then e=dI 3 p/\aj w w' else e= .returned (.tuple #[])/\fJ w' mb (nums++ [gA s])/\dS [mb] w w':=by
 unfold qy
 by_cases h1:gA s<1
 ·simp only[h1,decide_true,cz,if_true];exact JB w tb nb mb k s p hok hg h1
 ·by_cases h2:536870911<gA s
  ·simp only[h2,decide_true,cz,cA,if_true];exact Gl w tb nb mb k s p hok hg h2
  ·cases hm:wU nums (gA s)
   ·simp only[h1,h2,decide_false,cC,aL,if_false];exact Mk w tb nb mb k s p hok hg nums H hl QD QD hm
   ·simp only[cA,if_true];exact JC w tb nb mb k s p hok hg nums H QD QD hm
end
end Go.Proofs.YtfebdimolnobaaaGreatDoor
