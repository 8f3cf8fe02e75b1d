import Derived.Test.YtfebdimolnobaaaGreatDoorRdI
import Derived.Maps.OwnSet
import Derived.Maps.OwnOps
set_option maxRecDepth 100000
set_option maxHeartbeats 8000000
set_option linter.all false
namespace Go.Proofs.YtfebdimolnobaaaGreatDoor
open Go.RowKit
section
attribute [local go_sem] ia ic ie
attribute [local go_sem↓] Go.wp_at_zero Go.wp_at_succ
theorem NK (w:an)(rb wb:Nat)(ws:List W)(i:Nat)(R:Rd w rb wb ws i):
  Calls Tryz.prog 176 #[ag rb] w (lg w rb wb ws (jP ws i) (mQ w)):=by
 obtain⟨i0,Oh,Oi,Oj,Ok⟩:=info_parts Tryz.info302;have A0:gm w.heap.size rb w (w.alloc (ak #[.bool false,aa 0,ae ⟨#[]⟩,aa 0,ah,ah] 152)) i:=gm.of_below R.next ((Below.refl w.heap.size w).alloc (ay _) _);have R0:=R.alloc (ak #[.bool false,aa 0,ae ⟨#[]⟩,aa 0,ah,ah] 152);have K0:=de.new w #[.bool false,aa 0,ae ⟨#[]⟩,aa 0,ah,ah] 152;have n1:¬w.heap.size=rb:=by have:=R.blocks;omega
 have n3:¬rb=w.heap.size:=by omega
 have z0:w.heap.size<(w.alloc (ak #[.bool false,aa 0,ae ⟨#[]⟩,aa 0,ah,ah] 152)).heap.size:=by simp
 generalize hr:jP ws i=r;have HR:Hid (jP ws i=r):=hr;clear hr;go_enter Tryz.func176,Tryz.ntmps176
 go_wp2_with fail
 refine(Ax _ rb wb ws i _ [101,110,117,109] R0 (by decide+kernel) (by decide)).mono ?_
 cases h1:eQ ws [101,110,117,109] i with
 |error p=>
  rintro e w1 ⟨rfl,j,A⟩;obtain rfl:r= .error p:=by rw[<-HR.out,jP,d8 h1]
  unfold da;go_wp2;exact⟨rfl,rfl,j,A0.trans A (by omega)⟩
 |ok q=>
  obtain⟨_,i1⟩:=q;rintro e w1 ⟨rfl,R1,A⟩;have z1:w.heap.size<w1.heap.size:=aC z0 A.size;have K1:=K0.adv_ A z0 n1;have A1:=A0.trans A (by omega);clear A R0 K0 A0 z0;go_wp2_with fail
  refine(Lg _ rb wb ws i1 1 R1 (by decide)).mono ?_
  cases h2:jb ws 1 i1 with
  |error p=>
   rintro e w2 ⟨rfl,j,A⟩;obtain rfl:r= .error p:=by rw[<-HR.out,jP,dy h1,d8 h2]
   unfold da;go_wp2;exact⟨rfl,rfl,j,A1.trans A (by omega)⟩
  |ok q=>
   obtain⟨x,i2⟩:=q;rintro e w2 ⟨rfl,R2,A⟩;have z2:w.heap.size<w2.heap.size:=aC z1 A.size;have K2:=(K1.adv_ A z1 n1).alloc (ak #[.bool true,aa (cZ x.1),ae x.1,aa x.2,ah,ah] 152);have J2:=de.new w2 #[.bool true,aa (cZ x.1),ae x.1,aa x.2,ah,ah] 152;have A2:=(A1.trans A (by omega)).alloc (ay _) (ak #[.bool true,aa (cZ x.1),ae x.1,aa x.2,ah,ah] 152);have R3:=R2.alloc (ak #[.bool true,aa (cZ x.1),ae x.1,aa x.2,ah,ah] 152);have z3:w2.heap.size<(w2.alloc (ak #[.bool true,aa (cZ x.1),ae x.1,aa x.2,ah,ah] 152)).heap.size:=by simp
   have n5:¬w2.heap.size=rb:=by have:=R.blocks;omega
   have n6:¬w2.heap.size=w.heap.size:=by omega
   have n7:rb<w2.heap.size:=by have:=R.blocks;omega
   clear A R1 K1 A1 z1;go_wp2_with fail
   refine(Ax _ rb wb ws i2 _ [123] R3 (by decide+kernel) (by decide)).mono ?_
   cases h3:eQ ws [123] i2 with
   |error p=>
    rintro e w3 ⟨rfl,j,A⟩;obtain rfl:r= .error p:=by rw[<-HR.out,jP,dy h1,dy h2,d8 h3]
    unfold da;go_wp2;exact⟨rfl,rfl,j,A2.trans A (by omega)⟩
   |ok q=>
    obtain⟨_,i3⟩:=q;rintro e w3 ⟨rfl,R4,A⟩;have z4:w2.heap.size<w3.heap.size:=aC z3 A.size;have K4:=K2.adv_ A (by omega) n1;have J4:=J2.adv_ A z3 n5;have A4:=A2.trans A (by omega);clear A R2 R3 K2 J2 A2 z3;obtain⟨M,HM⟩:∃M,Hid (fk (d7 ws [125]) (kN ws) ws.length i3=M):=⟨_,rfl⟩
    have Od:Hid ((fx M fun l i=>fx (eQ ws [125] i) fun _ i=> .ok (⟨true,x,[],l⟩,i))=r):=by
     have:=HR.out;rw[jP,dy h1,dy h2,dy h3,HM.out]at this;exact this
    clear HR h1 h2 h3;go_wp2_with fail
    go_loopw [15] (fun _ wr=>∃(n k:Nat) (vs:List (W×W)) (va:aw) (vn vc:Nat),vs.length<=k/\ws.length-k<=n/\Hid (lf vs (fk (d7 ws [125]) (kN ws) n k)=M)/\Rd wr rb wb ws k/\gm w.heap.size rb w wr k/\de wr w.heap.size #[.bool false,aa 0,ae ⟨#[]⟩,aa 0,ah,ah] 152/\de wr w2.heap.size #[.bool true,aa (cZ x.1),ae x.1,aa x.2,ah,.slice va vn vc] 152/\wr.ownsRow (w2.heap.size+1) 302 6 (.slice va vn vc) vs.length (vs.flatMap At)/\w2.heap.size<wr.heap.size) (fun _ wr=>ws.length-gK rb wr)
    case atStart=>
     refine⟨ws.length,i3,[],none,0,0,by simp,by omega,?_,R4,A4,K4,J4,aX _ _ _ _,z4⟩;rw[<-HM.out];unfold Hid lf fx
     cases fk (d7 ws [125]) (kN ws) ws.length i3<;>rfl
    case round=>
     clear J4 R4 K4 A4 z4 HM;obtain⟨n,k,vs,va,vn,vc,hfl,hn,HP,RR,AA,KK,J,Oa,hz⟩:=hrel;have hk:=RR.lt;have hfew:=RR.few;have HN:Hid (gK rb wr=k):=RR.nextOf;obtain⟨y,hy⟩:=RR.word
     cases hs:(y.1.toList== [125])
     ·have Oc:d7 ws [125] k=false:=by unfold d7;simp only[hy,hs]
      have HY:Hid (ws[k]?=some y):=hy;clear hy;go_wp2_with fail
      refine(GU _ rb wb ws k y _ RR HY.out).mono ?_;rintro e w3 ⟨rfl,N7⟩;rw[show(ByteArray.mk #[125]).toList= [125]from by decide+kernel];have R3:=RR.below N7 RR.blocks.1 RR.blocks.2;have A3:=AA.below N7 AA.size;have K3:=KK.below N7 KK.lt;have J3:=J.below N7 J.lt;have N2:w3.ownsRow (w2.heap.size+1) 302 6 (.slice va vn vc) vs.length (vs.flatMap At):=dO N7 Oa;have Oe:w2.heap.size<w3.heap.size:=aC hz N7.size
      have HO:Hid (some w2.heap.size≠(Value.slice va vn vc).ownBlock):=by
       intro e;have:=(N2.lt _ e.symm).1;omega
      clear RR AA KK J Oa hz N7;go_wp2_with fail
      refine(Mt _ rb wb ws k R3).mono ?_
      cases h4:kN ws k with
      |error p=>
       rintro e w4 ⟨rfl,j,A⟩
       obtain rfl:r= .error p:=by
        rw[<-Od.out,<-HP.out,nV Oc (by omega) h4];rfl
       unfold da;go_wp2;exact⟨rfl,rfl,j,A3.trans A A3.size⟩
      |ok q=>
       obtain⟨q,k1⟩:=q;rintro e w4 ⟨rfl,R5,A⟩;have hk1:k<k1:=sf _ _ _ _ h4
       have Of:Hid (lf (vs++ [q]) (fk (d7 ws [125]) (kN ws) (n-1) k1)=M):=by
        rw[<-HP.out,pF vs Oc (by omega) h4];exact rfl
       have hz4:w3.heap.size<=w4.heap.size:=A.size;have A4:=(((A3.trans A A3.size).alloc (ay _) (ak #[aa (cZ q.1.1),ae q.1.1,aa q.1.2] 148)).alloc (ay _) (ak #[aa (cZ q.2.1),ae q.2.1,aa q.2.2] 148));have K4:=((K3.adv_ A (by omega) n1).alloc (ak #[aa (cZ q.1.1),ae q.1.1,aa q.1.2] 148)).alloc (ak #[aa (cZ q.2.1),ae q.2.1,aa q.2.2] 148);have J4:=((J3.adv_ A (by omega) n5).alloc (ak #[aa (cZ q.1.1),ae q.1.1,aa q.1.2] 148)).alloc (ak #[aa (cZ q.2.1),ae q.2.1,aa q.2.2] 148);have N8:((w4.alloc (ak #[aa (cZ q.1.1),ae q.1.1,aa q.1.2] 148)).alloc (ak #[aa (cZ q.2.1),ae q.2.1,aa q.2.2] 148)).ownsRow (w2.heap.size+1) 302 6 (.slice va vn vc) vs.length (vs.flatMap At):=((ig A (ay _) (by omega) N2).alloc _).alloc _
       have HW:Hid (∀j u,[aa (cZ q.1.1),ae q.1.1,aa q.1.2,aa (cZ q.2.1),ae q.2.1,aa q.2.2][j]?=some u->(((w4.alloc (ak #[aa (cZ q.1.1),ae q.1.1,aa q.1.2] 148)).alloc (ak #[aa (cZ q.2.1),ae q.2.1,aa q.2.2] 148)).alloc (ak #[aa (cZ q.1.1),ae q.1.1,aa q.1.2,aa (cZ q.2.1),ae q.2.1,aa q.2.2] 302)).cell? (((ai (w4.heap.size+1+1) 0):Addr).add j)=some u):=by
        have:=bl (cs:= #[aa (cZ q.1.1),ae q.1.1,aa q.1.2,aa (cZ q.2.1),ae q.2.1,aa q.2.2]) (t:=302) (fr:=(0,0)) (heap_alloc_new ((w4.alloc (ak #[aa (cZ q.1.1),ae q.1.1,aa q.1.2] 148)).alloc (ak #[aa (cZ q.2.1),ae q.2.1,aa q.2.2] 148)) (ak #[aa (cZ q.1.1),ae q.1.1,aa q.1.2,aa (cZ q.2.1),ae q.2.1,aa q.2.2] 302));simp only[bV]at this;exact this
       obtain⟨j1,j2⟩:=J4.rules;obtain⟨m1,m2⟩:=(J4.alloc (ak #[aa (cZ q.1.1),ae q.1.1,aa q.1.2,aa (cZ q.2.1),ae q.2.1,aa q.2.2] 302)).rules;go_wp2_with (first|(at_builtin;refine wpList_append_lies _ rfl _ _ _ rfl (w2.heap.size+1) 302 i0 _ 6 64 Tryz.underlying150 Oh Oi Oj Ok rfl (by omega) (.slice va vn vc) vs.length (vs.flatMap At) rfl (N8.alloc _) (ai (w4.heap.size+1+1) 0) 1 1 [aa (cZ q.1.1),ae q.1.1,aa q.1.2,aa (cZ q.2.1),ae q.2.1,aa q.2.2] rfl rfl HW.out ?h1 ?hm ?h63 ?hby ?hba (w4.heap.size+1+1+1) ?hH ?_;rotate_right;intro gg cap w5 Ob N3 hat hlt;obtain⟨x1,x2⟩:=((J4.alloc _).grown N3 HO.out).rules))
       case h1=>intro u hu;simp at hu;rcases hu with rfl|rfl|rfl|rfl|rfl|rfl<;>rfl
       case hm=>omega
       case h63=>unfold maxLen;omega
       case hby=>omega
       case hba=>simp;omega
       case hH=>simp
       have Og:=N3.size;have A6:=((A4.alloc (ay _) _).grown N3 (ay _) (fun j hj=>by have:=(N2.lt j hj).1;omega)).setCell (a:=(ai w2.heap.size 5)) (by simp;omega) (.slice (some (ai gg 0)) (vs.length+1) cap);have R6:=A6.rd R R.blocks.1 R.blocks.2 R5.lt;refine⟨⟨n-1,k1,vs++ [q],some (ai gg 0),vs.length+1,cap,by simp;omega,by omega,Of,R6,A6,?_,?_,?_,?_⟩,?_⟩
       ·exact((K4.alloc _).grown N3 (fun e=>by have:=(N2.lt _ e.symm).1;omega)).other 5 _ n6
       ·exact((J4.alloc _).grown N3 HO.out).set 5 _
       ·have:=ownsRow_setCell_below Ob (a:=(ai w2.heap.size 5)) (by simp) (.slice (some (ai gg 0)) (vs.length+1) cap);simpa [At,sJ]using this
       ·simp[World.setCell]at Og⊢;omega
       ·have h6:=R6.lt;rw[R6.nextOf,HN.out];omega
     ·have Oc:d7 ws [125] k=true:=by unfold d7;simp only[hy,hs]
      have h5:eQ ws [125] k= .ok ((),k+1):=by unfold eQ;simp only[hy,hs];rfl
      have HY:Hid (ws[k]?=some y):=hy;clear hy
      obtain rfl:r= .ok (⟨true,x,[],vs⟩,k+1):=by
       rw[<-Od.out,<-HP.out,mm Oc];simp only[lf,fx,h5,bT]
      go_wp2_with fail
      refine(GU _ rb wb ws k y _ RR HY.out).mono ?_;rintro e w3 ⟨rfl,N7⟩;rw[show(ByteArray.mk #[125]).toList= [125]from by decide+kernel];have R3:=RR.below N7 RR.blocks.1 RR.blocks.2;have A3:=AA.below N7 AA.size;have K3:=KK.below N7 KK.lt;have J3:=J.below N7 J.lt;have N2:w3.ownsRow (w2.heap.size+1) 302 6 (.slice va vn vc) vs.length (vs.flatMap At):=dO N7 Oa;have Oe:w2.heap.size<w3.heap.size:=aC hz N7.size;clear RR AA KK J Oa hz N7;go_wp2_with fail
      refine(Ax _ rb wb ws k _ [125] R3 (by decide+kernel) (by decide)).mono ?_;rw[h5];rintro e w4 ⟨rfl,R4,A⟩;have K4:=K3.adv_ A (by omega) n1;have J4:=J3.adv_ A (by omega) n5;have A4:=A3.trans A A3.size;have N8:w4.ownsRow (w2.heap.size+1) 302 6 (.slice va vn vc) vs.length (vs.flatMap At):=ig A (ay _) (by omega) N2;obtain⟨k1,k2⟩:=K4.rules;obtain⟨j1,j2⟩:=J4.rules;go_wp2;have A9:=A4.sets (b:=w.heap.size) (ay _) [.bool true,aa (cZ x.1),ae x.1,aa x.2,ah,.slice va vn vc] 0;have K9:=K4.sets_all [.bool true,aa (cZ x.1),ae x.1,aa x.2,ah,.slice va vn vc] rfl;refine bodyPost_ret (dw Tryz.results176 _ _ rfl K9 Tryz.underlying152 (by kernel_rfl)) rfl ⟨⟨none,0,0,va,vn,vc,rfl,[],?_,?_,?_⟩,?_,A9⟩
      ·exact⟨aX _ _ _ _,fun b hb=>by cases hb⟩
      ·rfl
      ·exact(dJ.of (fM (lo:=w.heap.size) N8 (b:=w.heap.size) (Nat.lt_succ_of_lt z2) (Nat.le_succ_of_le (bw z2)) [.bool true,aa (cZ x.1),ae x.1,aa x.2,ah,.slice va vn vc] 0))
      ·exact A9.rd R R.blocks.1 R.blocks.2 R4.lt
theorem Ls (w:an)(rb wb:Nat)(ws:List W)(i:Nat)(R:Rd w rb wb ws i)(t0:d7 ws [101,110,117,109] i=false):
  Calls Tryz.prog 119 #[ag rb] w (lg w rb wb ws (fH ws i) (mQ w)):=by
 obtain⟨x,hx⟩:=R.word;have HX:Hid (ws[i]?=some x):=hx;rw[fI _ hx]at t0;have A0:gm w.heap.size rb w (w.alloc (ak #[.bool false,aa 0,ae ⟨#[]⟩,aa 0,ah,ah] 152)) i:=gm.of_below R.next ((Below.refl w.heap.size w).alloc (ay _) _);have R0:=R.alloc (ak #[.bool false,aa 0,ae ⟨#[]⟩,aa 0,ah,ah] 152);have K0:=de.new w #[.bool false,aa 0,ae ⟨#[]⟩,aa 0,ah,ah] 152;have n1:¬w.heap.size=rb:=by have:=R.blocks;omega
 have z0:w.heap.size<(w.alloc (ak #[.bool false,aa 0,ae ⟨#[]⟩,aa 0,ah,ah] 152)).heap.size:=by simp
 generalize hr:fH ws i=r;have HR:Hid (fH ws i=r):=hr;clear hr hx;go_enter Tryz.func119,Tryz.ntmps119
 go_wp2_with fail
 refine(GU _ rb wb ws i x _ R0 HX.out).mono ?_;rintro e w1 ⟨rfl,N2⟩;rw[show(ByteArray.mk #[101,110,117,109]).toList= [101,110,117,109]from by decide+kernel];have R1:=R0.below N2 R0.blocks.1 R0.blocks.2;have A1:=A0.below N2 (bw z0);have K1:=K0.below N2 z0;have z1:w.heap.size<w1.heap.size:=aC z0 N2.size;clear R0 A0 K0 z0 N2;go_wp2_with fail
 refine(NJ _ rb wb ws i R1).mono ?_
 cases h1:fH ws i with
 |error p=>
  rintro e w2 ⟨rfl,j,A⟩;obtain rfl:r= .error p:=HR.out.symm.trans h1;unfold da;go_wp2;exact⟨rfl,rfl,j,A1.trans A (by omega)⟩
 |ok q=>
  obtain⟨b,i1⟩:=q;rintro e w2 ⟨⟨pa,pn,pc,va,vn,vc,rfl,hb⟩,R2,A⟩;obtain rfl:r= .ok (b,i1):=HR.out.symm.trans h1;have K9:=K1.adv_ A z1 n1;have A9:=A1.trans A (by omega);obtain⟨k1,k2⟩:=K9.rules;go_wp2;have N3:=A9.sets (b:=w.heap.size) (ay _) [.bool b.enum,aa (cZ b.name.1),ae b.name.1,aa b.name.2,.slice pa pn pc,.slice va vn vc] 0;have N7:=K9.sets_all [.bool b.enum,aa (cZ b.name.1),ae b.name.1,aa b.name.2,.slice pa pn pc,.slice va vn vc] rfl;refine bodyPost_ret (dw Tryz.results119 _ _ rfl N7 Tryz.underlying152 (by kernel_rfl)) rfl ⟨⟨pa,pn,pc,va,vn,vc,rfl,?_⟩,?_,N3⟩
  ·have h9:=(im.keep (w:=w2) (w':=w2.setCells w.heap.size 0 [.bool b.enum,aa (cZ b.name.1),ae b.name.1,aa b.name.2,.slice pa pn pc,.slice va vn vc]) (fun c hc _=>fP _ _ (by have:w1.heap.size<=c:=hc;omega) _ _) hb);exact h9.mono (fun c hc _=>by have:w1.heap.size<=c:=hc;omega)
  ·exact N3.rd R R.blocks.1 R.blocks.2 R2.lt
theorem Lt (w:an)(rb wb:Nat)(ws:List W)(i:Nat)(R:Rd w rb wb ws i)(t0:d7 ws [101,110,117,109] i=true):
  Calls Tryz.prog 119 #[ag rb] w (lg w rb wb ws (jP ws i) (mQ w)):=by
 obtain⟨x,hx⟩:=R.word;have HX:Hid (ws[i]?=some x):=hx;rw[fI _ hx]at t0;have A0:gm w.heap.size rb w (w.alloc (ak #[.bool false,aa 0,ae ⟨#[]⟩,aa 0,ah,ah] 152)) i:=gm.of_below R.next ((Below.refl w.heap.size w).alloc (ay _) _);have R0:=R.alloc (ak #[.bool false,aa 0,ae ⟨#[]⟩,aa 0,ah,ah] 152);have K0:=de.new w #[.bool false,aa 0,ae ⟨#[]⟩,aa 0,ah,ah] 152;have n1:¬w.heap.size=rb:=by have:=R.blocks;omega
 have z0:w.heap.size<(w.alloc (ak #[.bool false,aa 0,ae ⟨#[]⟩,aa 0,ah,ah] 152)).heap.size:=by simp
 generalize hr:jP ws i=r;have HR:Hid (jP ws i=r):=hr;clear hr hx;go_enter Tryz.func119,Tryz.ntmps119
 go_wp2_with fail
 refine(GU _ rb wb ws i x _ R0 HX.out).mono ?_;rintro e w1 ⟨rfl,N2⟩;rw[show(ByteArray.mk #[101,110,117,109]).toList= [101,110,117,109]from by decide+kernel];have R1:=R0.below N2 R0.blocks.1 R0.blocks.2;have A1:=A0.below N2 (bw z0);have K1:=K0.below N2 z0;have z1:w.heap.size<w1.heap.size:=aC z0 N2.size;clear R0 A0 K0 z0 N2;go_wp2_with fail
 refine(NK _ rb wb ws i R1).mono ?_
 cases h1:jP ws i with
 |error p=>
  rintro e w2 ⟨rfl,j,A⟩;obtain rfl:r= .error p:=HR.out.symm.trans h1;unfold da;go_wp2;exact⟨rfl,rfl,j,A1.trans A (by omega)⟩
 |ok q=>
  obtain⟨b,i1⟩:=q;rintro e w2 ⟨⟨pa,pn,pc,va,vn,vc,rfl,hb⟩,R2,A⟩;obtain rfl:r= .ok (b,i1):=HR.out.symm.trans h1;have K9:=K1.adv_ A z1 n1;have A9:=A1.trans A (by omega);obtain⟨k1,k2⟩:=K9.rules;go_wp2;have N3:=A9.sets (b:=w.heap.size) (ay _) [.bool b.enum,aa (cZ b.name.1),ae b.name.1,aa b.name.2,.slice pa pn pc,.slice va vn vc] 0;have N7:=K9.sets_all [.bool b.enum,aa (cZ b.name.1),ae b.name.1,aa b.name.2,.slice pa pn pc,.slice va vn vc] rfl;refine bodyPost_ret (dw Tryz.results119 _ _ rfl N7 Tryz.underlying152 (by kernel_rfl)) rfl ⟨⟨pa,pn,pc,va,vn,vc,rfl,?_⟩,?_,N3⟩
  ·have h9:=(im.keep (w:=w2) (w':=w2.setCells w.heap.size 0 [.bool b.enum,aa (cZ b.name.1),ae b.name.1,aa b.name.2,.slice pa pn pc,.slice va vn vc]) (fun c hc _=>fP _ _ (by have:w1.heap.size<=c:=hc;omega) _ _) hb);exact h9.mono (fun c hc _=>by have:w1.heap.size<=c:=hc;omega)
  ·exact N3.rd R R.blocks.1 R.blocks.2 R2.lt
theorem Nm (w:an)(rb wb:Nat)(ws:List W)(i:Nat)(R:Rd w rb wb ws i):
  Calls Tryz.prog 119 #[ag rb] w (lg w rb wb ws (jg ws i) (mQ w)):=by
 unfold jg
 cases t0:d7 ws [101,110,117,109] i
 ·exact Ls w rb wb ws i R t0
 ·exact Lt w rb wb ws i R t0
theorem CU (ws:List W)(i:Nat):On i (jg ws i):=by
 intro a j h;unfold jg at h
 split at h
 ·unfold jP at h;obtain⟨_,i1,h1,h⟩:=dg h;obtain⟨_,i2,h2,h⟩:=dg h;obtain⟨_,i3,h3,h⟩:=dg h;obtain⟨_,i4,h4,h⟩:=dg h;obtain⟨_,i5,h5,h⟩:=dg h;have:=(dY _ _ _ _ _ h1).1;have:=(gd _ _ _ _ _ h2).1;have:=(dY _ _ _ _ _ h3).1;have:=pE _ _ (sf ws) _ _ _ _ h4;have:=(dY _ _ _ _ _ h5).1;simp at h;omega
 ·unfold fH at h;obtain⟨_,i1,h1,h⟩:=dg h;obtain⟨_,i2,h2,h⟩:=dg h;obtain⟨_,i3,h3,h⟩:=dg h;obtain⟨_,i4,h4,h⟩:=dg h;obtain⟨_,i5,h5,h⟩:=dg h;have:=(dY _ _ _ _ _ h1).1;have:=(gd _ _ _ _ _ h2).1;have:=(dY _ _ _ _ _ h3).1;have:=pE _ _ (yq ws) _ _ _ _ h4;have:=(dY _ _ _ _ _ h5).1;simp at h;omega
theorem dU.appended {w w5:an}{v:Value}{gg H b1 off:Nat}{u:Value}{cs:aq}{ps:List dh}(hg:w.grownBy w5 v.ownBlock)(Oc:v.ownBlock=some gg\/gg=H)(hH:w.heap.size=H)
  (h:dU w (fun b=>b1<b/\some b≠v.ownBlock) cs ps) {cap n:Nat}:dU (w5.setCell (ai b1 off) u) (fun b=>b1<b/\some b≠(Value.slice (some (ai gg 0)) n cap).ownBlock) cs ps:=by
 have h2:dU w (fun b=>b1<b/\some b≠v.ownBlock/\some b≠some gg) cs ps:=h.mono fun b hb Oi=>⟨hb.1,hb.2,fun e=>by
  rcases Oc with Oc|Oc
  ·exact hb.2 (e.trans Oc.symm)
  ·have:=Option.some.inj e;omega⟩
 have h3:dU (w5.setCell (ai b1 off) u) (fun b=>b1<b/\some b≠v.ownBlock/\some b≠some gg) cs ps:=dU.keep (w:=w) (fun b hb Oi=>by
  rw[dd,if_neg (by have:=hb.1;omega)]
  exact hg.block b Oi hb.2.1) h2
 exact h3.mono fun b hb _=>⟨hb.1,hb.2.2⟩
theorem NL (w:an)(rb wb:Nat)(ws:List W)(R:Rd w rb wb ws 0):
  Calls Tryz.prog 70 #[ag rb] w (lg w rb wb ws (oH ws) (Ha w)):=by
 obtain⟨i0,Oo,Oq,Ot,Ou⟩:=info_parts Tryz.info152;have A0:gm w.heap.size rb w ((w.alloc (ak #[ah] 87)).alloc (ak #[ah] 87)) 0:=gm.of_below R.next (((Below.refl w.heap.size w).alloc (ay _) _).alloc (by simp) _);have R0:=(R.alloc (ak #[ah] 87)).alloc (ak #[ah] 87);have K0:=(de.new w #[ah] 87).alloc (ak #[ah] 87)
 have J0:de ((w.alloc (ak #[ah] 87)).alloc (ak #[ah] 87)) (w.heap.size+1) #[ah] 87:=by
  have:=de.new (w.alloc (ak #[ah] 87)) #[ah] 87;simpa using this
 have n1:¬w.heap.size=rb:=by have:=R.blocks;omega
 have n5:¬w.heap.size+1=rb:=by have:=R.blocks;omega
 have n6:¬w.heap.size+1=w.heap.size:=by omega
 have n7:rb<w.heap.size:=by have:=R.blocks;omega
 generalize hr:oH ws=r;have HR:Hid (oH ws=r):=hr;clear hr;go_enter Tryz.func70,Tryz.ntmps70
 go_wp2_with fail
 go_loopw [7] (fun _ wr=>∃(n k:Nat) (bs:List dh) (ta:aw) (tn tc:Nat) (Oa:aq),bs.length<=k/\ws.length-k<=n/\Hid (lf bs (fk (ri ws) (jg ws) n k)=r)/\Rd wr rb wb ws k/\gm w.heap.size rb w wr k/\de wr w.heap.size #[ah] 87/\de wr (w.heap.size+1) #[.slice ta tn tc] 87/\wr.ownsRow (w.heap.size+2) 152 6 (.slice ta tn tc) bs.length Oa/\dU wr (fun b=>w.heap.size+1<b/\some b≠(Value.slice ta tn tc).ownBlock) Oa bs/\w.heap.size+1<wr.heap.size) (fun _ wr=>ws.length-gK rb wr)
 case atStart=>
  refine⟨ws.length,0,[],none,0,0,[],by simp,by omega,?_,R0,A0,K0,J0,aX _ _ _ _,rfl,by simp⟩;rw[<-HR.out];unfold Hid lf fx oH
  cases fk (ri ws) (jg ws) ws.length 0<;>rfl
 case round=>
  clear R0 A0 K0 J0 HR;obtain⟨n,k,bs,ta,tn,tc,Oa,hfl,hn,HP,RR,AA,KK,J,N8,Og,hz⟩:=hrel;have hk:=RR.lt;have hfew:=RR.few;have HN:Hid (gK rb wr=k):=RR.nextOf;obtain⟨y,hy⟩:=RR.word
  cases hs:(cZ y.1==4)
  ·have Of:ri ws k=false:=by unfold ri;simp only[hy,hs]
   have Ok:(cZ y.1 !=4)=true:=by simpa [bne]using hs
   have HY:Hid (ws[k]?=some y):=hy;clear hy hs;go_wp2_with fail
   refine(BJ _ rb wb ws k y RR HY.out).mono ?_;rintro e w3 ⟨rfl,N7⟩;have R3:=RR.below N7 RR.blocks.1 RR.blocks.2;have A3:=AA.below N7 AA.size;have K3:=KK.below N7 KK.lt;have J3:=J.below N7 J.lt;have N2:w3.ownsRow (w.heap.size+2) 152 6 (.slice ta tn tc) bs.length Oa:=dO N7 N8;have Ob:=Og.keep (fun b _ hb=>N7.block b hb);have hz3:w.heap.size+1<w3.heap.size:=aC hz N7.size
   have HO:Hid (some (w.heap.size+1)≠(Value.slice ta tn tc).ownBlock):=by
    intro e;have:=(N2.lt _ e.symm).1;omega
   clear RR AA KK J N8 Og hz N7;go_wp2_with fail
   have j3:=J3.cell 0
   cases h4:jg ws k with
   |error p=>
    obtain rfl:r= .error p:=by
     rw[<-HP.out,nV Of (by omega) h4];rfl
    refine wp_region_held_drew (S:=fun w'=>w'.cell? (ai (w.heap.size+1) 0)=some (.slice ta tn tc)) (by kernel_rfl) (by simpa using j3) (fun hHeld=> ?_);refine fC 0 (ag (w.heap.size+1)) rfl (by kernel_rfl) (fun _ _ _ h=>h) (Or.inl ⟨by rfl,fun w Od=>by dsimp only at Od;go_simp⟩) hHeld ?_;refine fC 1 (.slice ta tn tc) rfl (by kernel_rfl) (fun _ _ _ h=>h) (Or.inl ⟨by rfl,fun w Od=>by dsimp only at Od;go_simp⟩) hHeld ?_;refine fC 2 (ag rb) rfl (by kernel_rfl) (fun _ _ _ h=>h) (Or.inl ⟨by rfl,fun w Od=>by dsimp only at Od;go_simp⟩) hHeld ?_;simp only[Act.put,NZ];refine wpAnyH_ready (rs:= [3]) (by kernel_rfl) (by simp) (AllReadyH.cons rfl (fun K hK=> ?_) AllReadyH.nil);clear hK;go_simp;refine(Nm _ rb wb ws k R3.drew).mono ?_;rw[h4];rintro e w4 ⟨rfl,j,A⟩;exact⟨rfl,rfl,j,A3.drew.trans A (by have:=A3.size;simp;omega)⟩
   |ok q=>
    obtain⟨b,k1⟩:=q;have hk1:k<k1:=CU _ _ _ _ h4
    have Ol:Hid (lf (bs++ [b]) (fk (ri ws) (jg ws) (n-1) k1)=r):=by
     rw[<-HP.out,pF bs Of (by omega) h4];exact rfl
    have J:=J3;have RR:=R3;go_region_law (first|(refine step_append_lies _ (by rfl) _ _ _ (by rfl) (w.heap.size+2) 152 i0 _ 6 88 Tryz.underlying85 Oo Oq Ot Ou rfl (by omega) (.slice ta tn tc) bs.length Oa (by rfl) ((ig A (ay _) (by omega) (mo N2)).alloc _) (ai w4.heap.size 0) 1 1 [_,_,_,_,_,_] (by rfl) (by rfl) (bl (t:=152) (fr:=(0,0)) (heap_alloc_new w4 _)) (by simp[Value.oneCell']) (by omega) (by unfold maxLen;omega) (by omega) (by have:=A.size;simp at this⊢;omega) (w4.heap.size+1) (by simp) ?_;intro gg cap w5 Oe N3 Oc Oi;obtain⟨x1,x2⟩:=(((J.drew.adv_ A (by simp;omega) n5).alloc _).grown N3 HO.out).rules)|(go_simp;go_at_call 119;refine(Nm _ rb wb ws k RR.drew).mono ?_;rw[h4];rintro e w4 ⟨⟨pa,pn,pc,va,vn,vc,rfl,Ov⟩,R5,A⟩;obtain⟨y1,y2⟩:=(J.drew.adv_ A (by simp;omega) n5).rules;obtain⟨y3,y4,y5,y6⟩:=eK (w:=w4) (b:=w.heap.size+1) (by have:=A.size;simp at this;omega)))
    all_goals
     go_wp2;go_roundw
     case rel=>
      go_light;have hz4:w3.heap.size<=w4.heap.size:=by have:=A.size;simpa using this
      have Om:=N3.size;have A6:=((((A3.drew.trans A (by have:=A3.size;simp;omega)).alloc (ay _) _).grown N3 (ay _) (fun j hj=>by have:=(N2.lt j hj).1;omega))).setCell (a:=(ai (w.heap.size+1) 0)) (by simp) (.slice (some (ai gg 0)) (bs.length+1) cap);refine⟨n-1,k1,bs++ [b],some (ai gg 0),bs.length+1,cap,Oa++ [.bool b.enum,aa (cZ b.name.1),ae b.name.1,aa b.name.2,.slice pa pn pc,.slice va vn vc],by simp;omega,by omega,Ol,A6.rd R R.blocks.1 R.blocks.2 R5.lt,A6,?_,?_,?_,?_,?_⟩
      ·exact(((K3.drew.adv_ A (by simp;omega) n1).alloc _).grown N3 (fun e=>by have:=(N2.lt _ e.symm).1;omega)).other 0 _ n6
      ·exact(((J3.drew.adv_ A (by simp;omega) n5).alloc _).grown N3 HO.out).set 0 _
      ·have:=ownsRow_setCell_below Oe (a:=(ai (w.heap.size+1) 0)) (by simp) (.slice (some (ai gg 0)) (bs.length+1) cap);simpa using this
      ·refine dU.appended N3 Oc (by simp) ?_;refine dU.snoc ?_ ?_
       ·have Oh:im (w4.alloc (ak #[.bool b.enum,aa (cZ b.name.1),ae b.name.1,aa b.name.2,.slice pa pn pc,.slice va vn vc] 152)) (fun x=>w3.drew.heap.size<=x) b (.slice pa pn pc) (.slice va vn vc):=Ov.keep (fun c _ hc=>Below.heap_alloc _ _ _ hc);refine Oh.mono fun c hc Oj=> ?_
        have hc3:w3.heap.size<=c:=by simpa using hc
        refine⟨by omega,fun e=> ?_⟩;have:=(N2.lt c e.symm).2;omega
       ·refine dU.keep (w:=w3) (fun c hc Oj=> ?_) Ob;rw[Below.heap_alloc _ _ _ (by omega),Below.block A c (by simpa using Oj),yh,dd,if_neg (by have:=hc.1;omega)];rfl
      ·simp[World.setCell]at Om⊢;omega
     case measure=>
      go_light;have A6:=((((A3.drew.trans A (by have:=A3.size;simp;omega)).alloc (ay _) _).grown N3 (ay _) (fun j hj=>by have:=(N2.lt j hj).1;omega))).setCell (a:=(ai (w.heap.size+1) 0)) (by simp) (.slice (some (ai gg 0)) (bs.length+1) cap);have R6:=A6.rd R R.blocks.1 R.blocks.2 R5.lt;have h6:=R6.lt;rw[R6.nextOf,HN.out];omega
  ·have Of:ri ws k=true:=by unfold ri;simp only[hy,hs]
   have Ok:(cZ y.1 !=4)=false:=by simpa [bne]using hs
   have HY:Hid (ws[k]?=some y):=hy;clear hy hs
   obtain rfl:r= .ok (bs,k):=by
    rw[<-HP.out,mm Of];simp only[lf,fx,bT]
   go_wp2_with fail
   refine(BJ _ rb wb ws k y RR HY.out).mono ?_;rintro e w3 ⟨rfl,N7⟩;have R3:=RR.below N7 RR.blocks.1 RR.blocks.2;have A3:=AA.below N7 AA.size;have K3:=KK.below N7 KK.lt;have J3:=J.below N7 J.lt;have N2:w3.ownsRow (w.heap.size+2) 152 6 (.slice ta tn tc) bs.length Oa:=dO N7 N8;have Ob:=Og.keep (fun b _ hb=>N7.block b hb);clear RR AA KK J N8 Og hz N7;obtain⟨k1,k2⟩:=K3.rules;obtain⟨j1,j2⟩:=J3.rules;go_wp2;have A9:=A3.sets (b:=w.heap.size) (ay _) [.slice ta tn tc] 0;have K9:=K3.sets_all [.slice ta tn tc] rfl;refine bodyPost_ret (dw Tryz.results70 _ _ rfl K9 Tryz.underlying87 (by kernel_rfl)) rfl ⟨⟨ta,tn,tc,Oa,rfl,?_,?_⟩,?_,A9⟩
   ·exact(dJ.of (fM (lo:=w.heap.size) N2 (b:=w.heap.size) (by omega) (by omega) [.slice ta tn tc] 0))
   ·have h9:=(dU.keep (w:=w3) (w':=w3.setCells w.heap.size 0 [.slice ta tn tc]) (fun b hb _=>fP _ _ (by have:=hb.1;omega) _ _) Ob);exact h9.mono (fun b hb _=>by have:=hb.1;omega)
   ·exact A9.rd R R.blocks.1 R.blocks.2 R3.lt
end
section
open Go.Maps Go.ChangeMaps Go.WideMaps Go.WideElems
attribute [local go_sem] ia ic ie
theorem CV:Keyed Tryz.prog 9:=string_keyed Tryz.underlying9
theorem Lu:Keyed Tryz.prog 53:=int_keyed Tryz.underlying53
theorem BK (w:an):(zeroValue 162).run Tryz.prog w= .ok (.agg #[]) w:=by kernel_rfl
def oy (s:am):Lit:= .string s.data.toList
def mR (n:Nat):Lit:= .int .u64 n
def dN (w:an)(b:Nat)(l:ar):Prop:=w.ownsMap Tryz.prog 9 (unitElem (H:=Unit)) b l.length (setOf (.agg []) (l.map oy))
def eC (w:an)(b:Nat)(l:au):Prop:=w.ownsMap Tryz.prog 53 (unitElem (H:=Unit)) b l.length (setOf (.agg []) (l.map mR))
def dX (l:ar)(s:am):Bool:=l.any fun x=>x.toList==s.toList
def uI (l:au)(n:Nat):Bool:=l.any fun x=>x==n
theorem CX (s:am)(h:s.size<=maxLen):keyOf Tryz.prog 9 (ae s)=some (oy s):=keyOf_string_mk Tryz.underlying9 h
theorem Lv (n:Nat)(h:n<18446744073709551616):keyOf Tryz.prog 53 (.int .u64 n)=some (mR n):=keyOf_int_mk Tryz.underlying53 (WalkArith.wf_u64 (by omega))
theorem Lw (l:ar)(s:am):Maps.has (setOf (H:=Unit) (.agg []) (l.map oy)) (oy s)=dX l s:=by
 rw[has_setOf _ _ _ (by intro x hx;obtain⟨y,_,rfl⟩:=List.mem_map.1 hx;exact trivial)];unfold dX;rw[List.any_map]
 congr 1
 funext x;show(x.data.toList==s.data.toList)=_;rw[ByteArray.toList_eq,ByteArray.toList_eq]
theorem Lx (l:au)(n:Nat):Maps.has (setOf (H:=Unit) (.agg []) (l.map mR)) (mR n)=uI l n:=by
 rw[has_setOf _ _ _ (by intro x hx;obtain⟨y,_,rfl⟩:=List.mem_map.1 hx;exact trivial)];unfold uI;rw[List.any_map]
 congr 1
 funext x;show decide (IntKind.u64=IntKind.u64/\(x:Int)=(n:Int))=_;rw[b8];simp;omega
structure dl (bs:au)(w w':an):Prop where
 os:w'.os=w.os
 tape:w'.tape=w.tape
 output:w'.output=w.output
 size:w.heap.size<=w'.heap.size
 block:∀k,k<w.heap.size->k∉bs->w'.heap[k]?=w.heap[k]?
theorem dl.refl (bs:au)(w:an):dl bs w w:=⟨rfl,rfl,rfl,ay _,fun _ _ _=>rfl⟩
theorem dl.trans {bs:au}{a b c:an}(h:dl bs a b)(k:dl bs b c):dl bs a c:=
 ⟨k.os.trans h.os,k.tape.trans h.tape,k.output.trans h.output,aG h.size k.size,fun i hi hn=>(k.block i (aC hi h.size) hn).trans (h.block i hi hn)⟩
theorem dl.mono {bs cs:au}{a b:an}(h:dl bs a b)(hs:∀x∈bs,x∈cs):dl cs a b:=
 ⟨h.os,h.tape,h.output,h.size,fun i hi hn=>h.block i hi (fun hc=>hn (hs i hc))⟩
theorem dl.of_below {bs:au}{a b:an}(h:Below a.heap.size a b):dl bs a b:=⟨h.os,h.tape,h.output,h.size,fun i hi _=>h.block i hi⟩
theorem dl.of_grown {a b:an}{k:Nat}(h:a.grownBy b (some k)):dl [k] a b:=⟨h.os,h.tape,h.output,h.size,fun i hi hn=>h.block i hi (fun e=>hn (by simp at e;simp[e]))⟩
theorem dl.to_below {bs:au}{a b:an}{n:Nat}(h:dl bs a b)(hn:n<=a.heap.size)(hb:∀x∈bs,n<=x):Below n a b:=
 ⟨h.os,h.tape,h.output,h.size,fun i hi=>h.block i (aC hi hn) (fun hc=>by have:=hb i hc;omega)⟩
theorem dl.alloc {bs:au}{a b:an}(h:dl bs a b)(o:Obj):dl bs a (b.alloc o):=h.trans (dl.of_below ((Below.refl _ _).alloc (ay _) o))
theorem dl.drew {bs:au}{a b:an}(h:dl bs a b):dl bs a b.drew:=h.trans (dl.of_below (Below.refl _ _).drew)
theorem iQ {w w':an}{k:TypeId}{R:Value->Option (DataW Unit×List MemPlace)}{b n:Nat}{D:DataW Unit}(h:w.ownsMap Tryz.prog k R b n D)(hb:w'.heap[b]?=w.heap[b]?):w'.ownsMap Tryz.prog k R b n D:=by
 obtain⟨es,clock,h1,h2⟩:=h;exact⟨es,clock,hb.trans h1,h2⟩
theorem dN.lt {w:an}{b:Nat}{l:ar}(h:dN w b l):b<w.heap.size:=World.ownsMap.lt h
theorem eC.lt {w:an}{b:Nat}{l:au}(h:eC w b l):b<w.heap.size:=World.ownsMap.lt h
theorem dN.keep {w w':an}{b:Nat}{l:ar}(h:dN w b l)(hb:w'.heap[b]?=w.heap[b]?):dN w' b l:=iQ h hb
theorem eC.keep {w w':an}{b:Nat}{l:au}(h:eC w b l)(hb:w'.heap[b]?=w.heap[b]?):eC w' b l:=iQ h hb
theorem Nn (w:an)(b:Nat)(l:ar)(s:am)(h:dN w b l)(hl:l.length<maxLen)(hs:s.size<=maxLen):
  Calls Tryz.prog 178 #[.map (some b),ae s] w fun e w'=>e= .returned (.tuple #[])/\dN w' b (l++ [s])/\dl [b] w w':=by
 have N2:w.ownsMap Tryz.prog 9 (unitElem (H:=Unit)) b l.length (setOf (.agg []) (l.map oy)):=h;go_enter Tryz.func178,Tryz.ntmps178
 go_wp2_with (at_mapUpdate;refine wpList_mapUpdate_own _ rfl _ _ _ 229 rfl 9 162 CV Tryz.underlying229 _ b _ _ rfl N2 hl _ _ _ rfl rfl (CX s hs) _ [] unitElem_mk ?_;intro w1 N7 N3)
 go_end0;refine⟨rfl,?_,dl.of_grown N3⟩;unfold dN;rw[bH,List.map_singleton,setOf_snoc,aH];exact N7
theorem NM (w:an)(b:Nat)(l:au)(n:Nat)(h:eC w b l)(hl:l.length<maxLen)(hs:n<18446744073709551616):
  Calls Tryz.prog 343 #[.map (some b),.int .u64 n] w fun e w'=>e= .returned (.tuple #[])/\eC w' b (l++ [n])/\dl [b] w w':=by
 have N2:w.ownsMap Tryz.prog 53 (unitElem (H:=Unit)) b l.length (setOf (.agg []) (l.map mR)):=h;go_enter Tryz.func343,Tryz.ntmps343
 go_wp2_with (at_mapUpdate;refine wpList_mapUpdate_own _ rfl _ _ _ 304 rfl 53 162 Lu Tryz.underlying304 _ b _ _ rfl N2 hl _ _ _ rfl rfl (Lv n hs) _ [] unitElem_mk ?_;intro w1 N7 N3)
 go_end0;refine⟨rfl,?_,dl.of_grown N3⟩;unfold eC;rw[bH,List.map_singleton,setOf_snoc,aH];exact N7
theorem Mj (w:an)(b:Nat)(l:ar)(s:am)(h:dN w b l)(hs:s.size<=maxLen):
  Calls Tryz.prog 179 #[.map (some b),ae s] w fun e w'=>e= .returned (.bool (dX l s))/\aj w w':=by
 have N2:w.ownsMap Tryz.prog 9 (unitElem (H:=Unit)) b l.length (setOf (.agg []) (l.map oy)):=h;rw[<-Lw];go_enter Tryz.func179,Tryz.ntmps179
 go_wp2_with (at_lookup;refine wpList_lookup_own_unit _ rfl _ _ 229 rfl 9 162 CV Tryz.underlying229 (BK _) b _ _ rfl N2 _ _ rfl (CX s hs) ?_)
 go_ret;exact⟨rfl,(Below.refl _ _).alloc (ay _) _⟩
theorem No (w:an)(b:Nat)(l:au)(n:Nat)(h:eC w b l)(hs:n<18446744073709551616):
  Calls Tryz.prog 342 #[.map (some b),.int .u64 n] w fun e w'=>e= .returned (.bool (uI l n))/\aj w w':=by
 have N2:w.ownsMap Tryz.prog 53 (unitElem (H:=Unit)) b l.length (setOf (.agg []) (l.map mR)):=h;rw[<-Lx];go_enter Tryz.func342,Tryz.ntmps342
 go_wp2_with (at_lookup;refine wpList_lookup_own_unit _ rfl _ _ 304 rfl 53 162 Lu Tryz.underlying304 (BK _) b _ _ rfl N2 _ _ rfl (Lv n hs) ?_)
 go_ret;exact⟨rfl,(Below.refl _ _).alloc (ay _) _⟩
theorem mS (w:an)(k:Int)(s:am)(p:Nat):
  Calls Tryz.prog 123 #[.bool false,.agg #[aa k,ae s,aa p]] w fun e w'=>e= .returned (.tuple #[])/\aj w w':=by
 go_enter Tryz.func123,Tryz.ntmps123
 go_wp2;go_end0;exact⟨rfl,(Below.refl _ _).alloc (ay _) _⟩
theorem iD (w:an)(k:Int)(s:am)(p:Nat):
  Calls Tryz.prog 123 #[.bool true,.agg #[aa k,ae s,aa p]] w fun e w'=>e=da 3 p/\aj w w':=by
 go_enter Tryz.func123,Tryz.ntmps123
 go_wp2_with fail
 refine(Ed _ _ _).mono ?_;rintro e w2 ⟨rfl,rfl⟩;go_wp2;exact⟨rfl,rfl,(Below.refl _ _).alloc (ay _) _⟩
end
end Go.Proofs.YtfebdimolnobaaaGreatDoor
