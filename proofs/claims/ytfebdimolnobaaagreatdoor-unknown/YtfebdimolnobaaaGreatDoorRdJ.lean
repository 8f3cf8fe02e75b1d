import Derived.Test.YtfebdimolnobaaaGreatDoorRdC
import Derived.Maps.OwnSet
import Derived.Maps.OwnOps
import Derived.Shelf.Pu.ParseUintPublic10
import Derived.BigQuiet
import Derived.Shelf.Unicode.ValidAny
import Derived.Shelf.SlSortCmp.WholeK
import Derived.Test.YtfebdimolnobaaaGreatDoorRows
import Derived.Deep.Strs
import Derived.ProofKit
set_option maxRecDepth 100000
set_option maxHeartbeats 8000000
set_option linter.all false
namespace Go.Proofs.YtfebdimolnobaaaGreatDoor
open Go.RowKit Go.Proofs.Tryz
section
attribute [local go_sem] jQ jR jS
open Vo
def iA (w:aw){c:Nat}(b:Nat)(hne:c≠b):∀(vs:ay) (o:Nat),(w.setCells c o vs).heap[b]?=w.heap[b]?
 | [],o=>rfl
 |v::vs,o=>by
  have:=iA (w.setCell (aj c o) v) b hne vs (o+1);rw[dW,dO hne]at this;simpa [World.setCells]using this
def fL.appended {w w5:aw}{v:Value}{gg H b1 off:Nat}{u:Value}{cs:ay}{ps:List fI}(hg:w.grownBy w5 v.ownBlock)(VG:v.ownBlock=some gg\/gg=H)(hH:w.heap.size=H)
  (h:fL w (λb=>b1<b/\some b≠v.ownBlock) cs ps) {cap n:Nat}:fL (w5.setCell (aj b1 off) u) (λb=>b1<b/\some b≠(Value.slice (some (aj gg 0)) n cap).ownBlock) cs ps:=by
 have h2:fL w (λb=>b1<b/\some b≠v.ownBlock/\some b≠some gg) cs ps:=h.V λb hb VC=>⟨hb.1,hb.2,λe=>by
  grind⟩
 have h3:fL (w5.setCell (aj b1 off) u) (λb=>b1<b/\some b≠v.ownBlock/\some b≠some gg) cs ps:=fL.O (w:=w) (λb hb VC=>by
  rw[dW,dO Vc]
  exact hg.block b VC hb.2.1) h2
 exact h3.V λb hb _=>⟨hb.1,hb.2.2⟩
def Uw (w:aw)(rb wb:Nat)(ws:List W)(i:Nat)(R:Rd w rb wb ws i):
  Calls prog 177 #[ah rb] w (rE w rb wb ws (ia ws i) (p6 w)):=by
 have⟨i0,VJ,VK,VL,VM⟩:=info_parts Tryz.info208;have A0:jr w.heap.size rb w (w.U5 #[.bool false,aa 0,U7,aa 0,ai,ai] 152) i:=jr.oB R.next (Vb w _);have R0:=R.alloc (am #[.bool false,aa 0,U7,aa 0,ai,ai] 152);have K0:=dX.new w #[.bool false,aa 0,U7,aa 0,ai,ai] 152;have n1:¬w.heap.size=rb:=by have:=R.blocks;omega
 have n3:¬rb=w.heap.size:=Vc;have z0:w.heap.size<(w.alloc (am #[.bool false,aa 0,U7,aa 0,ai,ai] 152)).heap.size:=Vd;generalize hr:ia ws i=r;have HR:Hid (ia ws i=r):=hr;clear hr;go_in
 go_wp2_with fail;refine(Fh _ rb wb ws i _ [109,101,115,115,97,103,101] R0 Vg Vf).V ?_
 cases h1:gu ws [109,101,115,115,97,103,101] i with
 |error p=>
  rintro e w1 ⟨rfl,j,A⟩;obtain rfl:r= .error p:=by rw[<-HR.o,ia,gi h1]
  unfold dY;go_wp2
  exact⟨rfl,rfl,j,A0.J A Vc⟩
 |ok q=>
  obtain⟨_,i1⟩:=q;rintro e w1 ⟨rfl,R1,A⟩;have z1:w.heap.size<w1.heap.size:=aI z0 A.size;have K1:=K0.adv_ A z0 n1;have A1:=A0.J A Vc;clear A R0 K0 A0 z0;go_wp2_with fail;refine(R9 _ rb wb ws i1 1 R1 Vf).V ?_
  cases h2:kM ws 1 i1 with
  |error p=>
   rintro e w2 ⟨rfl,j,A⟩;obtain rfl:r= .error p:=by rw[<-HR.o,ia,eK h1,gi h2]
   unfold dY;go_wp2
   exact⟨rfl,rfl,j,A1.J A Vc⟩
  |ok q=>
   obtain⟨x,i2⟩:=q;rintro e w2 ⟨rfl,R2,A⟩;have z2:w.heap.size<w2.heap.size:=aI z1 A.size;have K2:=(K1.adv_ A z1 n1).alloc (am #[.bool false,aa (dV x.1),ag x.1,aa x.2,ai,ai] 152);have J2:=dX.new w2 #[.bool false,aa (dV x.1),ag x.1,aa x.2,ai,ai] 152;have A2:=(A1.J A Vc).alloc (aE _) (am #[.bool false,aa (dV x.1),ag x.1,aa x.2,ai,ai] 152);have R3:=R2.alloc (am #[.bool false,aa (dV x.1),ag x.1,aa x.2,ai,ai] 152);have z3:w2.heap.size<(w2.alloc (am #[.bool false,aa (dV x.1),ag x.1,aa x.2,ai,ai] 152)).heap.size:=Vd;have n5:¬w2.heap.size=rb:=by have:=R.blocks;omega
   have n6:¬w2.heap.size=w.heap.size:=Vc;have n7:rb<w2.heap.size:=by have:=R.blocks;omega
   clear A R1 K1 A1 z1;go_wp2_with fail;refine(Fh _ rb wb ws i2 _ [123] R3 Vg Vf).V ?_
   cases h3:gu ws [123] i2 with
   |error p=>
    rintro e w3 ⟨rfl,j,A⟩;obtain rfl:r= .error p:=by rw[<-HR.o,ia,eK h1,eK h2,gi h3]
    unfold dY;go_wp2
    exact⟨rfl,rfl,j,A2.J A Vc⟩
   |ok q=>
    obtain⟨_,i3⟩:=q;rintro e w3 ⟨rfl,R4,A⟩;have z4:w2.heap.size<w3.heap.size:=aI z3 A.size;have K4:=K2.adv_ A Vc n1;have J4:=J2.adv_ A z3 n5;have A4:=A2.J A Vc;clear A R2 R3 K2 J2 A2 z3;obtain⟨M,HM⟩:∃M,Hid (gI (gk ws [125]) (kA ws) ws.length i3=M):=⟨_,rfl⟩;have VE:Hid ((gM M λl i=>gM (gu ws [125] i) λ_ i=> .ok (⟨false,x,l,[]⟩,i))=r):=(by have:=HR.o;rw[ia,eK h1,eK h2,eK h3,HM.o]at this;exact this);clear HR h1 h2 h3;go_wp2;go_loopw [13] (λ_ wr=>∃(n k:Nat) (ps:List fI) (pa:aC) (pn pc:Nat) (Vs:ay),ps.length<=k/\ws.length-k<=n/\Hid (nO ps (gI (gk ws [125]) (kA ws) n k)=M)/\Rd wr rb wb ws k/\jr w.heap.size rb w wr k/\dX wr w.heap.size #[.bool false,aa 0,U7,aa 0,ai,ai] 152/\dX wr w2.heap.size #[.bool false,aa (dV x.1),ag x.1,aa x.2,.slice pa pn pc,ai] 152/\wr.ownsRow (w2.heap.size+1) 208 4 (.slice pa pn pc) ps.length Vs/\fL wr (λb=>w2.heap.size<b/\some b≠(Value.slice pa pn pc).ownBlock) Vs ps/\w2.heap.size<wr.heap.size) (λ_ wr=>ws.length-js rb wr)
    case atStart=>
     refine⟨ws.length,i3,[],none,0,0,[],Vd,Vc,?_,R4,A4,K4,J4,br _ _ _ _,rfl,z4⟩;rw[<-HM.o];unfold Hid nO gM;cases gI (gk ws [125]) (kA ws) ws.length i3<;>rfl
    case round=>
     clear J4 R4 K4 A4 z4 HM;obtain⟨n,k,ps,pa,pn,pc,Vs,hfl,hn,HP,RR,AA,KK,J,Vt,Vz,hz⟩:=hrel;have hk:=RR.lt;have hfew:=RR.few;have HN:Hid (js rb wr=k):=RR.nextOf;have⟨y,hy⟩:=RR.word;cases hs:(y.1.toList== [125])
     .have Vy:gk ws [125] k=false:=by unfold gk;grind
      have HY:Hid (ws[k]?=some y):=hy;clear hy;go_wp2_with fail;refine(NC _ rb wb ws k y _ RR HY.o).V ?_;rintro e w3 ⟨rfl,Vr⟩;rw[show(ByteArray.mk #[125]).toList= [125]from by decide+kernel];have R3:=RR.G Vr RR.blocks.1 RR.blocks.2;have A3:=AA.G Vr AA.size;have K3:=KK.G Vr KK.lt;have J3:=J.G Vr J.lt;have Vp:w3.ownsRow (w2.heap.size+1) 208 4 (.slice pa pn pc) ps.length Vs:=eX Vr Vt;have Vu:=Vz.O (λb _ hb=>Vr.block b hb);have VF:w2.heap.size<w3.heap.size:=aI hz Vr.size;have HO:Hid (some w2.heap.size≠(Value.slice pa pn pc).ownBlock):=(by intro e;have:=(Vp.lt _ e.sy).1;omega);clear RR AA KK J Vt Vz hz Vr;go_wp2_with fail;have j3:=J3.cell 4
      cases h4:kA ws k with
      |error p=>
       obtain rfl:r= .error p:=(by rw[<-VE.o,<-HP.o,qP Vy Vc h4];rfl);refine wp_region_held_drew (S:=λw'=>w'.cell? (aj w2.heap.size 4)=some (.slice pa pn pc)) Vi (by simpa using j3) (λhHeld=> ?_);refine ie 0 (.pointer (some (aj w2.heap.size 4))) rfl Vh (λ_ _ _ h=>h) (Or.inl ⟨Vi,λw VD=>Vi⟩) hHeld ?_;refine ie 1 (.slice pa pn pc) rfl Vh (λ_ _ _ h=>h) (Or.inl ⟨Vi,λw VD=>by dsimp only at VD;go_simp⟩) hHeld ?_;refine ie 2 (ah rb) rfl Vh (λ_ _ _ h=>h) (Or.inl ⟨Vi,λw VD=>Vi⟩) hHeld ?_;simp only[Act.put,U6];refine wpAnyH_ready (rs:= [3]) Vh Vd (AllReadyH.cons rfl (λK hK=> ?_) AllReadyH.nil);clear hK;go_simp;refine(Uc _ rb wb ws k R3.drew).V ?_;rw[h4];rintro e w4 ⟨rfl,j,A⟩
       exact⟨rfl,rfl,j,A3.drew.J A (by have:=A3.size;simp;omega)⟩
      |ok q=>
       obtain⟨p,k1⟩:=q;have hk1:k<k1:=Dn _ _ _ _ h4;have VH:Hid (nO (ps++ [p]) (gI (gk ws [125]) (kA ws) (n-1) k1)=M):=(by rw[<-HP.o,sK ps Vy Vc h4];rfl);have J:=J3;have RR:=R3;go_region_law (first|(refine step_append_lies _ Vi _ _ _ Vi (w2.heap.size+1) 208 i0 _ 4 56 underlying149 VJ VK VL VM rfl Vc (.slice pa pn pc) ps.length Vs Vi ((jU A (aE _) Vc (pd Vp)).alloc _) (aj w4.heap.size 0) 1 1 [_,_,_,_] Vi Vi (bz (t:=208) (fr:=(0,0)) (heap_alloc_new w4 _)) Vk Vc Vj Vc (by have:=A.size;simp at this⊢;omega) (w4.heap.size+1) Vd ?_;intro gg cap w5 Vw Vq VG VC;have⟨x1,x2⟩:=(((J.drew.adv_ A Ve n5).alloc _).grown Vq HO.o).I)|(go_simp;go_at_call 259;refine(Uc _ rb wb ws k RR.drew).V ?_;rw[h4];rintro e w4 ⟨⟨fa,fn,fc,rfl,Vx⟩,R5,A⟩;have⟨y1,y2⟩:=(J.drew.adv_ A Ve n5).I;have⟨y3,y4,y5,y6⟩:=gT (w:=w4) (b:=w2.heap.size) (by have:=A.size;simp at this;omega)))
       all_goals
        go_wp2;go_roundw
        case rel=>
         go_light;have hz4:w3.heap.size<=w4.heap.size:=by have:=A.size;simpa using this
         have VI:=Vq.size;have A6:=((((A3.drew.J A (by have:=A3.size;simp;omega)).alloc (aE _) _).grown Vq (aE _) (λj hj=>by have:=(Vp.lt j hj).1;omega))).setCell (a:=(aj w2.heap.size 4)) (by grind) (U9 gg (ps.length+1) cap);refine⟨n-1,k1,ps++ [p],some (aj gg 0),ps.length+1,cap,Vs++ [aa (mU p.oneof),ag (jK p.oneof),aa (nS p.oneof),.slice fa fn fc],by grind,Vc,VH,A6.rd R R.blocks.1 R.blocks.2 R5.lt,A6,?_,?_,?_,?_,?_⟩;rotate_left 2;.have:=ownsRow_setCell_below Vw (a:=(aj w2.heap.size 4)) Vd (U9 gg (ps.length+1) cap);grind
         rotate_left 2;.exact(((K3.drew.adv_ A Ve n1).alloc _).grown Vq (λe=>by have:=(Vp.lt _ e.sy).1;omega)).other 4 _ n6
         .exact(((J3.drew.adv_ A Ve n5).alloc _).grown Vq HO.o).set 4 _
         .refine fL.appended Vq VG Vd ?_;refine fL.snoc ?_ ?_
          .refine((eO.of (Vx.alloc _)).V λb hb VA=>⟨aI VF (by simpa using hb),λe=> ?_⟩);have:=(Vp.lt b e.sy).2;have:w3.heap.size<=b:=by simpa using hb
           omega
          .refine fL.O (w:=w3) (λb hb VA=> ?_) Vu;rw[Below.l _ _ _ Vc,Below.block A b (by simpa using VA),De,dW,dO Vc];rfl
         .simp[World.setCell]at VI⊢;omega
        case measure=>
         go_light;have A6:=((((A3.drew.J A (by have:=A3.size;simp;omega)).alloc (aE _) _).grown Vq (aE _) (λj hj=>by have:=(Vp.lt j hj).1;omega))).setCell (a:=(aj w2.heap.size 4)) (by grind) (U9 gg (ps.length+1) cap);have R6:=A6.rd R R.blocks.1 R.blocks.2 R5.lt;have h6:=R6.lt;rw[R6.nextOf,HN.o];omega
     .have Vy:gk ws [125] k=true:=by unfold gk;grind
      have h5:gu ws [125] k= .ok ((),k+1):=by unfold gu;grind
      have HY:Hid (ws[k]?=some y):=hy;clear hy;obtain rfl:r= .ok (⟨false,x,ps,[]⟩,k+1):=(by rw[<-VE.o,<-HP.o,o9 Vy];simp only[nO,gM,h5,bW]);go_wp2_with fail;refine(NC _ rb wb ws k y _ RR HY.o).V ?_;rintro e w3 ⟨rfl,Vr⟩;rw[show(ByteArray.mk #[125]).toList= [125]from by decide+kernel];have R3:=RR.G Vr RR.blocks.1 RR.blocks.2;have A3:=AA.G Vr AA.size;have K3:=KK.G Vr KK.lt;have J3:=J.G Vr J.lt;have Vp:w3.ownsRow (w2.heap.size+1) 208 4 (.slice pa pn pc) ps.length Vs:=eX Vr Vt;have Vu:=Vz.O (λb _ hb=>Vr.block b hb);have VF:w2.heap.size<w3.heap.size:=aI hz Vr.size;clear RR AA KK J Vt Vz hz Vr;go_wp2_with fail;refine(Fh _ rb wb ws k _ [125] R3 Vg Vf).V ?_;rw[h5];rintro e w4 ⟨rfl,R4,A⟩;have K4:=K3.adv_ A Vc n1;have J4:=J3.adv_ A Vc n5;have A4:=A3.J A A3.size;have Vv:w4.ownsRow (w2.heap.size+1) 208 4 (.slice pa pn pc) ps.length Vs:=jU A (aE _) Vc Vp
      have VB:fL w4 (λb=>w2.heap.size<b/\some b≠(Value.slice pa pn pc).ownBlock) Vs ps:=fL.O (w:=w3) (λb hb VA=>by
       rw[Below.block A b VA,De,dW,dO Vc]) Vu
      have⟨k1,k2⟩:=K4.I;have⟨j1,j2⟩:=J4.I;go_wp2;have A9:=A4.sets (b:=w.heap.size) (aE _) [.bool false,aa (dV x.1),ag x.1,aa x.2,.slice pa pn pc,ai] 0;have K9:=K4.sets_all [.bool false,aa (dV x.1),ag x.1,aa x.2,.slice pa pn pc,ai] rfl;refine dR (el results177 _ _ rfl K9 underlying152 Vi) rfl ⟨⟨pa,pn,pc,none,0,0,rfl,Vs,?_,?_,?_⟩,?_,A9⟩;.exact(eO.of (j9 (lo:=w.heap.size) Vv (b:=w.heap.size) (Nat.lt_succ_of_lt z2) (Nat.le_succ_of_le (cq z2)) [.bool false,aa (dV x.1),ag x.1,aa x.2,.slice pa pn pc,ai] 0))
      .have h9:=(fL.O (w:=w4) (w':=w4.setCells w.heap.size 0 [.bool false,aa (dV x.1),ag x.1,aa x.2,.slice pa pn pc,ai]) (λb hb _=>iA _ _ Vc _ _) VB);exact h9.V (λb hb _=>cq (Nat.lt_trans z2 hb.1))
      .exact⟨br _ _ _ _,λb hb=>by cases hb⟩
      .exact A9.rd R R.blocks.1 R.blocks.2 R4.lt
def Ux (w:aw)(rb wb:Nat)(ws:List W)(i:Nat)(R:Rd w rb wb ws i):
  Calls prog 176 #[ah rb] w (rE w rb wb ws (lV ws i) (p6 w)):=by
 have⟨i0,VA,VB,VC,VD⟩:=info_parts Tryz.info302;have A0:jr w.heap.size rb w (w.U5 #[.bool false,aa 0,U7,aa 0,ai,ai] 152) i:=jr.oB R.next (Vb w _);have R0:=R.alloc (am #[.bool false,aa 0,U7,aa 0,ai,ai] 152);have K0:=dX.new w #[.bool false,aa 0,U7,aa 0,ai,ai] 152;have n1:¬w.heap.size=rb:=by have:=R.blocks;omega
 have n3:¬rb=w.heap.size:=Vc;have z0:w.heap.size<(w.alloc (am #[.bool false,aa 0,U7,aa 0,ai,ai] 152)).heap.size:=Vd;generalize hr:lV ws i=r;have HR:Hid (lV ws i=r):=hr;clear hr;go_in
 go_wp2_with fail;refine(Fh _ rb wb ws i _ [101,110,117,109] R0 Vg Vf).V ?_
 cases h1:gu ws [101,110,117,109] i with
 |error p=>
  rintro e w1 ⟨rfl,j,A⟩;obtain rfl:r= .error p:=by rw[<-HR.o,lV,gi h1]
  unfold dY;go_wp2
  exact⟨rfl,rfl,j,A0.J A Vc⟩
 |ok q=>
  obtain⟨_,i1⟩:=q;rintro e w1 ⟨rfl,R1,A⟩;have z1:w.heap.size<w1.heap.size:=aI z0 A.size;have K1:=K0.adv_ A z0 n1;have A1:=A0.J A Vc;clear A R0 K0 A0 z0;go_wp2_with fail;refine(R9 _ rb wb ws i1 1 R1 Vf).V ?_
  cases h2:kM ws 1 i1 with
  |error p=>
   rintro e w2 ⟨rfl,j,A⟩;obtain rfl:r= .error p:=by rw[<-HR.o,lV,eK h1,gi h2]
   unfold dY;go_wp2
   exact⟨rfl,rfl,j,A1.J A Vc⟩
  |ok q=>
   obtain⟨x,i2⟩:=q;rintro e w2 ⟨rfl,R2,A⟩;have z2:w.heap.size<w2.heap.size:=aI z1 A.size;have K2:=(K1.adv_ A z1 n1).alloc (am #[.bool true,aa (dV x.1),ag x.1,aa x.2,ai,ai] 152);have J2:=dX.new w2 #[.bool true,aa (dV x.1),ag x.1,aa x.2,ai,ai] 152;have A2:=(A1.J A Vc).alloc (aE _) (am #[.bool true,aa (dV x.1),ag x.1,aa x.2,ai,ai] 152);have R3:=R2.alloc (am #[.bool true,aa (dV x.1),ag x.1,aa x.2,ai,ai] 152);have z3:w2.heap.size<(w2.alloc (am #[.bool true,aa (dV x.1),ag x.1,aa x.2,ai,ai] 152)).heap.size:=Vd;have n5:¬w2.heap.size=rb:=by have:=R.blocks;omega
   have n6:¬w2.heap.size=w.heap.size:=Vc;have n7:rb<w2.heap.size:=by have:=R.blocks;omega
   clear A R1 K1 A1 z1;go_wp2_with fail;refine(Fh _ rb wb ws i2 _ [123] R3 Vg Vf).V ?_
   cases h3:gu ws [123] i2 with
   |error p=>
    rintro e w3 ⟨rfl,j,A⟩;obtain rfl:r= .error p:=by rw[<-HR.o,lV,eK h1,eK h2,gi h3]
    unfold dY;go_wp2
    exact⟨rfl,rfl,j,A2.J A Vc⟩
   |ok q=>
    obtain⟨_,i3⟩:=q;rintro e w3 ⟨rfl,R4,A⟩;have z4:w2.heap.size<w3.heap.size:=aI z3 A.size;have K4:=K2.adv_ A Vc n1;have J4:=J2.adv_ A z3 n5;have A4:=A2.J A Vc;clear A R2 R3 K2 J2 A2 z3;obtain⟨M,HM⟩:∃M,Hid (gI (gk ws [125]) (kW ws) ws.length i3=M):=⟨_,rfl⟩;have Vw:Hid ((gM M λl i=>gM (gu ws [125] i) λ_ i=> .ok (⟨true,x,[],l⟩,i))=r):=(by have:=HR.o;rw[lV,eK h1,eK h2,eK h3,HM.o]at this;exact this);clear HR h1 h2 h3;go_wp2;go_loopw [15] (λ_ wr=>∃(n k:Nat) (vs:List (W×W)) (va:aC) (vn vc:Nat),vs.length<=k/\ws.length-k<=n/\Hid (nO vs (gI (gk ws [125]) (kW ws) n k)=M)/\Rd wr rb wb ws k/\jr w.heap.size rb w wr k/\dX wr w.heap.size #[.bool false,aa 0,U7,aa 0,ai,ai] 152/\dX wr w2.heap.size #[.bool true,aa (dV x.1),ag x.1,aa x.2,ai,.slice va vn vc] 152/\wr.ownsRow (w2.heap.size+1) 302 6 (.slice va vn vc) vs.length (vs.flatMap Fd)/\w2.heap.size<wr.heap.size) (λ_ wr=>ws.length-js rb wr)
    case atStart=>
     refine⟨ws.length,i3,[],none,0,0,Vd,Vc,?_,R4,A4,K4,J4,br _ _ _ _,z4⟩;rw[<-HM.o];unfold Hid nO gM;cases gI (gk ws [125]) (kW ws) ws.length i3<;>rfl
    case round=>
     clear J4 R4 K4 A4 z4 HM;obtain⟨n,k,vs,va,vn,vc,hfl,hn,HP,RR,AA,KK,J,Vt,hz⟩:=hrel;have hk:=RR.lt;have hfew:=RR.few;have HN:Hid (js rb wr=k):=RR.nextOf;have⟨y,hy⟩:=RR.word;cases hs:(y.1.toList== [125])
     .have Vv:gk ws [125] k=false:=by unfold gk;grind
      have HY:Hid (ws[k]?=some y):=hy;clear hy;go_wp2_with fail;refine(NC _ rb wb ws k y _ RR HY.o).V ?_;rintro e w3 ⟨rfl,Vr⟩;rw[show(ByteArray.mk #[125]).toList= [125]from by decide+kernel];have R3:=RR.G Vr RR.blocks.1 RR.blocks.2;have A3:=AA.G Vr AA.size;have K3:=KK.G Vr KK.lt;have J3:=J.G Vr J.lt;have Vp:w3.ownsRow (w2.heap.size+1) 302 6 (.slice va vn vc) vs.length (vs.flatMap Fd):=eX Vr Vt;have Vx:w2.heap.size<w3.heap.size:=aI hz Vr.size;have HO:Hid (some w2.heap.size≠(Value.slice va vn vc).ownBlock):=(by intro e;have:=(Vp.lt _ e.sy).1;omega);clear RR AA KK J Vt hz Vr;go_wp2_with fail;refine(Tr _ rb wb ws k R3).V ?_
      cases h4:kW ws k with
      |error p=>
       rintro e w4 ⟨rfl,j,A⟩;obtain rfl:r= .error p:=(by rw[<-Vw.o,<-HP.o,qP Vv Vc h4];rfl);unfold dY;go_wp2
       exact⟨rfl,rfl,j,A3.J A A3.size⟩
      |ok q=>
       obtain⟨q,k1⟩:=q;rintro e w4 ⟨rfl,R5,A⟩;have hk1:k<k1:=wy _ _ _ _ h4;have Vy:Hid (nO (vs++ [q]) (gI (gk ws [125]) (kW ws) (n-1) k1)=M):=(by rw[<-HP.o,sK vs Vv Vc h4];rfl);have hz4:w3.heap.size<=w4.heap.size:=A.size;have A4:=(((A3.J A A3.size).alloc (aE _) (am #[aa (dV q.1.1),ag q.1.1,aa q.1.2] 148)).alloc (aE _) (am #[aa (dV q.2.1),ag q.2.1,aa q.2.2] 148));have K4:=((K3.adv_ A Vc n1).alloc (am #[aa (dV q.1.1),ag q.1.1,aa q.1.2] 148)).alloc (am #[aa (dV q.2.1),ag q.2.1,aa q.2.2] 148);have J4:=((J3.adv_ A Vc n5).alloc (am #[aa (dV q.1.1),ag q.1.1,aa q.1.2] 148)).alloc (am #[aa (dV q.2.1),ag q.2.1,aa q.2.2] 148);have Vs:((w4.U5 #[aa (dV q.1.1),ag q.1.1,aa q.1.2] 148).U5 #[aa (dV q.2.1),ag q.2.1,aa q.2.2] 148).ownsRow (w2.heap.size+1) 302 6 (.slice va vn vc) vs.length (vs.flatMap Fd):=((jU A (aE _) Vc Vp).alloc _).alloc _;have HW:Hid (∀j u,[aa (dV q.1.1),ag q.1.1,aa q.1.2,aa (dV q.2.1),ag q.2.1,aa q.2.2][j]?=some u->(((w4.U5 #[aa (dV q.1.1),ag q.1.1,aa q.1.2] 148).U5 #[aa (dV q.2.1),ag q.2.1,aa q.2.2] 148).U5 #[aa (dV q.1.1),ag q.1.1,aa q.1.2,aa (dV q.2.1),ag q.2.1,aa q.2.2] 302).cell? (((aj (w4.heap.size+1+1) 0):Addr).add j)=some u):=(by have:=bz (cs:= #[aa (dV q.1.1),ag q.1.1,aa q.1.2,aa (dV q.2.1),ag q.2.1,aa q.2.2]) (t:=302) (fr:=(0,0)) (heap_alloc_new ((w4.U5 #[aa (dV q.1.1),ag q.1.1,aa q.1.2] 148).U5 #[aa (dV q.2.1),ag q.2.1,aa q.2.2] 148) (am #[aa (dV q.1.1),ag q.1.1,aa q.1.2,aa (dV q.2.1),ag q.2.1,aa q.2.2] 302));simp only[ci]at this;exact this);have⟨j1,j2⟩:=J4.I;have⟨m1,m2⟩:=(J4.alloc (am #[aa (dV q.1.1),ag q.1.1,aa q.1.2,aa (dV q.2.1),ag q.2.1,aa q.2.2] 302)).I;go_wp2_with (first|(at_builtin;refine wpList_append_lies _ rfl _ _ _ rfl (w2.heap.size+1) 302 i0 _ 6 64 underlying150 VA VB VC VD rfl Vc (.slice va vn vc) vs.length (vs.flatMap Fd) rfl (Vs.alloc _) (aj (w4.heap.size+1+1) 0) 1 1 [aa (dV q.1.1),ag q.1.1,aa q.1.2,aa (dV q.2.1),ag q.2.1,aa q.2.2] rfl rfl HW.o ?h1 ?hm ?h63 ?hby ?hba (w4.heap.size+1+1+1) ?hH ?_;rotate_right;intro gg cap w5 Vu Vq hat hlt;have⟨x1,x2⟩:=((J4.alloc _).grown Vq HO.o).I))
       case h1=>intro u hu;simp at hu;rcases hu with rfl|rfl|rfl|rfl|rfl|rfl<;>rfl
       case hm=>omega
       case h63=>unfold maxLen;omega
       case hby=>omega
       case hba=>simp;omega
       case hH=>simp
       have Vz:=Vq.size;have A6:=((A4.alloc (aE _) _).grown Vq (aE _) (λj hj=>by have:=(Vp.lt j hj).1;omega)).setCell (a:=(aj w2.heap.size 5)) (by grind) (U9 gg (vs.length+1) cap);have R6:=A6.rd R R.blocks.1 R.blocks.2 R5.lt;refine⟨⟨n-1,k1,vs++ [q],some (aj gg 0),vs.length+1,cap,by grind,Vc,Vy,R6,A6,?_,?_,?_,?_⟩,?_⟩;.exact((K4.alloc _).grown Vq (λe=>by have:=(Vp.lt _ e.sy).1;omega)).other 5 _ n6
       .exact((J4.alloc _).grown Vq HO.o).set 5 _
       .have:=ownsRow_setCell_below Vu (a:=(aj w2.heap.size 5)) Vd (U9 gg (vs.length+1) cap);simpa [Fd,xq]using this
       .simp[World.setCell]at Vz⊢;omega
       .have h6:=R6.lt;rw[R6.nextOf,HN.o];omega
     .have Vv:gk ws [125] k=true:=by unfold gk;grind
      have h5:gu ws [125] k= .ok ((),k+1):=by unfold gu;grind
      have HY:Hid (ws[k]?=some y):=hy;clear hy;obtain rfl:r= .ok (⟨true,x,[],vs⟩,k+1):=(by rw[<-Vw.o,<-HP.o,o9 Vv];simp only[nO,gM,h5,bW]);go_wp2_with fail;refine(NC _ rb wb ws k y _ RR HY.o).V ?_;rintro e w3 ⟨rfl,Vr⟩;rw[show(ByteArray.mk #[125]).toList= [125]from by decide+kernel];have R3:=RR.G Vr RR.blocks.1 RR.blocks.2;have A3:=AA.G Vr AA.size;have K3:=KK.G Vr KK.lt;have J3:=J.G Vr J.lt;have Vp:w3.ownsRow (w2.heap.size+1) 302 6 (.slice va vn vc) vs.length (vs.flatMap Fd):=eX Vr Vt;have Vx:w2.heap.size<w3.heap.size:=aI hz Vr.size;clear RR AA KK J Vt hz Vr;go_wp2_with fail;refine(Fh _ rb wb ws k _ [125] R3 Vg Vf).V ?_;rw[h5];rintro e w4 ⟨rfl,R4,A⟩;have K4:=K3.adv_ A Vc n1;have J4:=J3.adv_ A Vc n5;have A4:=A3.J A A3.size;have Vs:w4.ownsRow (w2.heap.size+1) 302 6 (.slice va vn vc) vs.length (vs.flatMap Fd):=jU A (aE _) Vc Vp;have⟨k1,k2⟩:=K4.I;have⟨j1,j2⟩:=J4.I;go_wp2;have A9:=A4.sets (b:=w.heap.size) (aE _) [.bool true,aa (dV x.1),ag x.1,aa x.2,ai,.slice va vn vc] 0;have K9:=K4.sets_all [.bool true,aa (dV x.1),ag x.1,aa x.2,ai,.slice va vn vc] rfl;refine dR (el results176 _ _ rfl K9 underlying152 Vi) rfl ⟨⟨none,0,0,va,vn,vc,rfl,[],?_,?_,?_⟩,?_,A9⟩;.exact⟨br _ _ _ _,λb hb=>by cases hb⟩
      .rfl
      .exact(eO.of (j9 (lo:=w.heap.size) Vs (b:=w.heap.size) (Nat.lt_succ_of_lt z2) (Nat.le_succ_of_le (cq z2)) [.bool true,aa (dV x.1),ag x.1,aa x.2,ai,.slice va vn vc] 0))
      .exact A9.rd R R.blocks.1 R.blocks.2 R4.lt
def Y8 (g:Bool)(w:aw)(rb wb:Nat)(ws:List W)(i:Nat)(R:Rd w rb wb ws i)(t0:gk ws [101,110,117,109] i=g):
  Calls prog 119 #[ah rb] w (rE w rb wb ws (cond g (lV ws i) (ia ws i)) (p6 w)):=by
 have⟨x,hx⟩:=R.word;have HX:Hid (ws[i]?=some x):=hx;rw[xt _ hx]at t0;have A0:jr w.heap.size rb w (w.U5 #[.bool false,aa 0,U7,aa 0,ai,ai] 152) i:=jr.oB R.next (Vb w _);have R0:=R.alloc (am #[.bool false,aa 0,U7,aa 0,ai,ai] 152);have K0:=dX.new w #[.bool false,aa 0,U7,aa 0,ai,ai] 152;have n1:¬w.heap.size=rb:=by have:=R.blocks;omega
 have z0:w.heap.size<(w.alloc (am #[.bool false,aa 0,U7,aa 0,ai,ai] 152)).heap.size:=Vd;generalize hr:cond g (lV ws i) (ia ws i)=r;obtain⟨z,HZ⟩:∃z,Hid (r=z):=⟨_,rfl⟩;have HR:Hid (cond g (lV ws i) (ia ws i)=z):=hr.J HZ.o;clear hr hx;cases g
 all_goals
  go_in
  go_wp2_with fail;refine(NC _ rb wb ws i x _ R0 HX.o).V ?_;rintro e w1 ⟨rfl,Vp⟩;rw[show(ByteArray.mk #[101,110,117,109]).toList= [101,110,117,109]from by decide+kernel];have R1:=R0.G Vp R0.blocks.1 R0.blocks.2;have A1:=A0.G Vp (cq z0);have K1:=K0.G Vp z0;have z1:w.heap.size<w1.heap.size:=aI z0 Vp.size;clear R0 A0 K0 z0 Vp;go_wp2_with fail
  first
   |(refine(Uw _ rb wb ws i R1).V ?_;rw[show ia ws i=z from HR.o])
   |(refine(Ux _ rb wb ws i R1).V ?_;rw[show lV ws i=z from HR.o])
  cases z with
  |error p=>
   rintro e w2 ⟨rfl,j,A⟩;obtain rfl:r= .error p:=HZ.o;unfold dY;go_wp2
   exact⟨rfl,rfl,j,A1.J A Vc⟩
  |ok q=>
   obtain⟨b,i1⟩:=q;rintro e w2 ⟨⟨pa,pn,pc,va,vn,vc,rfl,hb⟩,R2,A⟩;obtain rfl:r= .ok (b,i1):=HZ.o;have K9:=K1.adv_ A z1 n1;have A9:=A1.J A Vc;have⟨k1,k2⟩:=K9.I;go_wp2;have Vq:=A9.sets (b:=w.heap.size) (aE _) [.bool b.enum,aa (dV b.name.1),ag b.name.1,aa b.name.2,.slice pa pn pc,.slice va vn vc] 0;have Vr:=K9.sets_all [.bool b.enum,aa (dV b.name.1),ag b.name.1,aa b.name.2,.slice pa pn pc,.slice va vn vc] rfl;refine dR (el results119 _ _ rfl Vr underlying152 Vh) rfl ⟨⟨pa,pn,pc,va,vn,vc,rfl,?_⟩,?_,Vq⟩;.have h9:=(ka.O (w:=w2) (w':=w2.setCells w.heap.size 0 [.bool b.enum,aa (dV b.name.1),ag b.name.1,aa b.name.2,.slice pa pn pc,.slice va vn vc]) (λc hc _=>iA _ _ (by have:w1.heap.size<=c:=hc;omega) _ _) hb);exact h9.V (λc hc _=>by have:w1.heap.size<=c:=hc;omega)
   .exact Vq.rd R R.blocks.1 R.blocks.2 R2.lt
def Ud (w:aw)(rb wb:Nat)(ws:List W)(i:Nat)(R:Rd w rb wb ws i):
  U8 119 #[ah rb] w (rE w rb wb ws (jT ws i) (p6 w)):=by
 unfold jT;cases t0:gk ws [101,110,117,109] i;all_goals exact Y8 _ w rb wb ws i R t0
def IK (ws:List W)(i:Nat):On i (jT ws i):=by
 intro a j h;unfold jT at h;split at h;.unfold lV at h;have⟨_,i1,h1,h⟩:=d6 h;have⟨_,i2,h2,h⟩:=d6 h;have⟨_,i3,h3,h⟩:=d6 h;have⟨_,i4,h4,h⟩:=d6 h;have⟨_,i5,h5,h⟩:=d6 h;have:=(fC _ _ _ _ _ h1).1;have:=(iQ _ _ _ _ _ h2).1;have:=(fC _ _ _ _ _ h3).1;have:=sJ _ _ (wy ws) _ _ _ _ h4;have:=(fC _ _ _ _ _ h5).1;simp at h;omega
 .unfold ia at h;have⟨_,i1,h1,h⟩:=d6 h;have⟨_,i2,h2,h⟩:=d6 h;have⟨_,i3,h3,h⟩:=d6 h;have⟨_,i4,h4,h⟩:=d6 h;have⟨_,i5,h5,h⟩:=d6 h;have:=(fC _ _ _ _ _ h1).1;have:=(iQ _ _ _ _ _ h2).1;have:=(fC _ _ _ _ _ h3).1;have:=sJ _ _ (Dn ws) _ _ _ _ h4;have:=(fC _ _ _ _ _ h5).1;simp at h;omega
def ft.appended {w w5:aw}{v:Value}{gg H b1 off:Nat}{u:Value}{cs:ay}{ps:List d7}(hg:w.grownBy w5 v.ownBlock)(Vv:v.ownBlock=some gg\/gg=H)(hH:w.heap.size=H)
  (h:ft w (λb=>b1<b/\some b≠v.ownBlock) cs ps) {cap n:Nat}:ft (w5.setCell (aj b1 off) u) (λb=>b1<b/\some b≠(Value.slice (some (aj gg 0)) n cap).ownBlock) cs ps:=by
 have h2:ft w (λb=>b1<b/\some b≠v.ownBlock/\some b≠some gg) cs ps:=h.V λb hb VB=>⟨hb.1,hb.2,λe=>by
  rcases Vv with Vv|Vv;.exact hb.2 (e.J Vv.sy)
  .have:=Option.some.inj e;omega⟩
 have h3:ft (w5.setCell (aj b1 off) u) (λb=>b1<b/\some b≠v.ownBlock/\some b≠some gg) cs ps:=ft.O (w:=w) (λb hb VB=>by
  rw[dW,dO (by have:=hb.1;omega)]
  exact hg.block b VB hb.2.1) h2
 exact h3.V λb hb _=>⟨hb.1,hb.2.2⟩
def Uy (w:aw)(rb wb:Nat)(ws:List W)(R:Rd w rb wb ws 0):
  Calls prog 70 #[ah rb] w (rE w rb wb ws (pZ ws) (NU w)):=by
 have⟨i0,VG,VH,VI,VJ⟩:=info_parts Tryz.info152;have A0:jr w.heap.size rb w ((w.alloc (am #[ai] 87)).alloc (am #[ai] 87)) 0:=jr.oB R.next ((Vb w _).alloc Vd _);have R0:=(R.alloc (am #[ai] 87)).alloc (am #[ai] 87);have K0:=(dX.new w #[ai] 87).alloc (am #[ai] 87);have J0:dX ((w.U5 #[ai] 87).U5 #[ai] 87) (w.heap.size+1) #[ai] 87:=(by have:=dX.new (w.U5 #[ai] 87) #[ai] 87;simpa using this);have n1:¬w.heap.size=rb:=by have:=R.blocks;omega
 have n5:¬w.heap.size+1=rb:=by have:=R.blocks;omega
 have n6:¬w.heap.size+1=w.heap.size:=Vc;have n7:rb<w.heap.size:=by have:=R.blocks;omega
 generalize hr:pZ ws=r;have HR:Hid (pZ ws=r):=hr;clear hr;go_in
 go_wp2;go_loopw [7] (λ_ wr=>∃(n k:Nat) (bs:List d7) (ta:aC) (tn tc:Nat) (Vt:ay),bs.length<=k/\ws.length-k<=n/\Hid (nO bs (gI (oC ws) (jT ws) n k)=r)/\Rd wr rb wb ws k/\jr w.heap.size rb w wr k/\dX wr w.heap.size #[ai] 87/\dX wr (w.heap.size+1) #[.slice ta tn tc] 87/\wr.ownsRow (w.heap.size+2) 152 6 (.slice ta tn tc) bs.length Vt/\ft wr (λb=>w.heap.size+1<b/\some b≠(Value.slice ta tn tc).ownBlock) Vt bs/\w.heap.size+1<wr.heap.size) (λ_ wr=>ws.length-js rb wr)
 case atStart=>
  refine⟨ws.length,0,[],none,0,0,[],Vd,Vc,?_,R0,A0,K0,J0,br _ _ _ _,rfl,Vd⟩;rw[<-HR.o];unfold Hid nO gM pZ;cases gI (oC ws) (jT ws) ws.length 0<;>rfl
 case round=>
  clear R0 A0 K0 J0 HR;obtain⟨n,k,bs,ta,tn,tc,Vt,hfl,hn,HP,RR,AA,KK,J,Vs,Vz,hz⟩:=hrel;have hk:=RR.lt;have hfew:=RR.few;have HN:Hid (js rb wr=k):=RR.nextOf;have⟨y,hy⟩:=RR.word;cases hs:(dV y.1==4)
  .have Vy:oC ws k=false:=by unfold oC;simp only[hy,hs]
   have VD:(dV y.1 !=4)=true:=by simpa [bne]using hs
   have HY:Hid (ws[k]?=some y):=hy;clear hy hs;go_wp2_with fail;refine(Ny _ rb wb ws k y RR HY.o).V ?_;rintro e w3 ⟨rfl,Vr⟩;have R3:=RR.G Vr RR.blocks.1 RR.blocks.2;have A3:=AA.G Vr AA.size;have K3:=KK.G Vr KK.lt;have J3:=J.G Vr J.lt;have Vp:w3.ownsRow (w.heap.size+2) 152 6 (.slice ta tn tc) bs.length Vt:=eX Vr Vs;have Vu:=Vz.O (λb _ hb=>Vr.block b hb);have hz3:w.heap.size+1<w3.heap.size:=aI hz Vr.size;have HO:Hid (some (w.heap.size+1)≠(Value.slice ta tn tc).ownBlock):=(by intro e;have:=(Vp.lt _ e.sy).1;omega);clear RR AA KK J Vs Vz hz Vr;go_wp2_with fail;have j3:=J3.cell 0
   cases h4:jT ws k with
   |error p=>
    obtain rfl:r= .error p:=(by rw[<-HP.o,qP Vy Vc h4];rfl);refine wp_region_held_drew (S:=λw'=>w'.cell? (aj (w.heap.size+1) 0)=some (.slice ta tn tc)) Vh (by simpa using j3) (λhHeld=> ?_);refine ie 0 (ah (w.heap.size+1)) rfl Vh (λ_ _ _ h=>h) (Or.inl ⟨Vi,λw Vw=>by dsimp only at Vw;go_simp⟩) hHeld ?_;refine ie 1 (.slice ta tn tc) rfl Vh (λ_ _ _ h=>h) (Or.inl ⟨Vi,λw Vw=>by dsimp only at Vw;go_simp⟩) hHeld ?_;refine ie 2 (ah rb) rfl Vh (λ_ _ _ h=>h) (Or.inl ⟨Vi,λw Vw=>by dsimp only at Vw;go_simp⟩) hHeld ?_;simp only[Act.put,U6];refine wpAnyH_ready (rs:= [3]) Vh Vd (AllReadyH.cons rfl (λK hK=> ?_) AllReadyH.nil);clear hK;go_simp;refine(Ud _ rb wb ws k R3.drew).V ?_;rw[h4];rintro e w4 ⟨rfl,j,A⟩
    exact⟨rfl,rfl,j,A3.drew.J A (by have:=A3.size;simp;omega)⟩
   |ok q=>
    obtain⟨b,k1⟩:=q;have hk1:k<k1:=IK _ _ _ _ h4;have VE:Hid (nO (bs++ [b]) (gI (oC ws) (jT ws) (n-1) k1)=r):=(by rw[<-HP.o,sK bs Vy Vc h4];exact rfl);have J:=J3;have RR:=R3;go_region_law (first|(refine step_append_lies _ Vi _ _ _ Vi (w.heap.size+2) 152 i0 _ 6 88 underlying85 VG VH VI VJ rfl Vc (.slice ta tn tc) bs.length Vt Vi ((jU A (aE _) Vc (pd Vp)).alloc _) (aj w4.heap.size 0) 1 1 [_,_,_,_,_,_] Vi Vi (bz (t:=152) (fr:=(0,0)) (heap_alloc_new w4 _)) Vk Vc Vj Vc (by have:=A.size;simp at this⊢;omega) (w4.heap.size+1) Vd ?_;intro gg cap w5 Vx Vq Vv VB;have⟨x1,x2⟩:=(((J.drew.adv_ A Ve n5).alloc _).grown Vq HO.o).I)|(go_simp;go_at_call 119;refine(Ud _ rb wb ws k RR.drew).V ?_;rw[h4];rintro e w4 ⟨⟨pa,pn,pc,va,vn,vc,rfl,VK⟩,R5,A⟩;have⟨y1,y2⟩:=(J.drew.adv_ A Ve n5).I;have⟨y3,y4,y5,y6⟩:=gT (w:=w4) (b:=w.heap.size+1) (by have:=A.size;simp at this;omega)))
    all_goals
     go_wp2;go_roundw
     case rel=>
      go_light;have hz4:w3.heap.size<=w4.heap.size:=by have:=A.size;simpa using this
      have VF:=Vq.size;have A6:=((((A3.drew.J A (by have:=A3.size;simp;omega)).alloc (aE _) _).grown Vq (aE _) (λj hj=>by have:=(Vp.lt j hj).1;omega))).setCell (a:=(aj (w.heap.size+1) 0)) Vd (U9 gg (bs.length+1) cap);refine⟨n-1,k1,bs++ [b],some (aj gg 0),bs.length+1,cap,Vt++ [.bool b.enum,aa (dV b.name.1),ag b.name.1,aa b.name.2,.slice pa pn pc,.slice va vn vc],Ve,Vc,VE,A6.rd R R.blocks.1 R.blocks.2 R5.lt,A6,?_,?_,?_,?_,?_⟩;.exact(((K3.drew.adv_ A Ve n1).alloc _).grown Vq (λe=>by have:=(Vp.lt _ e.sy).1;omega)).other 0 _ n6
      .exact(((J3.drew.adv_ A Ve n5).alloc _).grown Vq HO.o).set 0 _
      .have:=ownsRow_setCell_below Vx (a:=(aj (w.heap.size+1) 0)) Vd (U9 gg (bs.length+1) cap);simpa using this
      .refine ft.appended Vq Vv Vd ?_;refine ft.snoc ?_ ?_
       .have VA:ka (w4.U5 #[.bool b.enum,aa (dV b.name.1),ag b.name.1,aa b.name.2,.slice pa pn pc,.slice va vn vc] 152) (λx=>w3.drew.heap.size<=x) b (.slice pa pn pc) (.slice va vn vc):=VK.O (λc _ hc=>Below.l _ _ _ hc);refine VA.V λc hc VC=> ?_
        have hc3:w3.heap.size<=c:=by simpa using hc
        refine⟨Vc,λe=> ?_⟩;have:=(Vp.lt c e.sy).2;omega
       .refine ft.O (w:=w3) (λc hc VC=> ?_) Vu;rw[Below.l _ _ _ Vc,Below.block A c (by simpa using VC),De,dW,dO (by have:=hc.1;omega)];rfl
      .simp[World.setCell]at VF⊢;omega
     case measure=>
      go_light;have A6:=((((A3.drew.J A (by have:=A3.size;simp;omega)).alloc (aE _) _).grown Vq (aE _) (λj hj=>by have:=(Vp.lt j hj).1;omega))).setCell (a:=(aj (w.heap.size+1) 0)) Vd (U9 gg (bs.length+1) cap);have R6:=A6.rd R R.blocks.1 R.blocks.2 R5.lt;have h6:=R6.lt;rw[R6.nextOf,HN.o];omega
  .have Vy:oC ws k=true:=by unfold oC;simp only[hy,hs]
   have VD:(dV y.1 !=4)=false:=by simpa [bne]using hs
   have HY:Hid (ws[k]?=some y):=hy;clear hy hs;obtain rfl:r= .ok (bs,k):=(by rw[<-HP.o,o9 Vy];simp only[nO,gM,bW]);go_wp2_with fail;refine(Ny _ rb wb ws k y RR HY.o).V ?_;rintro e w3 ⟨rfl,Vr⟩;have R3:=RR.G Vr RR.blocks.1 RR.blocks.2;have A3:=AA.G Vr AA.size;have K3:=KK.G Vr KK.lt;have J3:=J.G Vr J.lt;have Vp:w3.ownsRow (w.heap.size+2) 152 6 (.slice ta tn tc) bs.length Vt:=eX Vr Vs;have Vu:=Vz.O (λb _ hb=>Vr.block b hb);clear RR AA KK J Vs Vz hz Vr;have⟨k1,k2⟩:=K3.I;have⟨j1,j2⟩:=J3.I;go_wp2;have A9:=A3.sets (b:=w.heap.size) (aE _) [.slice ta tn tc] 0;have K9:=K3.sets_all [.slice ta tn tc] rfl;refine dR (el results70 _ _ rfl K9 underlying87 Vh) rfl ⟨⟨ta,tn,tc,Vt,rfl,?_,?_⟩,?_,A9⟩;.exact(eO.of (j9 (lo:=w.heap.size) Vp (b:=w.heap.size) Vc Vc [.slice ta tn tc] 0))
   .have h9:=(ft.O (w:=w3) (w':=w3.setCells w.heap.size 0 [.slice ta tn tc]) (λb hb _=>iA _ _ (by have:=hb.1;omega) _ _) Vu);exact h9.V (λb hb _=>by have:=hb.1;omega)
   .exact A9.rd R R.blocks.1 R.blocks.2 R3.lt
end
section
open Go.Maps Go.ChangeMaps Go.WideMaps Go.WideElems
section
variable (w:aw) {n b:Nat} {l:aA} {bs:aB} {a w':aw}
attribute [local go_sem] jQ jR jS
theorem IL:Keyed prog 9:=string_keyed underlying9
theorem Sj:Keyed prog 53:=int_keyed underlying53
theorem GQ:(zeroValue 162).run prog w= .ok (.agg #[]) w:=Vh
def rF (s:au):Lit:= .string s.data.toList
def rG (n:Nat):Lit:= .int .u64 n
def fw (w:aw)(b:Nat)(l:aA):Prop:=w.ownsMap prog 9 (unitElem (H:=Unit)) b l.length (setOf (.agg []) (l.map rF))
def iB (w:aw)(b:Nat)(l:aB):Prop:=w.ownsMap prog 53 (unitElem (H:=Unit)) b l.length (setOf (.agg []) (l.map rG))
def fi (l:aA)(s:au):Bool:=l.any λx=>x.toList==s.toList
def Bp (l:aB)(n:Nat):Bool:=l.any λx=>x==n
theorem IM (s:au)(h:s.size<=maxLen):keyOf prog 9 (ag s)=some (rF s):=keyOf_string_mk underlying9 h
theorem Sk (n:Nat)(h:n<2^64):keyOf prog 53 (.int .u64 n)=some (rG n):=keyOf_int_mk underlying53 (WalkArith.wf_u64 Vc)
theorem Sl (l:aA)(s:au):Maps.has (setOf (H:=Unit) (.agg []) (l.map rF)) (rF s)=fi l s:=by
 rw[has_setOf _ _ _ (by intro x hx;obtain⟨y,_,rfl⟩:=aR.1 hx;exact trivial)];unfold fi;rw[List.any_map];congr 1;funext x;show(x.data.toList==s.data.toList)=_;rw[ByteArray.toList_eq,ByteArray.toList_eq]
theorem Sm (l:aB)(n:Nat):Maps.has (setOf (H:=Unit) (.agg []) (l.map rG)) (rG n)=Bp l n:=by
 rw[has_setOf _ _ _ (by intro x hx;obtain⟨y,_,rfl⟩:=aR.1 hx;exact trivial)];unfold Bp;rw[List.any_map];congr 1;funext x;show decide (IntKind.u64=IntKind.u64/\(x:Int)=(n:Int))=_;rw[cy];simp;omega
structure ec (bs:aB)(w w':aw):Prop where
 os:w'.os=w.os
 tape:w'.tape=w.tape
 output:w'.output=w.output
 size:w.heap.size<=w'.heap.size
 block:∀k,k<w.heap.size->k∉bs->w'.heap[k]?=w.heap[k]?
theorem ec.refl (bs:aB)(w:aw):ec bs w w:=⟨rfl,rfl,rfl,aE _,λ_ _ _=>rfl⟩
theorem ec.J {b c:aw}(h:ec bs a b)(k:ec bs b c):ec bs a c:=
 ⟨k.os.J h.os,k.tape.J h.tape,k.output.J h.output,aM h.size k.size,λi hi hn=>(k.block i (aI hi h.size) hn).J (h.block i hi hn)⟩
theorem ec.V {cs:aB}{b:aw}(h:ec bs a b)(hs:∀x∈bs,x∈cs):ec cs a b:=
 ⟨h.os,h.tape,h.output,h.size,λi hi hn=>h.block i hi (λhc=>hn (hs i hc))⟩
theorem ec.oB {b:aw}(h:Below a.heap.size a b):ec bs a b:=⟨h.os,h.tape,h.output,h.size,λi hi _=>h.block i hi⟩
theorem ec.of_grown {b:aw}{k:Nat}(h:a.grownBy b (some k)):ec [k] a b:=⟨h.os,h.tape,h.output,h.size,λi hi hn=>h.block i hi (λe=>hn (by simp at e;simp[e]))⟩
theorem ec.to_below {b:aw}(h:ec bs a b)(hn:n<=a.heap.size)(hb:∀x∈bs,n<=x):Below n a b:=
 ⟨h.os,h.tape,h.output,h.size,λi hi=>h.block i (aI hi hn) (λhc=>by have:=hb i hc;omega)⟩
theorem ec.alloc {b:aw}(h:ec bs a b)(o:Obj):ec bs a (b.alloc o):=h.J (ec.oB ((Below.refl _ _).alloc (aE _) o))
theorem ec.drew {b:aw}(h:ec bs a b):ec bs a b.drew:=h.J (ec.oB (Below.refl _ _).drew)
theorem kZ {w:aw}{k:TypeId}{R:Value->Option (DataW Unit×List MemPlace)}{D:DataW Unit}(h:w.ownsMap prog k R b n D)(hb:w'.heap[b]?=w.heap[b]?):w'.ownsMap prog k R b n D:=by
 obtain⟨es,clock,h1,h2⟩:=h;exact⟨es,clock,hb.J h1,h2⟩
theorem fw.lt {w:aw}(h:fw w b l):b<w.heap.size:=World.ownsMap.lt h
theorem iB.lt {w:aw}{l:aB}(h:iB w b l):b<w.heap.size:=World.ownsMap.lt h
theorem fw.O {w:aw}(h:fw w b l)(hb:w'.heap[b]?=w.heap[b]?):fw w' b l:=kZ h hb
theorem iB.O {w:aw}{l:aB}(h:iB w b l)(hb:w'.heap[b]?=w.heap[b]?):iB w' b l:=kZ h hb
theorem Ue (b:Nat)(l:aA)(s:au)(h:fw w b l)(hl:l.length<maxLen)(hs:s.size<=maxLen):
  Calls prog 178 #[.map (some b),ag s] w λe w'=>e= .returned (.tuple #[])/\fw w' b (l++ [s])/\ec [b] w w':=by
 have Vp:w.ownsMap prog 9 (unitElem (H:=Unit)) b l.length (setOf (.agg []) (l.map rF)):=h;go_in
 go_wp2_with (at_mapUpdate;refine wpList_mapUpdate_own _ rfl _ _ _ 229 rfl 9 162 IL underlying229 _ b _ _ rfl Vp hl _ _ _ rfl rfl (IM s hs) _ [] unitElem_mk ?_;intro w1 Vr Vq)
 go_end0;refine⟨rfl,?_,ec.of_grown Vq⟩;unfold fw;rw[bS,List.map_singleton,setOf_snoc,aN];exact Vr
theorem Uz (b:Nat)(l:aB)(n:Nat)(h:iB w b l)(hl:l.length<maxLen)(hs:n<2^64):
  Calls prog 343 #[.map (some b),.int .u64 n] w λe w'=>e= .returned (.tuple #[])/\iB w' b (l++ [n])/\ec [b] w w':=by
 have Vp:w.ownsMap prog 53 (unitElem (H:=Unit)) b l.length (setOf (.agg []) (l.map rG)):=h;go_in
 go_wp2_with (at_mapUpdate;refine wpList_mapUpdate_own _ rfl _ _ _ 304 rfl 53 162 Sj underlying304 _ b _ _ rfl Vp hl _ _ _ rfl rfl (Sk n hs) _ [] unitElem_mk ?_;intro w1 Vr Vq)
 go_end0;refine⟨rfl,?_,ec.of_grown Vq⟩;unfold iB;rw[bS,List.map_singleton,setOf_snoc,aN];exact Vr
theorem Tb (b:Nat)(l:aA)(s:au)(h:fw w b l)(hs:s.size<=maxLen):
  Calls prog 179 #[.map (some b),ag s] w λe w'=>e= .returned (.bool (fi l s))/\ak w w':=by
 have Vp:w.ownsMap prog 9 (unitElem (H:=Unit)) b l.length (setOf (.agg []) (l.map rF)):=h;rw[<-Sl];go_in
 go_wp2_with (at_lookup;refine wpList_lookup_own_unit _ rfl _ _ 229 rfl 9 162 IL underlying229 (GQ _) b _ _ rfl Vp _ _ rfl (IM s hs) ?_)
 go_ret;exact⟨rfl,(Below.refl _ _).alloc (aE _) _⟩
theorem UA (b:Nat)(l:aB)(n:Nat)(h:iB w b l)(hs:n<2^64):
  Calls prog 342 #[.map (some b),.int .u64 n] w λe w'=>e= .returned (.bool (Bp l n))/\ak w w':=by
 have Vp:w.ownsMap prog 53 (unitElem (H:=Unit)) b l.length (setOf (.agg []) (l.map rG)):=h;rw[<-Sm];go_in
 go_wp2_with (at_lookup;refine wpList_lookup_own_unit _ rfl _ _ 304 rfl 53 162 Sj underlying304 (GQ _) b _ _ rfl Vp _ _ rfl (Sk n hs) ?_)
 go_ret;exact⟨rfl,(Below.refl _ _).alloc (aE _) _⟩
theorem rX (k:Int)(s:au)(p:Nat):
  Calls prog 123 #[.bool false,.agg #[aa k,ag s,aa p]] w λe w'=>e= .returned (.tuple #[])/\ak w w':=by
 go_in
 go_wp2;go_end0;exact⟨rfl,(Below.refl _ _).alloc (aE _) _⟩
theorem ld (k:Int)(s:au)(p:Nat):
  Calls prog 123 #[.bool true,.agg #[aa k,ag s,aa p]] w λe w'=>e=dY 3 p/\ak w w':=by
 go_in
 go_wp2_with fail;refine(JM _ _ _).V ?_;rintro e w2 ⟨rfl,rfl⟩;go_wp2;exact⟨rfl,rfl,(Below.refl _ _).alloc (aE _) _⟩
end
end
section
open Go.Maps
attribute [local go_sem] jQ jR jS
open Vo
def iR (l:aA)(s:au):Bool:=decide (20<s.size)||fi l s
def gY (w:aw)(c1 c2:aq)(T1 T2:TypeId):ak w ((w.alloc (Obj.cells c1 T1)).alloc (Obj.cells c2 T2))/\dX ((w.alloc (Obj.cells c1 T1)).alloc (Obj.cells c2 T2)) w.heap.size c1 T1/\dX ((w.alloc (Obj.cells c1 T1)).alloc (Obj.cells c2 T2)) (w.heap.size+1) c2 T2:=
 ⟨(Vb w _).alloc Vd _,(dX.new w c1 T1).alloc _,by simpa using dX.new (w.alloc (Obj.cells c1 T1)) c2 T2⟩
def JO (w:aw)(b:Nat)(k:Int)(s:au)(p:Nat)(hl:20<s.size):
  Calls prog 121 #[.agg #[aa k,ag s,aa p],.map (some b)] w λe w'=>e=dY 3 p/\ak w w':=by
 have⟨B0,K0⟩:=d8 w #[aa k,ag s,aa p] 148;have hd:(20:Int)<(s.size:Int):=Vc;go_in
 go_wp2;refine wp_region_held_drew (S:=λw'=>w'.cell? (aj w.heap.size 0)=some (aa k)/\w'.cell? (aj w.heap.size 1)=some (ag s)/\w'.cell? (aj w.heap.size 2)=some (aa p)) Vh ⟨Vd,Vd,Vd⟩ (λhHeld=> ?_);refine U1 0 (.pointer (some (aj w.heap.size 1))) hHeld ?_;simp only[Act.put,U6];refine U1 1 (ag s) hHeld ?_;simp only[Act.put,U6];refine U1 2 (aa s.size) hHeld ?_;simp only[Act.put,U6];refine U1 3 (.bool true) hHeld ?_;simp only[Act.put,U6];refine U1 4 (.bool true) hHeld ?_;simp only[Act.put,U6];refine U3 5 undef hHeld ?_;simp only[Act.put,U6];refine U3 6 undef hHeld ?_;simp only[Act.put,U6];refine U3 7 undef hHeld ?_;simp only[Act.put,U6];refine U3 8 undef hHeld ?_;simp only[Act.put,U6];refine U1 9 (.bool true) hHeld ?_;simp only[Act.put,U6];refine U1 10 (.agg #[aa k,ag s,aa p]) hHeld ?_;simp only[Act.put,U6];refine wpAnyH_ready (rs:= [11]) Vh Vd (AllReadyH.cons rfl (λK hK=> ?_) AllReadyH.nil);clear hK;go_simp;refine(ld _ k s p).V ?_;rintro e w4 ⟨rfl,hb⟩;exact⟨rfl,rfl,B0.drew.J (hb.V Vd)⟩
def NV (w:aw)(b:Nat)(l:aA)(k:Int)(s:au)(p:Nat)(H:fw w b l)(hl:s.size<=20)(hm:fi l s=true):
  Calls prog 121 #[.agg #[aa k,ag s,aa p],.map (some b)] w λe w'=>e=dY 3 p/\ak w w':=by
 have B0:=(Va w).alloc (aE _) (am #[aa k,ag s,aa p] 148);have H1:fw (w.U5 #[aa k,ag s,aa p] 148).drew b l:=H.O (Below.l _ _ _ H.lt);have hd:¬(20:Int)<(s.size:Int):=Vc;have Vr:decide ((20:Int)<(s.size:Int))=false:=by simpa using hd
 have hx:s.size<=maxLen:=Vj;clear hd;go_in
 go_wp2;refine wp_region_held_drew (S:=λw'=>w'.cell? (aj w.heap.size 0)=some (aa k)/\w'.cell? (aj w.heap.size 1)=some (ag s)/\w'.cell? (aj w.heap.size 2)=some (aa p)) Vh ⟨Vd,Vd,Vd⟩ (λhHeld=> ?_);refine U1 0 (.pointer (some (aj w.heap.size 1))) hHeld ?_;simp only[Act.put,U6];refine U1 1 (ag s) hHeld ?_;simp only[Act.put,U6];refine U1 2 (aa s.size) hHeld ?_;simp only[Act.put,U6];refine U1 3 (.bool false) hHeld ?_;simp only[Act.put,U6];refine U1 4 (.bool false) hHeld ?_;simp only[Act.put,U6];refine U1 5 (.map (some b)) hHeld ?_;simp only[Act.put,U6];refine U1 6 (.pointer (some (aj w.heap.size 1))) hHeld ?_;simp only[Act.put,U6];refine U1 7 (ag s) hHeld ?_;simp only[Act.put,U6];refine U1 10 (.agg #[aa k,ag s,aa p]) hHeld ?_;simp only[Act.put,U6];refine wpAnyH_ready (rs:= [8]) Vh Vd (AllReadyH.cons rfl (λK hK=> ?_) AllReadyH.nil);go_simp;refine(Tb _ b l s H1 hx).V ?_;rw[hm];rintro e w3 ⟨rfl,Vp⟩;have Vs:w3.cell? (aj w.heap.size 0)=some (aa k)/\w3.cell? (aj w.heap.size 1)=some (ag s)/\w3.cell? (aj w.heap.size 2)=some (aa p):=(by obtain⟨c0,c1,c2⟩:=hHeld;exact⟨(Vp.cell (p:=(aj w.heap.size 0)) Vd).J c0,(Vp.cell (p:=(aj w.heap.size 1)) Vd).J c1,(Vp.cell (p:=(aj w.heap.size 2)) Vd).J c2⟩);clear hHeld;refine hK.out _ _ Vs (λhHeld=> ?_);clear hK K;refine U1 9 (.bool true) hHeld ?_;simp only[Act.put,U6];refine wpAnyH_ready (rs:= [11]) Vh Vd (AllReadyH.cons rfl (λK hK=> ?_) AllReadyH.nil);clear hK;go_simp;refine(ld _ k s p).V ?_;rintro e w4 ⟨rfl,hb⟩;exact⟨rfl,rfl,(B0.drew.J (Vp.V Vd)).J (hb.V (by have:=Vp.size;simp at this;omega))⟩
def Qr (w:aw)(b:Nat)(l:aA)(k:Int)(s:au)(p:Nat)(H:fw w b l)(hn:l.length<5000)(hl:s.size<=20)(hm:fi l s=false):
  Calls prog 121 #[.agg #[aa k,ag s,aa p],.map (some b)] w λe w'=>e= .returned (.tuple #[])/\fw w' b (l++ [s])/\ec [b] w w':=by
 have⟨B0,K0⟩:=d8 w #[aa k,ag s,aa p] 148;have H1:fw (w.U5 #[aa k,ag s,aa p] 148).drew b l:=H.O (Below.l _ _ _ H.lt);have Vt:=H.lt;have Vr:decide ((20:Int)<(s.size:Int))=false:=Ve;have hx:s.size<=maxLen:=Vj;go_in
 go_wp2
 go_region_held3 (λw'=>w'.cell? (aj w.heap.size 0)=some (aa k)/\w'.cell? (aj w.heap.size 1)=some (ag s)/\w'.cell? (aj w.heap.size 2)=some (aa p))
  (first|exact⟨K4.cell 0,K4.cell 1,K4.cell 2⟩|exact⟨K3.cell 0,K3.cell 1,K3.cell 2⟩|go_keep)
  (first|(go_at_call 179;refine(Tb _ b l s H1 hx).V ?_;rw[hm];rintro e w3 ⟨rfl,Vp⟩;have K3:=K0.drew.G Vp Vd)|(go_at_call 123;refine(rX _ k s p).V ?_;rintro e w4 ⟨rfl,Vq⟩;have K4:=K3.G Vq K3.lt))
 have Hk:ak w w4:=(B0.drew.J (Vp.V Vd)).J (Vq.V (by have:=Vp.size;simp at this;omega));have H4:fw w4 b l:=H.O (Hk.block b Vt);have⟨k1,k2⟩:=K4.I;go_wp2_with fail;refine(Ue _ b l s H4 Vj hx).V ?_;rintro e w5 ⟨rfl,H5,Vu⟩;go_wp2;go_end0;exact⟨rfl,H5,(ec.oB Hk).J Vu⟩
def Tc (w:aw)(b:Nat)(l:aA)(k:Int)(s:au)(p:Nat)(H:fw w b l)(hn:l.length<5000):
  U8 121 #[.agg #[aa k,ag s,aa p],.map (some b)] w λe w'=>
   if iR l s then e=dY 3 p/\ak w w' else e= .returned (.tuple #[])/\fw w' b (l++ [s])/\ec [b] w w':=by
 unfold iR;by_cases hl:20<s.size;.simp only[hl,decide_true,dl,if_true];exact JO w b k s p hl
 .cases hm:fi l s;.simp only[hl,decide_false,dy,aU,if_false];exact Qr w b l k s p H hn Vc hm
  .simp only[hl,decide_false,dy,if_true];exact NV w b l k s p H Vc hm
end
end Go.Proofs.YtfebdimolnobaaaGreatDoor
namespace Go.Proofs
open Go.Shelf
def Tryz.laysPu14_ren:Go.Shelf.Ren:=⟨fun|14=>244|16=>329|17=>330|19=>394|20=>395|21=>396|22=>397|23=>398|24=>399|25=>164|27=>425|26=>424|28=>439|29=>445|30=>448|31=>449|32=>450|33=>451|35=>255|34=>452|36=>453|37=>454|38=>455|39=>456|40=>457|n=>n,fun|9=>9|3=>3|22=>53|24=>354|25=>362|4=>4|34=>463|5=>5|36=>295|37=>140|0=>0|39=>465|21=>21|44=>482|47=>357|50=>493|48=>491|2=>2|52=>500|55=>502|59=>505|60=>164|20=>20|61=>506|65=>507|66=>508|67=>70|n=>n,fun|0=>4|1=>5|2=>6|3=>7|4=>8|n=>n⟩
theorem Tryz.laysPu14:Go.Proofs.LaysPu.n14 Tryz.prog Tryz.laysPu14_ren:=by constructor<;>first|kernel_rfl|(intro w;kernel_rfl)
def Tryz.laysPu25_ren:Go.Shelf.Ren:=⟨fun|25=>164|n=>n,fun|9=>9|3=>3|4=>4|37=>140|0=>0|47=>357|5=>5|n=>n,fun|n=>n⟩
theorem Tryz.laysPu25:Go.Proofs.LaysPu.n25 Tryz.prog Tryz.laysPu25_ren:=by constructor<;>first|kernel_rfl|(intro w;kernel_rfl)
end Go.Proofs
namespace Go.Proofs.YtfebdimolnobaaaGreatDoor
open Go.RowKit Go.Proofs.Tryz
section
open Go.Maps
attribute [local go_sem] jQ jR jS
def GOK (w:aw):Prop:=∃ev,w.cell? (aj 5 0)=some ev/\(ev= .nilIface\/∃te pe,ev= .iface te pe)
def GOK.O {w w':aw}(h:GOK w)(hb:w'.heap[5]?=w.heap[5]?):GOK w':=by
 obtain⟨ev,h1,h2⟩:=h;exact⟨ev,(bC (a:=(aj 5 0)) hb).J h1,h2⟩
def GOK.lt {w:aw}(h:GOK w):5<w.heap.size:=by
 obtain⟨ev,h1,h2⟩:=h;exact aV _ _ h1
def jc (s:au):Nat:=
 match Lib.parseUintB 64 s.data.toList with
 | .ok u=>u
 |_=>18446744073709551615
def lg (s:au):Prop:=s.size<=2000/\((∃u,Lib.parseUintB 64 s.data.toList= .ok u)\/Lib.parseUintB 64 s.data.toList= .range)
def NW (s:au):jc s<2^64:=by
 unfold jc;split;.rename_i u h;have:=Lib.parseUintB_le h;omega
 .omega
def UB (s:au)(w:aw)(h:lg s)(hg:GOK w):
  U8 244 #[ag s,aa 10,aa 64] w λe w'=>∃v,e= .returned (.tuple #[.int .u64 (jc s),v])/\ak w w':=by
 obtain⟨ev,h1,h2⟩:=hg;unfold jc;rcases h.2 with⟨u,hp⟩|hp
 .rw[hp];refine(Any.strconv_ParseUint_10_at64_ok Tryz.laysPu14 s (by have:=h.1;omega) u hp w).V ?_;rintro e w' ⟨rfl,hw⟩;refine⟨_,rfl,?_⟩;rcases hw with rfl|rfl;.exact Below.refl _ _
  .exact Lib.bytesWorld_below _ _ _
 .rw[hp];refine(Any.strconv_ParseUint_10_at64_range Tryz.laysPu14 s (by have:=h.1;omega) hp ev w h1 h2).V ?_;rintro e w' ⟨N,rfl,-,-,hb⟩;exact⟨_,rfl,hb⟩
def UC (s:au)(w:aw)(h:s.size<=2000):
  Calls prog 108 #[ag s] w λe w'=>e= .returned (ag s)/\ak w w':=by
 go_in
 go_wp2_with fail;refine(AnyPu.stringslite_Clone Tryz.laysPu25 s _ Vc).V ?_;rintro e w1 ⟨rfl,hb⟩;go_wp2;go_ret;exact⟨rfl,hb⟩
def Td (w:aw)(k:Int)(s:au)(p:Nat)(h:lg s)(hg:GOK w):
  Calls prog 165 #[.agg #[aa k,ag s,aa p]] w λe w'=>e= .returned (.int .u64 (jc s))/\ak w w':=by
 have B0:=(Va w).alloc (aE _) (am #[aa k,ag s,aa p] 148);go_in
 go_wp2_with fail;refine(UB s _ h (hg.O (Below.l _ _ _ hg.lt))).V ?_;rintro e w1 ⟨v,rfl,hb⟩;go_wp2;go_ret;exact⟨rfl,B0.J (hb.V Vd)⟩
end
def Fe:aA:=mZ.map λl=>⟨l.toArray⟩
def Ds (s:au):(dV s==3)=jI s.toList:=by
 cases h4:jI s.toList
 .unfold dV jq;by_cases h0:s.size=0;.simp[h0]
  .cases h1:vM (fZ s 0)<;>cases h2:mt (fZ s 0)<;>cases h3:pV s.toList<;>simp[h0,h4]
 .have hs:s=⟨s.toList.toArray⟩:=by rw[ByteArray.toList_eq]
  have hm:s.toList∈mZ:=by simpa [jI]using h4
  have:∀l∈mZ,(dV ⟨l.toArray⟩==3)=true:=Vg;rw[hs];exact this _ hm


end Go.Proofs.YtfebdimolnobaaaGreatDoor
namespace Go.Proofs
open Go.Shelf
def Tryz.laysVs_ren:Go.Shelf.Ren:=⟨fun|196=>325|259=>393|n=>n,fun|9=>9|4=>4|3=>3|5=>5|12=>12|119=>459|0=>0|46=>295|139=>462|138=>461|53=>53|n=>n,fun|3=>2|4=>3|n=>n⟩
theorem Tryz.laysVs:Go.Proofs.Lays.n196 Tryz.prog Tryz.laysVs_ren:=by constructor<;>first|kernel_rfl|(intro w;kernel_rfl)
end Go.Proofs
namespace Go.Proofs.YtfebdimolnobaaaGreatDoor
open Go.RowKit Go.Proofs.Tryz
end Go.Proofs.YtfebdimolnobaaaGreatDoor
namespace Go.Proofs
open Go.Shelf
theorem Tryz.bShelfKy {f:FuncId}{B:Func}(h:((prog.funcs[f]?).elim "" Func.name== "runtime.NumGoroutine")=false)(k:prog.funcs[f]?=some {B with name:=(prog.funcs[f]?).elim "" Func.name}):Bears prog f B:=⟨_,h,k⟩
def Tryz.sortK_ren:Go.Shelf.Ren:=⟨fun|6=>355|15=>169|14=>408|28=>254|29=>255|20=>427|21=>428|22=>429|23=>430|24=>431|25=>432|26=>433|27=>434|46=>441|47=>332|48=>333|49=>442|50=>443|57=>446|n=>n,fun|22=>389|24=>386|25=>394|3=>3|39=>295|0=>0|53=>164|55=>53|4=>4|46=>367|45=>366|50=>331|5=>5|9=>9|66=>428|70=>431|76=>468|77=>469|n=>n,fun|n=>n⟩
theorem Tryz.sortK:Go.Proofs.SlLaysF0.n6 Tryz.prog Tryz.sortK_ren:=by constructor<;>first|kernel_rfl|(intro w;kernel_rfl)|(apply Tryz.bShelfKy<;>kernel_rfl)
end Go.Proofs
namespace Go.Proofs.YtfebdimolnobaaaGreatDoor
open Go.RowKit Go.Proofs.Tryz
section
open Go.ChangeShapes Go.WideShapes Go.RowKit Go.Deep Go.Proofs.YtfebdimolnobaaaGreatDoor.Rows
def jA {s:au}{l:ap}(h:s.data.toList=l):s=⟨l.toArray⟩:=by
 cases s;simp only at h;subst h;rfl
def IH:prog.cellsOf 9=1:=Vh
def Ns:prog.cellsOf 3=1:=Vh
section
variable {H:Type}
def Nt (d:DataW H):1<=uptoBulk d:=by
 cases d with
 |lit l=>cases l<;>simp[uptoBulk]
 |_=>simp[uptoBulk]
def EZ:∀l:List (DataW H),l.length<=uptoBulkAll l
 | []=>aP _
 |d::l=>by have:=EZ l;have:=Nt d;rw[uptoBulkAll,bw];omega
def RX {n:Int}(h:(Lit.int .i64 n).wf=true): -9223372036854775808<=n/\n<=9223372036854775807:=by
 have h2:(decide (IntKind.i64.min<=n)&&decide (n<=IntKind.i64.max))=true:=h;simp only[aQ,dQ]at h2;exact h2
end
end
end Go.Proofs.YtfebdimolnobaaaGreatDoor
