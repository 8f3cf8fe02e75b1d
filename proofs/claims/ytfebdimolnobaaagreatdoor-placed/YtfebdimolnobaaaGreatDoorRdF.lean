import Derived.Test.YtfebdimolnobaaaGreatDoorRdB
import Derived.Deep.RegionHeld3
import Derived.Deep.DrawnRows
import Derived.Deep.RegionLaw
import Derived.Deep.CutRange
import Derived.Deep.Light
set_option maxRecDepth 100000
set_option maxHeartbeats 8000000
set_option linter.all false
namespace Go.Proofs.YtfebdimolnobaaaGreatDoor
open Go.RowKit
section
attribute [local go_sem] ia ic ie
theorem NH (w:an)(rb wb:Nat)(ws:List W)(i:Nat)(R:Rd w rb wb ws i):
  Calls Tryz.prog 340 #[ag rb] w (lg w rb wb ws (kO ws i) fun f _ e=>e= .returned (.agg (ox f).toArray)):=by
 have A0:gm w.heap.size rb w ((w.alloc (ak #[aa 0,aa 0,ae ⟨#[]⟩,aa 0,aa 0,ae ⟨#[]⟩,aa 0,aa 0,ae ⟨#[]⟩,aa 0,aa 0,ae ⟨#[]⟩,aa 0] 211)).alloc (ak #[aa 4,aa 0,ae ⟨#[]⟩,aa 0,aa 0,ae ⟨#[]⟩,aa 0,aa 0,ae ⟨#[]⟩,aa 0,aa 0,ae ⟨#[]⟩,aa 0] 211)) i:=gm.of_below R.next (((Below.refl w.heap.size w).alloc (ay _) _).alloc (by simp) _);have R0:=(R.alloc (ak #[aa 0,aa 0,ae ⟨#[]⟩,aa 0,aa 0,ae ⟨#[]⟩,aa 0,aa 0,ae ⟨#[]⟩,aa 0,aa 0,ae ⟨#[]⟩,aa 0] 211)).alloc (ak #[aa 4,aa 0,ae ⟨#[]⟩,aa 0,aa 0,ae ⟨#[]⟩,aa 0,aa 0,ae ⟨#[]⟩,aa 0,aa 0,ae ⟨#[]⟩,aa 0] 211);have K0:=(de.new w #[aa 0,aa 0,ae ⟨#[]⟩,aa 0,aa 0,ae ⟨#[]⟩,aa 0,aa 0,ae ⟨#[]⟩,aa 0,aa 0,ae ⟨#[]⟩,aa 0] 211).alloc (ak #[aa 4,aa 0,ae ⟨#[]⟩,aa 0,aa 0,ae ⟨#[]⟩,aa 0,aa 0,ae ⟨#[]⟩,aa 0,aa 0,ae ⟨#[]⟩,aa 0] 211)
 have J0:de ((w.alloc (ak #[aa 0,aa 0,ae ⟨#[]⟩,aa 0,aa 0,ae ⟨#[]⟩,aa 0,aa 0,ae ⟨#[]⟩,aa 0,aa 0,ae ⟨#[]⟩,aa 0] 211)).alloc (ak #[aa 4,aa 0,ae ⟨#[]⟩,aa 0,aa 0,ae ⟨#[]⟩,aa 0,aa 0,ae ⟨#[]⟩,aa 0,aa 0,ae ⟨#[]⟩,aa 0] 211)) (w.heap.size+1) #[aa 4,aa 0,ae ⟨#[]⟩,aa 0,aa 0,ae ⟨#[]⟩,aa 0,aa 0,ae ⟨#[]⟩,aa 0,aa 0,ae ⟨#[]⟩,aa 0] 211:=by
  have:=de.new (w.alloc (ak #[aa 0,aa 0,ae ⟨#[]⟩,aa 0,aa 0,ae ⟨#[]⟩,aa 0,aa 0,ae ⟨#[]⟩,aa 0,aa 0,ae ⟨#[]⟩,aa 0] 211)) #[aa 4,aa 0,ae ⟨#[]⟩,aa 0,aa 0,ae ⟨#[]⟩,aa 0,aa 0,ae ⟨#[]⟩,aa 0,aa 0,ae ⟨#[]⟩,aa 0] 211;simpa using this
 have n1:¬w.heap.size=rb:=by have:=R.blocks;omega
 have n2:¬w.heap.size+1=rb:=by have:=R.blocks;omega
 have n3:¬rb=w.heap.size:=by omega
 have n4:¬rb=w.heap.size+1:=by omega
 have z0:w.heap.size+1<((w.alloc (ak #[aa 0,aa 0,ae ⟨#[]⟩,aa 0,aa 0,ae ⟨#[]⟩,aa 0,aa 0,ae ⟨#[]⟩,aa 0,aa 0,ae ⟨#[]⟩,aa 0] 211)).alloc (ak #[aa 4,aa 0,ae ⟨#[]⟩,aa 0,aa 0,ae ⟨#[]⟩,aa 0,aa 0,ae ⟨#[]⟩,aa 0,aa 0,ae ⟨#[]⟩,aa 0] 211)).heap.size:=by simp
 generalize hr:kO ws i=r;have HR:Hid (kO ws i=r):=hr;clear hr;go_enter Tryz.func340,Tryz.ntmps340
 obtain⟨k1,k2⟩:=K0.rules;obtain⟨j1,j2⟩:=J0.rules;go_wp2_with fail
 clear k1 k2 j1 j2;refine(Ax _ rb wb ws i _ [109,97,112] R0 (by decide+kernel) (by decide)).mono ?_
 cases h1:eQ ws [109,97,112] i with
 |error p=>
  rintro e w1 ⟨rfl,j,A⟩;obtain rfl:r= .error p:=by rw[<-HR.out,kO,d8 h1]
  unfold da;go_wp2;exact⟨rfl,rfl,j,A0.trans A (by omega)⟩
 |ok q=>
  obtain⟨_,i1⟩:=q;rintro e w1 ⟨rfl,R1,A⟩;have z1:w.heap.size+1<w1.heap.size:=aC z0 A.size;have K1:=K0.adv_ A (by omega) n1;have J1:=J0.adv_ A z0 n2;have A1:=A0.trans A (by omega);clear A R0 K0 J0 A0 z0;obtain⟨k1,k2⟩:=K1.rules;obtain⟨j1,j2⟩:=J1.rules;go_wp2_with fail
  clear k1 k2 j1 j2;refine(Ax _ rb wb ws i1 _ [60] R1 (by decide+kernel) (by decide)).mono ?_
  cases h2:eQ ws [60] i1 with
  |error p=>
   rintro e w2 ⟨rfl,j,A⟩;obtain rfl:r= .error p:=by rw[<-HR.out,kO,dy h1,d8 h2]
   unfold da;go_wp2;exact⟨rfl,rfl,j,A1.trans A (by omega)⟩
  |ok q=>
   obtain⟨_,i2⟩:=q;rintro e w2 ⟨rfl,R2,A⟩;have z2:w.heap.size+1<w2.heap.size:=aC z1 A.size;have K2:=K1.adv_ A (by omega) n1;have J2:=J1.adv_ A z1 n2;have A2:=A1.trans A (by omega);clear A R1 K1 J1 A1 z1;obtain⟨k1,k2⟩:=K2.rules;obtain⟨j1,j2⟩:=J2.rules;go_wp2_with fail
   clear k1 k2 j1 j2;refine(Ms _ rb wb ws i2 R2).mono ?_
   cases h3:oG ws i2 with
   |error p=>
    rintro e w3 ⟨rfl,j,A⟩;obtain rfl:r= .error p:=by rw[<-HR.out,kO,dy h1,dy h2,d8 h3]
    unfold da;go_wp2;exact⟨rfl,rfl,j,A2.trans A (by omega)⟩
   |ok q=>
    obtain⟨k,i3⟩:=q;rintro e w3 ⟨rfl,R3,A⟩;have z3:w.heap.size+1<w3.heap.size:=aC z2 A.size;have K3:=K2.adv_ A (by omega) n1;have J3:=J2.adv_ A z2 n2;have A3:=A2.trans A (by omega);clear A R2 K2 J2 A2 z2;have N2:=A3.sets (b:=w.heap.size+1) (by omega) [aa (cZ k.1),ae k.1,aa k.2] 1;have Oa:=N2.rd R R.blocks.1 R.blocks.2 R3.lt;have Ob:=K3.sets_other (c:=w.heap.size+1) (by omega) [aa (cZ k.1),ae k.1,aa k.2] 1;have Oc:de (w3.setCells (w.heap.size+1) 1 [aa (cZ k.1),ae k.1,aa k.2]) (w.heap.size+1) #[aa 4,aa (cZ k.1),ae k.1,aa k.2,aa 0,ae ⟨#[]⟩,aa 0,aa 0,ae ⟨#[]⟩,aa 0,aa 0,ae ⟨#[]⟩,aa 0] 211:=de.sets [aa (cZ k.1),ae k.1,aa k.2] [aa 4] [aa 0,ae ⟨#[]⟩,aa 0] [aa 0,ae ⟨#[]⟩,aa 0,aa 0,ae ⟨#[]⟩,aa 0,aa 0,ae ⟨#[]⟩,aa 0] J3 rfl;have N7:w.heap.size+1<(w3.setCells (w.heap.size+1) 1 [aa (cZ k.1),ae k.1,aa k.2]).heap.size:=by simpa [World.setCells,World.setCell]using z3
    obtain⟨k1,k2⟩:=K3.rules;obtain⟨j1,j2⟩:=J3.rules;clear A3 R3 K3 z3;go_wp2_with fail
    clear k1 k2 j1 j2 J3;refine(Ax _ rb wb ws i3 _ [44] Oa (by decide+kernel) (by decide)).mono ?_
    cases h4:eQ ws [44] i3 with
    |error p=>
     rintro e w4 ⟨rfl,j,A⟩;obtain rfl:r= .error p:=by rw[<-HR.out,kO,dy h1,dy h2,dy h3,d8 h4]
     unfold da;go_wp2;exact⟨rfl,rfl,j,N2.trans A (by omega)⟩
    |ok q=>
     obtain⟨_,i4⟩:=q;rintro e w4 ⟨rfl,R4,A⟩;have z4:w.heap.size+1<w4.heap.size:=aC N7 A.size;have K4:=Ob.adv_ A (by omega) n1;have J4:=Oc.adv_ A N7 n2;have A4:=N2.trans A (by omega);clear A Oa Ob Oc N2 N7;obtain⟨k1,k2⟩:=K4.rules;obtain⟨j1,j2⟩:=J4.rules;go_wp2_with fail
     clear k1 k2 j1 j2;refine(Ms _ rb wb ws i4 R4).mono ?_
     cases h5:oG ws i4 with
     |error p=>
      rintro e w5 ⟨rfl,j,A⟩;obtain rfl:r= .error p:=by rw[<-HR.out,kO,dy h1,dy h2,dy h3,dy h4,d8 h5]
      unfold da;go_wp2;exact⟨rfl,rfl,j,A4.trans A (by omega)⟩
     |ok q=>
      obtain⟨t,i5⟩:=q;rintro e w5 ⟨rfl,R5,A⟩;have z5:w.heap.size+1<w5.heap.size:=aC z4 A.size;have K5:=K4.adv_ A (by omega) n1;have J5:=J4.adv_ A z4 n2;have A5:=A4.trans A (by omega);clear A R4 K4 J4 A4 z4;have N3:=A5.sets (b:=w.heap.size+1) (by omega) [aa (cZ t.1),ae t.1,aa t.2] 4;have Od:=N3.rd R R.blocks.1 R.blocks.2 R5.lt;have Oe:=K5.sets_other (c:=w.heap.size+1) (by omega) [aa (cZ t.1),ae t.1,aa t.2] 4;have Of:de (w5.setCells (w.heap.size+1) 4 [aa (cZ t.1),ae t.1,aa t.2]) (w.heap.size+1) #[aa 4,aa (cZ k.1),ae k.1,aa k.2,aa (cZ t.1),ae t.1,aa t.2,aa 0,ae ⟨#[]⟩,aa 0,aa 0,ae ⟨#[]⟩,aa 0] 211:=de.sets [aa (cZ t.1),ae t.1,aa t.2] [aa 4,aa (cZ k.1),ae k.1,aa k.2] [aa 0,ae ⟨#[]⟩,aa 0] [aa 0,ae ⟨#[]⟩,aa 0,aa 0,ae ⟨#[]⟩,aa 0] J5 rfl;have N8:w.heap.size+1<(w5.setCells (w.heap.size+1) 4 [aa (cZ t.1),ae t.1,aa t.2]).heap.size:=by simpa [World.setCells,World.setCell]using z5
      obtain⟨k1,k2⟩:=K5.rules;obtain⟨j1,j2⟩:=J5.rules;clear A5 R5 K5 z5;go_wp2_with fail
      clear k1 k2 j1 j2 J5;refine(Ax _ rb wb ws i5 _ [62] Od (by decide+kernel) (by decide)).mono ?_
      cases h6:eQ ws [62] i5 with
      |error p=>
       rintro e w6 ⟨rfl,j,A⟩;obtain rfl:r= .error p:=by rw[<-HR.out,kO,dy h1,dy h2,dy h3,dy h4,dy h5,d8 h6]
       unfold da;go_wp2;exact⟨rfl,rfl,j,N3.trans A (by omega)⟩
      |ok q=>
       obtain⟨_,i6⟩:=q;rintro e w6 ⟨rfl,R6,A⟩;have z6:w.heap.size+1<w6.heap.size:=aC N8 A.size;have K6:=Oe.adv_ A (by omega) n1;have J6:=Of.adv_ A N8 n2;have A6:=N3.trans A (by omega);clear A Od Oe Of N3 N8;obtain⟨k1,k2⟩:=K6.rules;obtain⟨j1,j2⟩:=J6.rules;go_wp2_with fail
       clear k1 k2 j1 j2;refine(Mt _ rb wb ws i6 R6).mono ?_
       cases h7:kN ws i6 with
       |error p=>
        rintro e w7 ⟨rfl,j,A⟩;obtain rfl:r= .error p:=by rw[<-HR.out,kO,dy h1,dy h2,dy h3,dy h4,dy h5,dy h6,d8 h7]
        unfold da;go_wp2;exact⟨rfl,rfl,j,A6.trans A (by omega)⟩
       |ok q=>
        obtain⟨y,i7⟩:=q;rintro e w7 ⟨rfl,R7,A⟩;have z7:w.heap.size+1<w7.heap.size:=aC z6 A.size;have K7:=K6.adv_ A (by omega) n1;have J7:=J6.adv_ A z6 n2;have A7:=A6.trans A (by omega);clear A R6 K6 J6 A6 z6;have Og:=A7.sets (b:=w.heap.size+1) (by omega) [aa (cZ y.1.1),ae y.1.1,aa y.1.2,aa (cZ y.2.1),ae y.2.1,aa y.2.2] 7;have Oh:=Og.rd R R.blocks.1 R.blocks.2 R7.lt;have Oi:=K7.sets_other (c:=w.heap.size+1) (by omega) [aa (cZ y.1.1),ae y.1.1,aa y.1.2,aa (cZ y.2.1),ae y.2.1,aa y.2.2] 7;have J7s:de (w7.setCells (w.heap.size+1) 7 [aa (cZ y.1.1),ae y.1.1,aa y.1.2,aa (cZ y.2.1),ae y.2.1,aa y.2.2]) (w.heap.size+1) #[aa 4,aa (cZ k.1),ae k.1,aa k.2,aa (cZ t.1),ae t.1,aa t.2,aa (cZ y.1.1),ae y.1.1,aa y.1.2,aa (cZ y.2.1),ae y.2.1,aa y.2.2] 211:=de.sets [aa (cZ y.1.1),ae y.1.1,aa y.1.2,aa (cZ y.2.1),ae y.2.1,aa y.2.2] [aa 4,aa (cZ k.1),ae k.1,aa k.2,aa (cZ t.1),ae t.1,aa t.2] [aa 0,ae ⟨#[]⟩,aa 0,aa 0,ae ⟨#[]⟩,aa 0] [] J7 rfl;have z7s:w.heap.size+1<(w7.setCells (w.heap.size+1) 7 [aa (cZ y.1.1),ae y.1.1,aa y.1.2,aa (cZ y.2.1),ae y.2.1,aa y.2.2]).heap.size:=by simpa [World.setCells,World.setCell]using z7
        obtain⟨k1,k2⟩:=K7.rules;obtain⟨j1,j2⟩:=J7.rules;obtain rfl:r= .ok (⟨4,some k,t,y.1,y.2⟩,i7):=by rw[<-HR.out,kO,dy h1,dy h2,dy h3,dy h4,dy h5,dy h6,dy h7]
        go_wp2;have A9:=Og.sets (b:=w.heap.size) (ay _) (ox ⟨4,some k,t,y.1,y.2⟩) 0;have K9:=Oi.sets_all (ox ⟨4,some k,t,y.1,y.2⟩) rfl;refine bodyPost_ret (dw Tryz.results340 _ _ rfl K9 Tryz.underlying211 (by kernel_rfl)) rfl ⟨rfl,?_,A9⟩;exact A9.rd R R.blocks.1 R.blocks.2 Oh.lt
theorem Mu (w:an)(v0 v1 v2 v3 v4 v5 v6 v7 v8 v9 v10 v11 v12:Value):
  Calls Tryz.prog 339 #[.agg #[v0,v1,v2,v3,v4,v5,v6,v7,v8,v9,v10,v11,v12]] w fun e w'=>∃fv,e= .returned (.agg #[aa 0,ae ⟨#[]⟩,aa 0,fv])/\w'.ownsRow w.heap.size 211 13 fv 1 [v0,v1,v2,v3,v4,v5,v6,v7,v8,v9,v10,v11,v12]/\aj w w':=by
 go_enter Tryz.func339,Tryz.ntmps339
 go_wp2
 have K:de (((w.alloc (ak #[v0,v1,v2,v3,v4,v5,v6,v7,v8,v9,v10,v11,v12] 211)).alloc (ak #[aa 0,ae ⟨#[]⟩,aa 0,.slice (some (ai (w.heap.size+1+1) 0)) 1 1] 208)).alloc (ak #[v0,v1,v2,v3,v4,v5,v6,v7,v8,v9,v10,v11,v12] 211)) (w.heap.size+1) #[aa 0,ae ⟨#[]⟩,aa 0,.slice (some (ai (w.heap.size+1+1) 0)) 1 1] 208:=by
  have:=(de.new (w.alloc (ak #[v0,v1,v2,v3,v4,v5,v6,v7,v8,v9,v10,v11,v12] 211)) #[aa 0,ae ⟨#[]⟩,aa 0,.slice (some (ai (w.heap.size+1+1) 0)) 1 1] 208).alloc (ak #[v0,v1,v2,v3,v4,v5,v6,v7,v8,v9,v10,v11,v12] 211);simpa using this
 refine bodyPost_ret (dw Tryz.results339 _ _ rfl K Tryz.underlying208 (by kernel_rfl)) rfl ⟨_,rfl,⟨rfl,.inr ⟨w.heap.size+1+1,1,#[v0,v1,v2,v3,v4,v5,v6,v7,v8,v9,v10,v11,v12],rfl,by omega,?_,by omega,by unfold maxLen;omega,rfl,rfl⟩⟩,?_⟩
 ·have:=de.new ((w.alloc (ak #[v0,v1,v2,v3,v4,v5,v6,v7,v8,v9,v10,v11,v12] 211)).alloc (ak #[aa 0,ae ⟨#[]⟩,aa 0,.slice (some (ai (w.heap.size+1+1) 0)) 1 1] 208)) #[v0,v1,v2,v3,v4,v5,v6,v7,v8,v9,v10,v11,v12] 211;simpa [de]using this
 ·exact(((Below.refl _ _).alloc (ay _) _).alloc (by simp) _).alloc (by simp;omega) _
theorem Mi (w:an)(f:dM):
  Calls Tryz.prog 339 #[.agg (ox f).toArray] w fun e w'=>∃fv,e= .returned (.agg #[aa 0,ae ⟨#[]⟩,aa 0,fv])/\w'.ownsRow w.heap.size 211 13 fv 1 (ox f)/\aj w w':=by
 obtain⟨form,key,ty,nm,nu⟩:=f
 cases key<;>exact Mu w _ _ _ _ _ _ _ _ _ _ _ _ _
theorem Rd.drew {w:an}{rb wb i:Nat}{ws:List W}(R:Rd w rb wb ws i):Rd w.drew rb wb ws i:=
 R.below (Below.refl w.heap.size w).drew R.blocks.1 R.blocks.2
def gK (rb:Nat)(w:an):Nat:=
 match w.cell? (ai rb 1)with
 |some v=>(intOf v).toNat
 |none=>0
theorem Rd.nextOf {w:an}{rb wb i:Nat}{ws:List W}(R:Rd w rb wb ws i):Go.Proofs.YtfebdimolnobaaaGreatDoor.gK rb w=i:=by
 simp[Go.Proofs.YtfebdimolnobaaaGreatDoor.gK,R.next,intOf]
theorem dO {w w1:an}{base:Nat}{T:TypeId}{k m:Nat}{v:Value}{xs:aq}(hb:aj w w1)(h:w.ownsRow base T k v m xs):w1.ownsRow base T k v m xs:=by
 refine⟨h.1,?_⟩
 rcases h.2 with h2|⟨g,cap,N2,h2,h3,h4,h5⟩
 ·exact .inl h2
 ·exact .inr ⟨g,cap,N2,h2,h3,(hb.block g (de.lt h4)).trans h4,h5⟩
theorem ig {w w1:an}{n rb j base:Nat}{T:TypeId}{k m:Nat}{v:Value}{xs:aq}(ha:gm n rb w w1 j)(hn:w.heap.size<=n)(hrb:rb<base)(h:w.ownsRow base T k v m xs):w1.ownsRow base T k v m xs:=by
 refine⟨h.1,?_⟩
 rcases h.2 with h2|⟨g,cap,N2,h2,h3,h4,h5⟩
 ·exact .inl h2
 ·exact .inr ⟨g,cap,N2,h2,h3,de.adv_ h4 ha (aC (de.lt h4) hn) (by omega),h5⟩
theorem mo {w:an}{base:Nat}{T:TypeId}{k m:Nat}{v:Value}{xs:aq}(h:w.ownsRow base T k v m xs):w.drew.ownsRow base T k v m xs:=h
theorem mq {w:an}{base lo:Nat}{T:TypeId}{k m:Nat}{v:Value}{xs:aq}(h:w.ownsRow base T k v m xs)(hl:lo<=base):w.ownsRow lo T k v m xs:=by
 refine⟨h.1,?_⟩
 rcases h.2 with h2|⟨g,cap,N2,h2,h3,h4,h5⟩
 ·exact .inl h2
 ·exact .inr ⟨g,cap,N2,h2,aG hl h3,h4,h5⟩
theorem fM {w:an}{base lo:Nat}{T:TypeId}{k m:Nat}{v:Value}{xs:aq}(h:w.ownsRow base T k v m xs){b:Nat}(hb:b<base)(hl:lo<=base)(vs:aq)(o:Nat):(w.setCells b o vs).ownsRow lo T k v m xs:=by
 refine⟨h.1,?_⟩
 rcases h.2 with h2|⟨g,cap,N2,h2,h3,h4,h5⟩
 ·exact .inl h2
 ·exact .inr ⟨g,cap,N2,h2,aG hl h3,de.sets_other (b:=g) h4 (by omega) vs o,h5⟩
theorem df {w:an}{base:Nat}{T:TypeId}{k m:Nat}{v:Value}{xs:aq}(h:w.ownsRow base T k v m xs):∃a n c,v= .slice a n c:=by
 rcases h.2 with⟨h2,_⟩|⟨g,cap,N2,h2,h3⟩
 ·exact⟨_,_,_,h2⟩
 ·exact⟨_,_,_,h2⟩
theorem G7 (f:dM):(ox f).length=13:=by
 obtain⟨form,key,ty,nm,nu⟩:=f
 cases key<;>rfl
theorem Tryz.info211:(Tryz.prog.info? 211).map (fun i=>(i.zero,i.size,i.bytes))=some (some (.agg #[aa 0,aa 0,ae ⟨#[]⟩,aa 0,aa 0,ae ⟨#[]⟩,aa 0,aa 0,ae ⟨#[]⟩,aa 0,aa 0,ae ⟨#[]⟩,aa 0]),13,136):=by kernel_rfl
theorem oY {ws:List W}{form:Int}{i:Nat}{f:dM}{j:Nat}(h:ee ws form i= .ok (f,j)):ox f= [aa form,aa 0,ae ⟨#[]⟩,aa 0,aa (cZ f.type.1),ae f.type.1,aa f.type.2,aa (cZ f.name.1),ae f.name.1,aa f.name.2,aa (cZ f.num.1),ae f.num.1,aa f.num.2]:=by
 unfold ee at h;obtain⟨t,i1,h1,h⟩:=dg h;obtain⟨nm,i2,h2,h⟩:=dg h;simp at h;obtain⟨rfl,rfl⟩:=h;rfl
theorem G8 (w:an)(rb wb:Nat)(ws:List W)(i:Nat)(form:Int)(R:Rd w rb wb ws i):
  Calls Tryz.prog 341 #[ag rb,aa form] w (lg w rb wb ws (ee ws form i) fun f _ e=>e= .returned (.agg #[aa form,aa 0,ae ⟨#[]⟩,aa 0,aa (cZ f.type.1),ae f.type.1,aa f.type.2,aa (cZ f.name.1),ae f.name.1,aa f.name.2,aa (cZ f.num.1),ae f.num.1,aa f.num.2])):=by
 refine(Mh w rb wb ws i form R).mono fun e w' h=> ?_
 cases hf:ee ws form i with
 |error p=>rw[hf]at h;exact h
 |ok q=>
  obtain⟨f,j⟩:=q;rw[hf]at h;obtain⟨h1,h2⟩:=h;exact⟨by rw[h1,oY hf],h2⟩
end
section
attribute [local go_sem] ia ic ie
attribute [local go_sem↓] Go.wp_at_zero Go.wp_at_succ
theorem fC {P:Program}{ops:Array Oper}{Q:Exit->Act->an->Prop}{md:Region.Mode}{S:an->Prop}(i:Nat)(v:Value){oi:Oper}{fuel:Nat}{listed:Array Bool}{a:Act}{w:an}(hi:ops[i]?=some oi)
  (hc:(Region.noSelect ops&&(Region.free md ops listed i&&(Region.ready md ops listed).contains i))=true) (hQ:∀c a w,Q (.panic c) (a.put oi.dst v) w->Q (.panic c) a w) (hy:YieldsIf P ops S oi v a) (hS:S w)
  (h:wpAnyH P md ops Q S fuel (listed.setIfInBounds i true) (a.put oi.dst v) w):wpAnyH P md ops Q S (fuel+1) listed a w:=by
 rw[aT,aT]at hc;exact wpAnyH_take hi hc.1 hc.2.1 hc.2.2 hQ hy hS h
theorem NW {P:Program}{ops:Array Oper}{Q:Exit->Act->an->Prop}{md:Region.Mode}{S:an->Prop}(i:Nat)(v:Value){oi:Oper}{fuel:Nat}{listed:Array Bool}{a:Act}{w:an}(hS:S w)(h:wpAnyH P md ops Q S fuel (listed.setIfInBounds i true) (a.put oi.dst v) w)(hi:ops[i]?=some oi:=by rfl)
  (hc:(Region.noSelect ops&&(Region.free md ops listed i&&(Region.ready md ops listed).contains i))=true:=by kernel_rfl) (hQ:∀c a w,Q (.panic c) (a.put oi.dst v) w->Q (.panic c) a w:=by exact fun _ _ _ h=>h) (hy:YieldsIf P ops S oi v a:=by exact .inl ⟨rfl,fun w ⟨s0,s1,s2⟩=>by go_simp⟩):wpAnyH P md ops Q S (fuel+1) listed a w:=fC i v hi hc hQ hy hS h
theorem NX {P:Program}{ops:Array Oper}{Q:Exit->Act->an->Prop}{md:Region.Mode}{S:an->Prop}(i:Nat)(v:Value){oi:Oper}{fuel:Nat}{listed:Array Bool}{a:Act}{w:an}(hS:S w)(h:wpAnyH P md ops Q S fuel (listed.setIfInBounds i true) (a.put oi.dst v) w)(hi:ops[i]?=some oi:=by rfl)
  (hc:(Region.noSelect ops&&(Region.free md ops listed i&&(Region.ready md ops listed).contains i))=true:=by kernel_rfl) (hQ:∀c a w,Q (.panic c) (a.put oi.dst v) w->Q (.panic c) a w:=by exact fun _ _ _ h=>h) (hy:YieldsIf P ops S oi v a:=by exact .inl ⟨rfl,fun w ⟨sc,s0,s1,s2⟩=>by go_simp⟩):wpAnyH P md ops Q S (fuel+1) listed a w:=fC i v hi hc hQ hy hS h
theorem NY {P:Program}{ops:Array Oper}{Q:Exit->Act->an->Prop}{md:Region.Mode}{S:an->Prop}(i:Nat)(v:Value){oi:Oper}{fuel:Nat}{listed:Array Bool}{a:Act}{w:an}(hS:S w)(h:wpAnyH P md ops Q S fuel (listed.setIfInBounds i true) (a.put oi.dst v) w)(hi:ops[i]?=some oi:=by rfl)
  (hc:(Region.noSelect ops&&(Region.free md ops listed i&&(Region.ready md ops listed).contains i))=true:=by kernel_rfl) (hQ:∀c a w,Q (.panic c) (a.put oi.dst v) w->Q (.panic c) a w:=by exact fun _ _ _ h=>h) (hy:YieldsIf P ops S oi v a:=by exact .inr ⟨rfl,rfl⟩):wpAnyH P md ops Q S (fuel+1) listed a w:=fC i v hi hc hQ hy hS h
theorem NI (w:an)(rb wb:Nat)(ws:List W)(i:Nat)(R:Rd w rb wb ws i):
  Calls Tryz.prog 338 #[ag rb] w (lg w rb wb ws (gp ws i) fun p w' e=>∃fv,e= .returned (.agg ((G6 p.oneof++ [fv]).toArray))/\w'.ownsRow w.heap.size 211 13 fv p.fields.length (p.fields.flatMap ox)):=by
 obtain⟨i0,Og,Oh,Oi,Oj⟩:=info_parts Tryz.info211;have A0:gm w.heap.size rb w (w.alloc (ak #[aa 0,ae ⟨#[]⟩,aa 0,ah] 208)) i:=gm.of_below R.next ((Below.refl w.heap.size w).alloc (ay _) _);have R0:=R.alloc (ak #[aa 0,ae ⟨#[]⟩,aa 0,ah] 208);have K0:=de.new w #[aa 0,ae ⟨#[]⟩,aa 0,ah] 208;have n1:¬w.heap.size=rb:=by have:=R.blocks;omega
 have n3:¬rb=w.heap.size:=by omega
 have z0:w.heap.size<(w.alloc (ak #[aa 0,ae ⟨#[]⟩,aa 0,ah] 208)).heap.size:=by simp
 generalize hr:gp ws i=r;have HR:Hid (gp ws i=r):=hr;clear hr;go_enter Tryz.func338,Tryz.ntmps338
 go_wp2_with fail
 refine(Ax _ rb wb ws i _ [111,110,101,111,102] R0 (by decide+kernel) (by decide)).mono ?_
 cases h1:eQ ws [111,110,101,111,102] i with
 |error p=>
  rintro e w1 ⟨rfl,j,A⟩;obtain rfl:r= .error p:=by rw[<-HR.out,gp,d8 h1]
  unfold da;go_wp2;exact⟨rfl,rfl,j,A0.trans A (by omega)⟩
 |ok q=>
  obtain⟨_,i1⟩:=q;rintro e w1 ⟨rfl,R1,A⟩;have z1:w.heap.size<w1.heap.size:=aC z0 A.size;have K1:=K0.adv_ A z0 n1;have A1:=A0.trans A (by omega);clear A R0 K0 A0 z0;go_wp2_with fail
  refine(Lg _ rb wb ws i1 1 R1 (by decide)).mono ?_
  cases h2:jb ws 1 i1 with
  |error p=>
   rintro e w2 ⟨rfl,j,A⟩;obtain rfl:r= .error p:=by rw[<-HR.out,gp,dy h1,d8 h2]
   unfold da;go_wp2;exact⟨rfl,rfl,j,A1.trans A (by omega)⟩
  |ok q=>
   obtain⟨x,i2⟩:=q;rintro e w2 ⟨rfl,R2,A⟩;have z2:w.heap.size<w2.heap.size:=aC z1 A.size;have K2:=(K1.adv_ A z1 n1).alloc (ak #[aa (cZ x.1),ae x.1,aa x.2,ah] 208);have J2:=de.new w2 #[aa (cZ x.1),ae x.1,aa x.2,ah] 208;have A2:=(A1.trans A (by omega)).alloc (ay _) (ak #[aa (cZ x.1),ae x.1,aa x.2,ah] 208);have R3:=R2.alloc (ak #[aa (cZ x.1),ae x.1,aa x.2,ah] 208);have z3:w2.heap.size<(w2.alloc (ak #[aa (cZ x.1),ae x.1,aa x.2,ah] 208)).heap.size:=by simp
   have n5:¬w2.heap.size=rb:=by have:=R.blocks;omega
   have n6:¬w2.heap.size=w.heap.size:=by omega
   clear A R1 K1 A1 z1;go_wp2_with fail
   refine(Ax _ rb wb ws i2 _ [123] R3 (by decide+kernel) (by decide)).mono ?_
   cases h3:eQ ws [123] i2 with
   |error p=>
    rintro e w3 ⟨rfl,j,A⟩;obtain rfl:r= .error p:=by rw[<-HR.out,gp,dy h1,dy h2,d8 h3]
    unfold da;go_wp2;exact⟨rfl,rfl,j,A2.trans A (by omega)⟩
   |ok q=>
    obtain⟨_,i3⟩:=q;rintro e w3 ⟨rfl,R4,A⟩;have z4:w2.heap.size<w3.heap.size:=aC z3 A.size;have K4:=K2.adv_ A (by omega) n1;have J4:=J2.adv_ A z3 n5;have A4:=A2.trans A (by omega);clear A R2 R3 K2 J2 A2 z3;go_wp2_with fail
    have j3:=J4.cell 3
    cases h4:ee ws 3 i3 with
    |error p=>
     obtain rfl:r= .error p:=by rw[<-HR.out,gp,dy h1,dy h2,dy h3,d8 h4]
     refine wp_region_held_drew (S:=fun w'=>w'.cell? (ai w2.heap.size 3)=some (ah)) (by kernel_rfl) (by simpa using j3) (fun hHeld=> ?_);refine fC 0 (.pointer (some (ai w2.heap.size 3))) rfl (by kernel_rfl) (fun _ _ _ h=>h) (Or.inl ⟨by rfl,fun w N8=>by dsimp only at N8;go_simp⟩) hHeld ?_;refine fC 1 (ah) rfl (by kernel_rfl) (fun _ _ _ h=>h) (Or.inl ⟨by rfl,fun w N8=>by dsimp only at N8;go_simp⟩) hHeld ?_;refine fC 2 (ag rb) rfl (by kernel_rfl) (fun _ _ _ h=>h) (Or.inl ⟨by rfl,fun w N8=>by dsimp only at N8;go_simp⟩) hHeld ?_;simp only[Act.put,NZ];refine wpAnyH_ready (rs:= [3]) (by kernel_rfl) (by simp) (AllReadyH.cons rfl (fun K hK=> ?_) AllReadyH.nil);clear hK;go_simp;refine(G8 _ rb wb ws i3 3 R4.drew).mono ?_;rw[h4];rintro e w4 ⟨rfl,j,A⟩;exact⟨rfl,rfl,j,A4.drew.trans A (by simp;omega)⟩
    |ok q=>
     obtain⟨f,i4⟩:=q;have HF:Hid (ox f=_):=oY h4;obtain⟨M,HM⟩:∃M,Hid (lf [f] (fk (d7 ws [125]) (ee ws 3) ws.length i4)=M):=⟨_,rfl⟩
     have Oe:Hid ((fx M fun l i=>fx (eQ ws [125] i) fun _ i=> .ok (⟨some x,l⟩,i))=r):=by
      have:=HR.out;rw[gp,dy h1,dy h2,dy h3,dy h4,HM.out]at this;exact this
     clear HR h1 h2 h3;go_cut []from 11 to 17 (fun wr=>∃(n k:Nat) (fs:List dM) (fv:Value),fs.length<=k/\ws.length-k<=n/\Hid (lf fs (fk (d7 ws [125]) (ee ws 3) n k)=M)/\Rd wr rb wb ws k/\gm w.heap.size rb w wr k/\de wr w.heap.size #[aa 0,ae ⟨#[]⟩,aa 0,ah] 208/\de wr w2.heap.size #[aa (cZ x.1),ae x.1,aa x.2,fv] 208/\wr.ownsRow (w2.heap.size+1) 211 13 fv fs.length (fs.flatMap ox)/\w2.heap.size<wr.heap.size)
     case first=>
      have J:=J4;have RR:=R4;have HO:Hid (some w2.heap.size≠(Value.slice none 0 0).ownBlock):=by simp[Hid,Value.ownBlock]
      go_region_law (first|(refine step_append_lies _ (by rfl) _ _ _ (by rfl) (w2.heap.size+1) 211 i0 _ 13 136 Tryz.underlying206 Og Oh Oi Oj rfl (by omega) (ah) 0 [] (by rfl) (aX _ _ _ _) (ai w4.heap.size 0) 1 1 [_,_,_,_,_,_,_,_,_,_,_,_,_] (by rfl) (by rfl) (bl (t:=211) (fr:=(0,0)) (heap_alloc_new w4 _)) (by simp[Value.oneCell']) (by omega) (by unfold maxLen;omega) (by omega) (by have:=A.size;simp at this⊢;omega) (w4.heap.size+1) (by simp) ?_;intro gg cap w5 Oa N2 Oq Ot;obtain⟨x1,x2⟩:=(((J.drew.adv_ A (by simp;omega) n5).alloc _).grown N2 HO.out).rules)|(go_simp;go_at_call 341;refine(G8 _ rb wb ws i3 3 RR.drew).mono ?_;rw[h4];rintro e w4 ⟨rfl,R5,A⟩;obtain⟨y1,y2⟩:=(J.drew.adv_ A (by simp;omega) n5).rules;obtain⟨y3,y4,y5,y6⟩:=eK (w:=w4) (b:=w2.heap.size) (by have:=A.size;simp at this;omega)))
      all_goals
       go_wp2;go_meet
       case rel=>
        go_light;have Ok:w3.heap.size<=w4.heap.size:=by have:=A.size;simpa using this
        have A6:=((((A4.drew.trans A (by simp;omega)).alloc (ay _) _).grown N2 (ay _) (fun k hk=>by simp[Value.ownBlock]at hk))).setCell (a:=(ai w2.heap.size 3)) (by simp;omega) (.slice (some (ai gg 0)) (0+1) cap);have hlt2:i3<i4:=jh _ _ _ _ _ h4;refine⟨ws.length,i4,[f],.slice (some (ai gg 0)) (0+1) cap,by simp;omega,by omega,HM,A6.rd R R.blocks.1 R.blocks.2 R5.lt,A6,?_,?_,?_,?_⟩
        ·exact(((K4.drew.adv_ A (by simp;omega) n1).alloc _).grown N2 (by simp[Value.ownBlock])).other 3 _ n6
        ·exact(((J4.drew.adv_ A (by simp;omega) n5).alloc _).grown N2 (by simp[Value.ownBlock])).set 3 _
        ·have:=ownsRow_setCell_below Oa (a:=(ai w2.heap.size 3)) (by simp) (.slice (some (ai gg 0)) (0+1) cap);simpa [HF.out]using this
        ·have:=N2.size;simp[World.setCell]at this⊢;omega
     case rest=>
      clear J4 R4 K4 A4 z4 j3 h4 HF HM;go_wp2_with fail
      go_loopw [20] (fun _ wr=>∃(n k:Nat) (fs:List dM) (fv:Value),fs.length<=k/\ws.length-k<=n/\Hid (lf fs (fk (d7 ws [125]) (ee ws 3) n k)=M)/\Rd wr rb wb ws k/\gm w.heap.size rb w wr k/\de wr w.heap.size #[aa 0,ae ⟨#[]⟩,aa 0,ah] 208/\de wr w2.heap.size #[aa (cZ x.1),ae x.1,aa x.2,fv] 208/\wr.ownsRow (w2.heap.size+1) 211 13 fv fs.length (fs.flatMap ox)/\w2.heap.size<wr.heap.size) (fun _ wr=>ws.length-gK rb wr)
      case atStart=>exact hcut
      case round=>
       clear hcut;obtain⟨n,k,fs,fv,hfl,hn,HP,RR,AA,KK,J,Ob,hz⟩:=hrel;have hk:=RR.lt;have hfew:=RR.few;have Of:=RR.nextOf;have HN:Hid (gK rb wr=k):=Of;clear Of;obtain⟨y,hy⟩:=RR.word
       cases hs:(y.1.toList== [125])
       ·have Od:d7 ws [125] k=false:=by unfold d7;simp only[hy,hs]
        have HY:Hid (ws[k]?=some y):=hy;clear hy;go_wp2_with fail
        refine(GU _ rb wb ws k y _ RR HY.out).mono ?_;rintro e w3 ⟨rfl,N7⟩;rw[show(ByteArray.mk #[125]).toList= [125]from by decide+kernel];have R3:=RR.below N7 RR.blocks.1 RR.blocks.2;have A3:=AA.below N7 AA.size;have K3:=KK.below N7 KK.lt;have J3:=J.below N7 J.lt;have N3:w3.ownsRow (w2.heap.size+1) 211 13 fv fs.length (fs.flatMap ox):=dO N7 Ob;have Ol:w2.heap.size<w3.heap.size:=aC hz N7.size
        have HO:Hid (some w2.heap.size≠fv.ownBlock):=by
         intro e;have:=(N3.lt _ e.symm).1;omega
        clear RR AA KK J Ob hz N7;go_wp2_with fail
        have j3:=J3.cell 3
        cases h4:ee ws 3 k with
        |error p=>
         obtain rfl:r= .error p:=by
          rw[<-Oe.out,<-HP.out,nV Od (by omega) h4];rfl
         refine wp_region_held_drew (S:=fun w'=>w'.cell? (ai w2.heap.size 3)=some fv) (by kernel_rfl) (by simpa using j3) (fun hHeld=> ?_);refine fC 0 (.pointer (some (ai w2.heap.size 3))) rfl (by kernel_rfl) (fun _ _ _ h=>h) (Or.inl ⟨by rfl,fun w N8=>by dsimp only at N8;go_simp⟩) hHeld ?_;refine fC 1 fv rfl (by kernel_rfl) (fun _ _ _ h=>h) (Or.inl ⟨by rfl,fun w N8=>by dsimp only at N8;go_simp⟩) hHeld ?_;refine fC 2 (ag rb) rfl (by kernel_rfl) (fun _ _ _ h=>h) (Or.inl ⟨by rfl,fun w N8=>by dsimp only at N8;go_simp⟩) hHeld ?_;simp only[Act.put,NZ];refine wpAnyH_ready (rs:= [3]) (by kernel_rfl) (by simp) (AllReadyH.cons rfl (fun K hK=> ?_) AllReadyH.nil);clear hK;go_simp;refine(G8 _ rb wb ws k 3 R3.drew).mono ?_;rw[h4];rintro e w4 ⟨rfl,j,A⟩;exact⟨rfl,rfl,j,A3.drew.trans A (by have:=A3.size;simp;omega)⟩
        |ok q=>
         obtain⟨f,k1⟩:=q;have HF:Hid (ox f=_):=oY h4;have hk1:k<k1:=jh _ _ _ _ _ h4
         have Om:Hid (lf (fs++ [f]) (fk (d7 ws [125]) (ee ws 3) (n-1) k1)=M):=by
          rw[<-HP.out,pF fs Od (by omega) h4];exact rfl
         have J:=J3;have RR:=R3;go_region_law (first|(refine step_append_lies _ (by rfl) _ _ _ (by rfl) (w2.heap.size+1) 211 i0 _ 13 136 Tryz.underlying206 Og Oh Oi Oj rfl (by omega) fv fs.length (fs.flatMap ox) (by rfl) ((ig A (ay _) (by have:=R.blocks;omega) (mo N3)).alloc _) (ai w4.heap.size 0) 1 1 [_,_,_,_,_,_,_,_,_,_,_,_,_] (by rfl) (by rfl) (bl (t:=211) (fr:=(0,0)) (heap_alloc_new w4 _)) (by simp[Value.oneCell']) (by omega) (by unfold maxLen;omega) (by omega) (by have:=A.size;simp at this⊢;omega) (w4.heap.size+1) (by simp) ?_;intro gg cap w5 Oa N2 Oq Ot;obtain⟨x1,x2⟩:=(((J.drew.adv_ A (by simp;omega) n5).alloc _).grown N2 HO.out).rules)|(go_simp;go_at_call 341;refine(G8 _ rb wb ws k 3 RR.drew).mono ?_;rw[h4];rintro e w4 ⟨rfl,R5,A⟩;obtain⟨y1,y2⟩:=(J.drew.adv_ A (by simp;omega) n5).rules;obtain⟨y3,y4,y5,y6⟩:=eK (w:=w4) (b:=w2.heap.size) (by have:=A.size;simp at this;omega)))
         all_goals
          go_wp2;go_roundw
          case rel=>
           go_light;have Ok:w3.heap.size<=w4.heap.size:=by have:=A.size;simpa using this
           have Oo:=N2.size;have A6:=((((A3.drew.trans A (by have:=A3.size;simp;omega)).alloc (ay _) _).grown N2 (ay _) (fun j hj=>by have:=(N3.lt j hj).1;omega))).setCell (a:=(ai w2.heap.size 3)) (by simp;omega) (.slice (some (ai gg 0)) (fs.length+1) cap);refine⟨n-1,k1,fs++ [f],.slice (some (ai gg 0)) (fs.length+1) cap,by simp;omega,by omega,Om,A6.rd R R.blocks.1 R.blocks.2 R5.lt,A6,?_,?_,?_,?_⟩
           ·exact(((K3.drew.adv_ A (by simp;omega) n1).alloc _).grown N2 (fun e=>by have:=(N3.lt _ e.symm).1;omega)).other 3 _ n6
           ·exact(((J3.drew.adv_ A (by simp;omega) n5).alloc _).grown N2 HO.out).set 3 _
           ·have:=ownsRow_setCell_below Oa (a:=(ai w2.heap.size 3)) (by simp) (.slice (some (ai gg 0)) (fs.length+1) cap);simpa [HF.out]using this
           ·simp[World.setCell]at Oo⊢;omega
          case measure=>
           go_light;have A6:=((((A3.drew.trans A (by have:=A3.size;simp;omega)).alloc (ay _) _).grown N2 (ay _) (fun j hj=>by have:=(N3.lt j hj).1;omega))).setCell (a:=(ai w2.heap.size 3)) (by simp;omega) (.slice (some (ai gg 0)) (fs.length+1) cap);have R6:=A6.rd R R.blocks.1 R.blocks.2 R5.lt;have h6:=R6.lt;rw[R6.nextOf,HN.out];omega
       ·have Od:d7 ws [125] k=true:=by unfold d7;simp only[hy,hs]
        have h5:eQ ws [125] k= .ok ((),k+1):=by unfold eQ;simp only[hy,hs];rfl
        have HY:Hid (ws[k]?=some y):=hy;clear hy
        obtain rfl:r= .ok (⟨some x,fs⟩,k+1):=by
         rw[<-Oe.out,<-HP.out,mm Od];simp only[lf,fx,h5,bT]
        go_wp2_with fail
        refine(GU _ rb wb ws k y _ RR HY.out).mono ?_;rintro e w3 ⟨rfl,N7⟩;rw[show(ByteArray.mk #[125]).toList= [125]from by decide+kernel];have R3:=RR.below N7 RR.blocks.1 RR.blocks.2;have A3:=AA.below N7 AA.size;have K3:=KK.below N7 KK.lt;have J3:=J.below N7 J.lt;have N3:w3.ownsRow (w2.heap.size+1) 211 13 fv fs.length (fs.flatMap ox):=dO N7 Ob;have Ol:w2.heap.size<w3.heap.size:=aC hz N7.size;clear RR AA KK J Ob hz N7;go_wp2_with fail
        refine(Ax _ rb wb ws k _ [125] R3 (by decide+kernel) (by decide)).mono ?_;rw[h5];rintro e w4 ⟨rfl,R4,A⟩;have K4:=K3.adv_ A (by omega) n1;have J4:=J3.adv_ A (by omega) n5;have A4:=A3.trans A A3.size;have Oc:w4.ownsRow (w2.heap.size+1) 211 13 fv fs.length (fs.flatMap ox):=ig A (ay _) (by have:=R.blocks;omega) N3;obtain⟨fa,fn,fc,rfl⟩:=df Oc;obtain⟨k1,k2⟩:=K4.rules;obtain⟨j1,j2⟩:=J4.rules;go_wp2;have A9:=A4.sets (b:=w.heap.size) (ay _) [aa (cZ x.1),ae x.1,aa x.2,.slice fa fn fc] 0;have K9:=K4.sets_all [aa (cZ x.1),ae x.1,aa x.2,.slice fa fn fc] rfl;refine bodyPost_ret (dw Tryz.results338 _ _ rfl K9 Tryz.underlying208 (by kernel_rfl)) rfl ⟨⟨_,rfl,?_⟩,?_,A9⟩
        ·exact fM (lo:=w.heap.size) Oc (b:=w.heap.size) (Nat.lt_succ_of_lt z2) (Nat.le_succ_of_le (bw z2)) [aa (cZ x.1),ae x.1,aa x.2,.slice fa fn fc] 0
        ·exact A9.rd R R.blocks.1 R.blocks.2 R4.lt
end
end Go.Proofs.YtfebdimolnobaaaGreatDoor
