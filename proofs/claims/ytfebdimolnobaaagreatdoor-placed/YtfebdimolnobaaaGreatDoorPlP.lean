import Derived.Test.YtfebdimolnobaaaGreatDoorPlM
set_option maxRecDepth 100000
set_option maxHeartbeats 8000000
set_option linter.all false
namespace Go.Proofs.YtfebdimolnobaaaGreatDoor
open Go.RowKit
section
attribute [local go_sem↓] Go.wp_at_zero Go.wp_at_succ
theorem CK {mp:ByteArray->Option Nat}{g:GF}{kind:Int}:CJ kind (dL (dC mp g)) (fG mp g)=jd mp g kind:=by
 unfold CJ jd
 congr 1
theorem DC.one {v:Value}(h:DC v):v.oneCell'=true:=by
 obtain⟨f,cap,rfl⟩:=h;rfl
theorem sF.fn {w:World}{Q:Nat->Prop}{mp pm:ByteArray->Option Nat}{g:GF}{v:Value}(h:sF w Q (jE w Q mp pm) g v):DC v:=by
 unfold sF at h
 split at h
 ·unfold jE at h
  split at h
  ·obtain⟨_,_,_,_,_,rfl,_⟩:=h;exact⟨_,_,rfl⟩
  ·unfold yj at h
   split at h
   ·obtain⟨_,_,_,_,_,rfl,_⟩:=h;exact⟨_,_,rfl⟩
   ·split at h
    ·obtain⟨_,_,_,_,rfl,_⟩:=h;exact⟨_,_,rfl⟩
    ·obtain⟨_,_,_,_,rfl,_⟩:=h;exact⟨_,_,rfl⟩
 ·obtain⟨_,_,_,_,rfl,_⟩:=h;exact⟨_,_,rfl⟩
theorem kH.one {w:World}{Q:Nat->Prop}{mp pm:ByteArray->Option Nat}{g:GF}{x:py}(h:kH w Q mp (jE w Q mp pm) (gz w Q mp pm) g x):x.c1.oneCell'=true/\x.c2.oneCell'=true/\x.c3.oneCell'=true/\x.c4.oneCell'=true/\x.c5.oneCell'=true/\x.c6.oneCell'=true/\x.c7.oneCell'=true:=by
 obtain⟨a,n,c,hr⟩:=df h.riv.1;obtain⟨_,_,⟨_,_,q4,_⟩,⟨_,_,q5,_⟩,_,_,q6,_⟩:=h.enc;refine⟨by rw[h.kind];rfl,by rw[h.packs];rfl,by rw[hr];rfl,by rw[q4.eq];rfl,by rw[q5.eq];rfl,by rw[q6.eq];rfl,h.read.fn.one⟩
def Ai (w:World)(Q:Nat->Prop)(mp pm:ByteArray->Option Nat)(gs:List GF)(num:Int)(e:Ending):Prop:=
 match fV gs num with
 |none=>e= .returned (.pointer none)
 |some g=>∃gb j v,e= .returned (.pointer (some ⟨gb,j,none⟩))/\Q gb/\gb<w.heap.size/\sF w Q (jE w Q mp pm) g v/\∀W:World,W.heap[gb]?=w.heap[gb]?->W.cell? ⟨gb,j+1,none⟩=some (.int .i64 (dL (dC mp g)))/\W.cell? ⟨gb,j+2,none⟩=some (.bool (fG mp g))/\W.cell? ⟨gb,j+7,none⟩=some v
def xV (w:World)(Q:Nat->Prop)(mp pm:ByteArray->Option Nat)(gs:List GF)(num:Int)(e:Ending):Prop:=
 match fV gs num with
 |none=>e= .returned (.pointer none)
 |some g=>∃gb j x,e= .returned (.pointer (some ⟨gb,j,none⟩))/\Q gb/\gb<w.heap.size/\kH w Q mp (jE w Q mp pm) (gz w Q mp pm) g x/\∀W:World,W.heap[gb]?=w.heap[gb]?->∀i c,(gB x)[i]?=some c->W.cell? ⟨gb,j+i,none⟩=some c
theorem xV.is {w:World}{Q:Nat->Prop}{mp pm:ByteArray->Option Nat}{gs:List GF}{num:Int}{e:Ending}(h:xV w Q mp pm gs num e):Ai w Q mp pm gs num e:=by
 unfold xV at h;unfold Ai
 cases hf:fV gs num with
 |none=>rw[hf]at h;exact h
 |some g=>
  rw[hf]at h;obtain⟨gb,j,x,h1,h2,h3,Ox,h5⟩:=h;exact⟨gb,j,x.c7,h1,h2,h3,Ox.read,fun W hW=>⟨by rw[<-Ox.kind];exact h5 W hW 1 _ rfl,by rw[<-Ox.packs];exact h5 W hW 2 _ rfl,h5 W hW 7 _ rfl⟩⟩
theorem qi (w:World)(Q:Nat->Prop)(mp pm:ByteArray->Option Nat)(gs:List GF)(pb:Nat)(num:Int)(h:fZ w Q mp pm gs pb)(hs:gs.Pairwise (fun x y=>x.f.num<=y.f.num))(hl:gs.length<=2001):
  Calls Tryz.prog 141 #[.pointer (some ⟨pb,0,none⟩),.int .i64 num] w fun e w'=>xV w Q mp pm gs num e/\Below w.heap.size w w':=by
 obtain⟨v,l,h1,h2,h3,h4⟩:=h;obtain⟨va,vn,vc,rfl⟩:=df h3.1;have hn:=h4.nums;have O4:=h4.len
 have Pq:l.Pairwise (fun a b=>a.n<=b.n):=by
  have:(l.map (·.n)).Pairwise (·<=·):=by rw[hn];exact bJ.2 hs
  exact bJ.1 this
 refine(JK w pb _ l num 0 h1 h3.1 (fun x hx=> ?_) Pq (by omega)).mono ?_
 ·obtain⟨i,hi⟩:=List.mem_iff_getElem?.1 hx;obtain⟨g,_,hg⟩:=h4.get hi;exact hg.one
 ·rintro e w' ⟨hq,hb⟩;refine⟨?_,hb⟩;unfold xV
  rcases hq with⟨i,gb,x,hx,PB,PC,PD,rfl⟩|⟨OF,rfl⟩
  ·obtain⟨g,hg,Ox⟩:=h4.get hx
   have hf:fV gs num=some g:=sW hg (by rw[<-Ox.n];exact PB) (fun k y hy hk=>by
    have O5:k<l.length:=by
     rw[O4]
     by_cases q:k<gs.length
     ·exact q
     ·rw[aQ (by omega)]at hy;cases hy
    obtain⟨g',OL,Oq⟩:=h4.get (aJ O5);rw[hy]at OL;obtain rfl:=Option.some.inj OL;have:=PC k _ (aJ O5) hk;rw[Oq.n]at this
    exact this)
   rw[hf];have hil:=gl hx;obtain⟨g',rfl,_,Oy,N2⟩:=dE h3.1 (by omega);obtain rfl:g'=gb:=by simpa [Value.ownBlock]using PD
   refine⟨g',i*8,x,rfl,h3.2 g' rfl,Oy,Ox,fun W hW j c hj=> ?_⟩;have O6:=gl hj;rw[nH]at O6;exact N2 W hW _ _ ((eE gB 8 nH l i x hx j O6).trans hj)
  ·rw[my fun g hg=>by
    obtain⟨i,hi⟩:=List.mem_iff_getElem?.1 hg
    have O7:i<l.length:=by
     rw[O4]
     by_cases q:i<gs.length
     ·exact q
     ·rw[aQ (by omega)]at hi;cases hi
    obtain⟨g',OL,Oq⟩:=h4.get (aJ O7);rw[hi]at OL;obtain rfl:=Option.some.inj OL;rw[<-Oq.n]
    exact OF _ (List.getElem_mem O7)]
theorem IK (w:World)(Q:Nat->Prop)(mp pm:ByteArray->Option Nat)(gs:List GF)(pb:Nat)(num:Int)(h:fZ w Q mp pm gs pb)(hs:gs.Pairwise (fun x y=>x.f.num<=y.f.num))(hl:gs.length<=2001):
  Calls Tryz.prog 141 #[.pointer (some ⟨pb,0,none⟩),.int .i64 num] w fun e w'=>Ai w Q mp pm gs num e/\Below w.heap.size w w':=(qi w Q mp pm gs pb num h hs hl).mono fun _ _ q=>⟨q.1.is,q.2⟩
theorem Bu (S:dG)(mp pm:ByteArray->Option Nat)(B:Nat)(b:ByteArray)(hS:za S)(hbs:b.size<=4000000):∀F,Gc S mp pm B b F:=by
 intro F
 induction F using Nat.strongRecOn with
 |_ F ih=>
 intro w Z d m a e deep k pb gs rb db cx PE hM hG Pj hr hd hZ OR PG PH he hF PI PJ;have OQ:(b.extract 0 e).size=e:=eG he;have OT:=cx.le;have Pr:rb<w.heap.size:=de.lt hr;obtain⟨P,hP⟩:∃P,dQ S b F d m a e deep=P:=⟨_,rfl⟩;rw[hP];have O0:uX S k d B w w Z Z rb db b e deep F a m P:=⟨dF.refl _ _ _,hr,hd,PH,PJ,hF,hP.symm,hZ⟩;clear hP;go_enter Tryz.func89,Tryz.ntmps89
 go_wp2;go_loopw [9] (fun _ wr=>∃Z' a' m' F',F'<=F/\uX S k d B w wr Z Z' rb db b e deep F' a' m' P) (fun _ wr=>jM wr rb e)
 case atStart=>exact⟨Z,a,m,F,ay _,O0⟩
 case round=>
  obtain⟨Z',a',m',F',hFF,O⟩:=hrel;have O8:=ph wr rb _ a' deep O.rr;rw[OQ]at O8;have hhi:=O.hi;have hfu:=O.fu;go_wp2_with fail
  refine O8.mono ?_;rintro en w4 ⟨rfl,q,rfl⟩
  by_cases hlt:a'<e
  ·have Ps:decide (a'<e)=true:=decide_eq_true hlt;obtain⟨F1,rfl⟩:∃F1,F'=F1+1:=⟨F'-1,by omega⟩;have Pa:dn (wr.drewN q) rb (b.extract 0 e) a' deep:=O.rr;have Pt:dB S (k+1) (some d) (wr.drewN q) Z' db m':=O.dr.keep (fun _ _ _=>rfl);have OU:dF w Z rb (wr.drewN q) Z':=O.st.trans (.of_below (gC (Below.refl _ _) q));have Pv:=LE (wr.drewN q) rb _ a' deep Pa;have Pb:=EH (wr.drewN q) rb _ a' deep Pa (by omega);have OV:∀x,Z' x->B<=x/\x<(wr.drewN q).heap.size:=O.zz;have Ow:¬Z' rb:=O.st.not Pr PG;have HM:Hid (jM wr rb e=e-a'):=fO O.rr;have OC:∀x,Z x->B<=x:=fun x q=>(hZ x q).1
   obtain⟨T,hT⟩:∃T,iH (b.extract 0 e) a'=T:=⟨_,rfl⟩;rw[hT]at Pb;have HT:Hid (iH (b.extract 0 e) a'=T):=hT;clear hT;generalize wr.drewN q=w4 at*;go_wp2_with fail
   refine Pv.mono ?_;rintro en w5 ⟨rfl,rfl⟩;go_wp2_with fail
   refine Pb.mono ?_;intro en w6 PL
   rcases PL.part with⟨x,rfl,rfl,Ot⟩|⟨x,rfl,rfl,Ot,O1⟩
   ·have HB:Hid (P= .error x):=by
     show P=_;rw[O.eq.out,zp he hlt HT.out]
    unfold da;go_wp2;rw[HB.out];exact⟨rfl,rfl,Z',OU.trans (.of_kept Ot)⟩
   obtain⟨⟨num,kind⟩,z⟩:=x;obtain⟨kn,Pk,OS,Pm,O2⟩:=AV HT.out;simp only at Pk Pm O2 O1;subst Pk;rw[OQ]at O2;obtain⟨B7,KT⟩:=di w6 #[.int .i64 num,.int .i64 kn] 237;have Pc:dn (w6.alloc (Obj.cells #[.int .i64 num,.int .i64 kn] 237)) rb (b.extract 0 e) z deep:=de.alloc O1 _;have Pd:=(OU.trans (.of_kept Ot)).trans (.of_below B7);have Pw:=(dF.dr Pt Ot Ow).keep (fun x _ q=>B7.block x q);have Px:Below B w (w6.alloc (Obj.cells #[.int .i64 num,.int .i64 kn] 237)):=Pd.below OT OC OR;have Py:=IK (w6.alloc (Obj.cells #[.int .i64 num,.int .i64 kn] 237)) (fun b=>b<B) mp pm gs pb num (hM.keep (fun x q _=>Px.block x q) (fun _ _ q=>q)) hG.srt hG.len;have Pe:∀x,Z' x->B<=x/\x<(w6.alloc (Obj.cells #[.int .i64 num,.int .i64 kn] 237)).heap.size:=fun x q=>⟨(OV x q).1,aC (aC (OV x q).2 Ot.size) B7.size⟩
   have Pz:¬Z' w6.heap.size:=fun q=>by have:=(OV _ q).2;have:=Ot.size;omega
   obtain⟨k1,k2⟩:=KT.rules;have hrw:rb<w6.heap.size:=de.lt O1;have hBt:B<=w6.heap.size:=by have:=(OU.trans (.of_kept Ot)).size;omega
   go_wp2_with fail
   generalize w6.alloc (Obj.cells #[.int .i64 num,.int .i64 kn] 237)=w7 at*;generalize w6.heap.size=tb at*;refine Py.mono ?_;rintro en w8 ⟨Oz,B8⟩;have OD:dn w8 rb (b.extract 0 e) z deep:=de.below Pc B8 (de.lt Pc);have OE:=Pd.trans (.of_below B8);have OW:=Pw.keep (fun x _ q=>B8.block x q);have hb8:Below B w w8:=OE.below OT OC OR;have Oh:=KT.below B8 KT.lt;have Pf:∀x,Z' x->B<=x/\x<w8.heap.size:=fun x q=>⟨(Pe x q).1,aC (Pe x q).2 B8.size⟩
   have hul:=O.wm.len;have hO:uX S k d B w wr Z Z' rb db b e deep (F1+1) a' m' P:=O;clear k1 k2 O
   cases hfind:fV gs num with
   |none=>
    have OF:∀f,dv d.fs num=some f->¬(kn=eZ S f\/(kn=2/\f.isRep=true)):=fun f hf hq=>by
     obtain⟨g,q1,q2⟩:=hG.yes num f hf;rw[hfind]at q1
     cases q1
    unfold Ai at Oz;rw[hfind]at Oz;obtain rfl:en= .returned (.pointer none):=Oz;have OG:=xf w8 rb _ z deep kn OD (by omega) (by omega) (by omega);obtain⟨R,hR⟩:∃R,jz (b.extract 0 e) z kn=R:=⟨_,rfl⟩
    have HL:Hid (P=Fv S b F1 d m' a' e deep R):=by
     have h:=qL (S:=S) (F:=F1) (deep:=deep) (d:=d) (m:=m') he hlt HT.out OS OF;rw[hR]at h;show P=_;rw[hO.eq.out,h]
     all_goals (cases R<;>rfl)
    have HW:Hid (∀y,R= .ok y->z<y.2/\y.2<=e):=fun y hy=>by
     have:=sC (hR.trans hy);rw[OQ]at this;exact this
    rw[hR]at OG;clear hR hfind;obtain⟨k1,k2⟩:=Oh.rules;go_wp2_with fail
    refine OG.mono ?_;intro en w9 OM
    rcases OM.part with⟨x,rfl,rfl,Od⟩|⟨y,rfl,rfl,Od,Og⟩
    ·unfold da;go_wp2;rw[HL.out];exact⟨rfl,rfl,Z',OE.trans (.of_kept Od)⟩
    obtain⟨Pn,Ou⟩:=HW.out y rfl;have OH:=sj w9 rb _ y.2 deep a' Og (by omega) (by omega);have OI:=dF.dr OW Od Ow;have hex:(b.extract 0 e).extract a' y.2=b.extract a' y.2:=iE he Ou;rw[hex]at OH;clear k1 k2;go_wp2_with fail
    refine OH.mono ?_;rintro en PO ⟨rfl,Oe,rfl⟩;have Oi:dB S (k+1) (some d) (w9.drewN Oe) Z' db m':=OI.keep (fun _ _ _=>rfl);have OX:=xr S k (some d) (w9.drewN Oe) Z' db m' (b.extract a' y.2) Oi (by rw[aR];omega);go_wp2_with fail
    refine OX.mono ?_;rintro en Of ⟨rfl,ON,Ob,Ov⟩;have Oj:dn (w9.drewN Oe) rb (b.extract 0 e) y.2 deep:=Og;have N8:dn Of rb (b.extract 0 e) y.2 deep:=de.step Oj Ob Ow;have stA:dF w Z rb Of ON:=((OE.trans (.of_kept Od)).trans (.of_below (gC (Below.refl _ _) Oe))).trans (.of_step Ob)
    have O9:uX S k d B w Of Z (fun i=>ON i/\i<Of.heap.size) rb db b e deep F1 y.2 (m'.keep (b.extract a' y.2)) P:=
     ⟨stA.clip,N8,Ov.clip,Ou,hO.wm.keep _ (by rw[aR];omega),by omega,HL,fun x q=>⟨(stA.grow x q.1).elim (OC x) (fun e=>by omega),q.2⟩⟩
    go_wp2;go_roundw
    case rel=>exact⟨_,_,_,_,by omega,O9⟩
    case measure=>rw[HM.out,fO N8];omega
   |some g=>
    unfold Ai at Oz;rw[hfind]at Oz;obtain⟨gb,j,v,rfl,hgB,Oy,O3,N2⟩:=Oz
    obtain⟨f,OO,fg⟩:∃f,dv d.fs num=some f/\FG S mp d f g:=by
     cases hf:dv d.fs num with
     |none=>rw[hG.no num hf]at hfind;cases hfind
     |some f=>
      obtain⟨g2,q1,q2⟩:=hG.yes num f hf;rw[hfind]at q1
      cases q1
      exact⟨f,rfl,q2⟩
    obtain⟨c1,c2,_⟩:=N2 w8 (B8.block gb Oy);have OJ:=Gm w8 gb j kn _ _ c1 c2;rw[CK]at OJ;have OY:sF w8 (fun b=>b<B) (jE w8 (fun b=>b<B) mp pm) g v:=O3.keep (fun x _ q=>B8.block x q) (fun v hv=>jE.keep (fun x _ q=>B8.block x q) (fun _ _ q=>q) hv);clear c1 c2 hfind
    cases hft:jd mp g kn with
    |false=>
     rw[hft]at OJ
     have OF:∀f,dv d.fs num=some f->¬(kn=eZ S f\/(kn=2/\f.isRep=true)):=fun f' Po hq=>by
      rw[OO]at Po
      cases Po
      rw[(lU fg).2 hq]at hft
      cases hft
     clear hft;obtain⟨k1,k2⟩:=Oh.rules;go_wp2_with fail
     refine OJ.mono ?_;rintro en N7 ⟨rfl,OA⟩;have Ok:dn N7 rb (b.extract 0 e) z deep:=de.below OD OA (de.lt OD);have N3:=OE.trans (.of_below OA);have Ol:=OW.keep (fun x _ q=>OA.block x q);have Oa:=Oh.below OA Oh.lt;have OG:=xf N7 rb _ z deep kn Ok (by omega) (by omega) (by omega);obtain⟨R,hR⟩:∃R,jz (b.extract 0 e) z kn=R:=⟨_,rfl⟩
     have HL:Hid (P=Fv S b F1 d m' a' e deep R):=by
      have h:=qL (S:=S) (F:=F1) (deep:=deep) (d:=d) (m:=m') he hlt HT.out OS OF;rw[hR]at h;show P=_;rw[hO.eq.out,h]
      all_goals (cases R<;>rfl)
     have HW:Hid (∀y,R= .ok y->z<y.2/\y.2<=e):=fun y hy=>by
      have:=sC (hR.trans hy);rw[OQ]at this;exact this
     rw[hR]at OG;clear hR k1 k2;obtain⟨k1,k2⟩:=Oa.rules;go_wp2_with fail
     refine OG.mono ?_;intro en w9 OM
     rcases OM.part with⟨x,rfl,rfl,Od⟩|⟨y,rfl,rfl,Od,Og⟩
     ·unfold da;go_wp2;rw[HL.out];exact⟨rfl,rfl,Z',N3.trans (.of_kept Od)⟩
     obtain⟨Pn,Ou⟩:=HW.out y rfl;have OH:=sj w9 rb _ y.2 deep a' Og (by omega) (by omega);have OI:=dF.dr Ol Od Ow;have hex:(b.extract 0 e).extract a' y.2=b.extract a' y.2:=iE he Ou;rw[hex]at OH;clear k1 k2;go_wp2_with fail
     refine OH.mono ?_;rintro en PO ⟨rfl,Oe,rfl⟩;have Oi:dB S (k+1) (some d) (w9.drewN Oe) Z' db m':=OI.keep (fun _ _ _=>rfl);have OX:=xr S k (some d) (w9.drewN Oe) Z' db m' (b.extract a' y.2) Oi (by rw[aR];omega);go_wp2_with fail
     refine OX.mono ?_;rintro en Of ⟨rfl,ON,Ob,Ov⟩;have Oj:dn (w9.drewN Oe) rb (b.extract 0 e) y.2 deep:=Og;have N8:dn Of rb (b.extract 0 e) y.2 deep:=de.step Oj Ob Ow;have stA:dF w Z rb Of ON:=((N3.trans (.of_kept Od)).trans (.of_below (gC (Below.refl _ _) Oe))).trans (.of_step Ob)
     have O9:uX S k d B w Of Z (fun i=>ON i/\i<Of.heap.size) rb db b e deep F1 y.2 (m'.keep (b.extract a' y.2)) P:=
      ⟨stA.clip,N8,Ov.clip,Ou,hO.wm.keep _ (by rw[aR];omega),by omega,HL,fun x q=>⟨(stA.grow x q.1).elim (OC x) (fun e=>by omega),q.2⟩⟩
     go_wp2;go_roundw
     case rel=>exact⟨_,_,_,_,by omega,O9⟩
     case measure=>rw[HM.out,fO N8];omega
    |true=>
     rw[hft]at OJ;obtain⟨k1,k2⟩:=Oh.rules;have Pg:Hid (jd mp g kn=true):=hft;clear hft;go_wp2_with fail
     refine OJ.mono ?_;rintro en N7 ⟨rfl,OA⟩;have Oc:Below w8.heap.size w8 N7.drew:=OA.drew;have Ok:dn N7.drew rb (b.extract 0 e) z deep:=de.below OD Oc (de.lt OD);have N3:=OE.trans (.of_below Oc);have Ol:=OW.keep (fun x _ q=>Oc.block x q);have Oa:=Oh.below Oc Oh.lt;have Om:Below B w N7.drew:=N3.below OT OC OR;have Oo:∀x,Z' x->B<=x/\x<N7.drew.heap.size:=fun x q=>⟨(Pf x q).1,aC (Pf x q).2 Oc.size⟩
     have OZ:f.num=num:=(eY OO).1;have I:lR N7.drew B S mp k d Z' rb db b e a' z deep m':=⟨cx.on Om,Ok,Ol,Oo,OR,Ow,Pm,O2,he,hbs,hO.wm⟩;obtain⟨uf,OP,rfl,eg,Pp⟩:=DT N7.drew B S mp pm k d f g Z' rb db b e a' z deep F1 kn num m' v I (PE.keep (fun x q _=>Om.block x q)) (OY.keep (fun x _ q=>Oc.block x q) (fun v hv=>jE.keep (fun x _ q=>Oc.block x q) (fun _ _ q=>q) hv)) fg (by rw[OZ];exact OO) hS PI Pj (ih F1 (by omega)) (by omega) Pg.out;have hit:=(lU fg).1 Pg.out;obtain⟨R,hR⟩:∃R,ip S b F1 d f m' deep (eh (b.extract 0 e) a' num kn z)=R:=⟨_,rfl⟩
     have HL:Hid (P=I4 S b F1 d e deep R):=by
      have h:=zl (S:=S) (F:=F1) (deep:=deep) (d:=d) (m:=m') he hlt HT.out OS OO hit;rw[hR]at h;show P=_;rw[hO.eq.out,h]
      all_goals (cases R<;>rfl)
     have HW:Hid (∀y,R= .ok y->WM S y.2 d y.1/\z<y.2/\y.2<=e):=fun y hy=>Cr hS hbs Pj he hO.wm HT.out OS OO hit (hR.trans hy)
     rw[hR]at Pp;clear hR k1 k2 hit;have Ph:N7.drew.heap[gb]?=w7.heap[gb]?:=(Oc.block gb (aC Oy B8.size)).trans (B8.block gb Oy);obtain⟨_,_,c7⟩:=N2 N7.drew Ph;have PA:gb<N7.drew.heap.size:=aC Oy (aG B8.size Oc.size);have Pi:=Oa.cell 1;simp only[List.getElem?_toArray,ch,ci]at Pi;go_upto_region 5 with fail
     go_region_held2 (fun W=>W.cell? ⟨gb,j+7,none⟩=some (.func (.func uf) #[] OP.toArray)/\W.cell? ⟨tb,1,none⟩=some (.int .i64 kn))
      (first|exact c9|exact⟨c7,Pi⟩)
      (
       first |(
        refine Pp.mono ?_;intro en w9 OM
        rcases OM.part2 with⟨x,rfl,rfl,Z9,OB⟩|⟨y,rfl,rfl,Z9,OB,OI,Og⟩
        ·unfold da;go_wp2;rw[HL.out];exact⟨rfl,rfl,Z9,N3.trans OB⟩
        have c9:w9.cell? ⟨gb,j+7,none⟩=some (.func (.func uf) #[] OP.toArray)/\w9.cell? ⟨tb,1,none⟩=some (.int .i64 kn):=⟨(N2 w9 ((OB.block gb PA (fun q=>by have:=(Oo gb q).1;omega) (by omega)).trans Ph)).2.2,(show de w9 tb #[.int .i64 num,.int .i64 kn] 237 from(OB.block tb Oa.lt Pz (by omega)).trans Oa).cell 1⟩))
     obtain⟨PP,Pn,Ou⟩:=HW.out y rfl
     have O9:uX S k d B w w9 Z (fun i=>Z9 i/\i<w9.heap.size) rb db b e deep F1 y.2 y.1 P:=
      ⟨(N3.trans OB).clip,Og,OI.clip,Ou,PP,by omega,HL,fun x q=>⟨(OB.grow x q.1).elim (fun e=>(Oo x e).1) (fun e=>by have:=Om.size;omega),q.2⟩⟩
     go_wp2;go_roundw
     case rel=>exact⟨_,_,_,_,by omega,O9⟩
     case measure=>rw[HM.out,fO Og];omega
  ·have Ps:decide (a'<e)=false:=decide_eq_false hlt;obtain rfl:a'=e:=by omega
   have HE:Hid (P= .ok m'):=by
    show P=_;rw[O.eq.out,j7 hlt]
   go_wp2;go_end0;rw[HE.out];exact⟨rfl,Z',O.st.trans (.of_below (gC (Below.refl _ _) q)),O.dr.keep (fun _ _ _=>rfl),O.rr⟩
theorem xW {w:an}{B:Nat}{S:dG}{mp pm:am->Option Nat}{d:MT}{f:ek}{g:GF}{iq:aw}(Oc:kI w (fun b=>b<B) S mp pm)(fg:FG S mp d f g)(N3:gz w (fun b=>b<B) mp pm g (.pointer iq))(Od:fB S f=16):
  ∃t p gs,ed S f=some t/\iq=some (ai p 0)/\fZ w (fun b=>b<B) mp pm gs p/\ja S mp t gs:=by
 unfold gz at N3
 by_cases h4:g.form=4
 ·rw[if_pos h4]at N3;obtain⟨p,h1,h2⟩:=N3;have hm:f.isMap=true:=by rw[fg.map,h4];rfl
  refine⟨dW f,p,_,by unfold ed;rw[if_pos hm],by simpa using h1,Af h2,?_⟩;rw[fg.eq];exact xB fg h4
 ·rw[if_neg h4]at N3;have hm:f.isMap=false:=by rw[fg.map];simp[h4]
  have hb:gQ mp g.f.ty=16:=by
   unfold fB at Od;rw[hm]at Od;rw[fg.eq,fg.base];exact Od
  rw[if_pos hb,fg.eq]at N3;obtain⟨p,h1,h2⟩:=N3;obtain⟨d',gs,q1,q2,q3⟩:=Oc _ _ h2;exact⟨d',p,gs,by unfold ed;rw[hm];exact q1,by simpa using h1,q2,q3⟩
section
variable {mp pm:am->Option Nat}
theorem IL (w:an)(Q:ap)(pb xb:Nat)(gs:List GF)(num kind:Int)(h:fZ w Q mp pm gs pb)(hs:gs.Pairwise (fun x y=>x.f.num<=y.f.num))(hl:gs.length<=2001)(hp:de w xb #[ag pb] 116):
  Calls Tryz.prog 163 #[.agg #[aa num,aa kind],ag xb] w fun e w'=>e= .returned (.bool (pU mp gs num kind).isSome)/\aj w w':=by
 obtain⟨B0,K0⟩:=di w #[aa num,aa kind] 237;have OJ:=hp.below B0 hp.lt;have HK:=qi _ Q mp pm gs pb num (h.keep (fun b _ hl=>B0.block b hl) fun _ _ q=>q) hs hl;obtain⟨k1,k2⟩:=K0.rules;obtain⟨k3,k4⟩:=OJ.rules;unfold pU;unfold xV at HK
 cases hf:fV gs num with
 |none=>
  rw[hf]at HK;go_enter Tryz.func163,Tryz.ntmps163
  go_wp2_with fail
  refine HK.mono ?_;rintro e w2 ⟨rfl,b2⟩;go_wp2;go_ret;exact⟨rfl,cY B0 b2⟩
 |some g=>
  rw[hf]at HK;have hr:(if jd mp g kind=true then some g else none).isSome=jd mp g kind:=by split<;>simp_all
  simp only[hr];go_enter Tryz.func163,Tryz.ntmps163
  go_wp2_with fail
  refine HK.mono ?_;rintro e w2 ⟨⟨gb,j,x,rfl,_,Oe,Ob,hc⟩,b2⟩;have c1:=hc w2 (b2.block gb Oe) 1 _ rfl;have c2:=hc w2 (b2.block gb Oe) 2 _ rfl;rw[Ob.kind]at c1;rw[Ob.packs]at c2;have HF:=Gm w2 gb j kind _ _ c1 c2;rw[CK]at HF;have K2:=K0.below b2 K0.lt;clear k1 k2 k3 k4 hr;obtain⟨k1,k2⟩:=K2.rules;go_wp2_with fail
  refine HF.mono ?_;rintro e w3 ⟨rfl,b3⟩;go_wp2;go_ret;exact⟨rfl,cY B0 (cY b2 b3)⟩
end
def L0 (S:dG)(mp pm:am->Option Nat)(B n:Nat):Prop:=
 ∀(w:an) (Z:ap) (v:Value) (m:PM) (d:MT) (pb:Nat) (gs:List GF) (deep k:Nat),p8 w B S mp->kI w (fun b=>b<B) S mp pm->fZ w (fun b=>b<B) mp pm gs pb->ja S mp d gs->fR k w Z v m->kT k m->n+deep=9->
  Calls Tryz.prog 103 #[ag pb,.agg #[v,ae m.unk],aa deep] w (dA (dm S n d m) w)
theorem fZ.on {w w':an}{B:Nat}{mp pm:am->Option Nat}{gs:List GF}{pb:Nat}(h:fZ w (fun b=>b<B) mp pm gs pb)(hb:Below B w w'):fZ w' (fun b=>b<B) mp pm gs pb:=h.keep (fun b q _=>hb.block b q) fun _ _ q=>q
theorem kI.on {w w':an}{B:Nat}{S:dG}{mp pm:am->Option Nat}(h:kI w (fun b=>b<B) S mp pm)(hb:Below B w w'):kI w' (fun b=>b<B) S mp pm:=h.keep fun b q _=>hb.block b q
theorem L1 {w:an}{B n:Nat}{S:dG}{mp pm:am->Option Nat}{d:MT}{f:ek}{g:GF}{iq:aw}(ih:L0 S mp pm B n)(cx:p8 w B S mp)(Oc:kI w (fun b=>b<B) S mp pm)(fg:FG S mp d f g)(N3:gz w (fun b=>b<B) mp pm g (.pointer iq))(Od:fB S f=16):∃t,ed S f=some t/\Dw S iq n t w:=by
 obtain⟨t,p,gs,h1,rfl,h3,h4⟩:=xW Oc fg N3 Od;refine⟨t,h1,fun W' Z v m k deep hb hM hO hd=> ?_⟩;have Ok:=dj hb cx.le;exact ih W' Z v m t p gs deep k (cx.on Ok) (Oc.on Ok) (h3.on Ok) h4 hM hO hd
theorem Gn {S:dG}{mp pm:am->Option Nat}{B:Nat}:∀n,L0 S mp pm B n:=by
 intro n
 induction n with
 |zero=>
  intro w Z v m d pb gs deep k cx Oc Oy hG hM hO hd;obtain⟨a,c,rfl⟩:=hM.form;obtain rfl:deep=9:=by omega
  obtain⟨B0,K1,K2⟩:=eD w #[ag pb] #[.slice a m.fs.length c,ae m.unk] 116 49;go_enter Tryz.func103,Tryz.ntmps103
  go_wp2_with (go_at_call 157;refine(wi _).mono ?_;rintro e w2 ⟨rfl,rfl⟩;unfold da)
  exact⟨rfl,dA.no B0⟩
 |succ n ih=>
  intro w Z v m d pb gs deep k cx Oc Oy hG hM hO hd
  cases k with
  |zero=>exact hM.elim
  |succ k=>
  obtain⟨cs,hr,OG⟩:=hM;obtain⟨a,c,rfl⟩:=hr.form;have hcap:=hr.cap;obtain⟨OS,OT,OU⟩:=hO;obtain⟨B0,K1,K2⟩:=eD w #[ag pb] #[.slice a m.fs.length c,ae m.unk] 116 49;have hd8:(deep:Int)<=8:=by omega
  obtain⟨X,HX⟩:∃X,Hid (jS S (dm S n) d [] m.fs=X):=⟨_,rfl⟩
  have HM:Hid (dm S (n+1) d m=(X&&xK (tT S d) m.unk)):=by
   show dm S (n+1) d m=_;rw[dm,HX.out]
  have HU:Hid (∀(W:an),aj w W->de W w.heap.size #[ag pb] 116->Calls Tryz.prog 160 #[ae m.unk,.func (.func 163) #[] #[ag w.heap.size]] W (dA (xK (tT S d) m.unk) W)):=fun W hW hp=>
   wd W m.unk 163 [ag w.heap.size] (tT S d) OT (enters_of Tryz.func163 (by kernel_rfl) rfl) fun W2 num kind OH=>by
    have:=IL W2 (fun b=>b<B) pb w.heap.size gs num kind (Oy.on (dj (cY hW OH) cx.le)) hG.srt hG.len (hp.below OH hp.lt);rw[F6 hG]at this;exact this
  generalize xK (tT S d) m.unk=Y at*;go_enter Tryz.func103,Tryz.ntmps103
  obtain⟨k1,k2⟩:=K2.rules;go_wp2_with (go_at_call 157;refine(wh _).mono ?_;rintro e w2 ⟨rfl,rfl⟩)
  generalize(w.alloc (ak #[ag pb] 116)).alloc (ak #[.slice a m.fs.length c,ae m.unk] 49)=w1 at*;go_loopw [6,7,8,15] (fun _ _ _ iv wr=>∃i:Nat,iv=aa i/\i<=m.fs.length/\Hid (jS S (dm S n) d (m.fs.take i) (m.fs.drop i)=X)/\aj w1 wr) (fun _ _ _ iv _=>m.fs.length-(intOf iv).toNat)
  case atStart=>exact⟨0,rfl,aM _,HX,Below.refl _ _⟩
  case round=>
   obtain⟨i,rfl,hi,HI,Bw⟩:=hrel;clear k1 k2;have BW:=cY B0 Bw
   by_cases hlt:i<m.fs.length
   ·obtain⟨x,hx⟩:=gx hlt;obtain⟨vv,p1,p2,p3⟩:=OG.get hx;obtain⟨va,vc,rfl⟩:=p1.form;obtain⟨g0,rfl,hzg0,Oh,N2⟩:=hr.at (by omega);have t0:=N2 wr (BW.block _ Oh) _ _ p2;have t1:=jI (N2 wr (BW.block _ Oh) _ _ p3);obtain⟨B1,K5⟩:=di wr #[aa x.1,.slice va x.2.length vc] 58;have B2:=cY BW B1;have OB:=cY Bw B1;have Ol:=K1.below OB K1.lt;have HF:=qi _ (fun b=>b<B) mp pm gs pb x.1 (Oy.on (dj B2 cx.le)) hG.srt hG.len
    have Oi:Hid (X=(nJ S (dm S n) d (m.fs.take i) x&&jS S (dm S n) d (m.fs.take (i+1)) (m.fs.drop (i+1)))):=by
     show X=_;rw[<-HI.out,uh hx]
    obtain⟨k3,k4⟩:=Ol.rules;obtain⟨k5,k6⟩:=K5.rules;have hij:(i:Int)<(m.fs.length:Int):=by omega
    have OL:=OU x (aI hx);clear N2 p2 p3 B1 hx;go_wp2_with fail
    refine HF.mono ?_;rintro e w3 ⟨he,b3⟩;generalize wr.alloc (ak #[aa x.1,.slice va x.2.length vc] 58)=w2 at*;generalize wr.heap.size=vb at*;have B3:=cY B2 b3;have OC:=cY OB b3;unfold xV at he
    cases hfd:dv d.fs x.1 with
    |none=>
     rw[hG.no _ hfd]at he;obtain rfl:e= .returned (.pointer none):=he
     have Oa:Hid (dm S (n+1) d m=false):=by
      show dm S (n+1) d m=false;rw[HM.out,Oi.out,nJ,hfd];rfl
     go_wp2_with (go_at_call 157;refine(wi _).mono ?_;rintro e w2 ⟨rfl,rfl⟩;unfold da)
     rw[Oa.out];exact⟨rfl,dA.no B3⟩
    |some f=>
     obtain⟨g,hg,fg⟩:=hG.yes _ _ hfd;rw[hg]at he;obtain⟨gb,j,st,rfl,hgB,Oe,Ob,hc⟩:=he;have Of:=(eY hfd).1
     have HS:Hid (nJ S (dm S n) d (m.fs.take i) x=(jR g.riv g.f.num (m.fs.take i)&&fL S (dm S n) f x.2)):=by
      show nJ S (dm S n) d (m.fs.take i) x=_;unfold nJ;rw[hfd,fg.riv,fg.eq,Of]
     obtain⟨iq,N3,⟨cf,N8,⟨e4,hen⟩,OI⟩,_,_⟩:=Ob.enc;have hn:=Ob.n;have Om:=Ob.riv.keep (w':=w3.drew) fun b _ q=>b3.drew.block b q
     obtain⟨ra,rc,Oz⟩:=gS Om.1;rw[Oz]at Om;have OD:=F4 w3.drew (some g0) c c m.fs cs i g.f.num (.slice ra g.riv.length rc) g.riv (hr.keep fun b _ q=>B3.drew.block b q) (uH.below B3.drew (ay _) OG) (by omega) OS Om fg.rlen;obtain⟨q,hq⟩:∃q,jR g.riv g.f.num (m.fs.take i)=q:=⟨_,rfl⟩;rw[hq]at OD HS;have Oo:w3.heap[gb]?=w2.heap[gb]?:=b3.block gb Oe;have Oq:=(K2.below OC K2.lt);have OE:=K5.below b3 K5.lt
     have hC:∀W:an,W.heap[gb]?=w3.heap[gb]?->W.cell? (ai gb j)=some (aa g.f.num)/\W.cell? (ai gb (j+3))=some (.slice ra g.riv.length rc)/\W.cell? (ai gb (j+4))=some (.func (.func cf) #[] N8.toArray):=fun W hW=>by
      have c0:=hc W (hW.trans Oo) 0 _ rfl;have c3:=hc W (hW.trans Oo) 3 _ rfl;have c4:=hc W (hW.trans Oo) 4 _ rfl;rw[hn]at c0;rw[Oz]at c3;rw[e4]at c4;exact⟨c0,c3,c4⟩
     have N7:gb<w3.heap.size:=aC Oe b3.size;clear hq hg hfd Of HF hc Ob e4 Oz hn;have hic:(i:Int)<=(c:Int):=by omega
     go_upto_region 7 with(go_at_call 157;refine(wh _).mono ?_;rintro e w2 ⟨rfl,rfl⟩)
     have OF:=hC w3.drew rfl
     have hW:w3.drew.cell? (ai (w.heap.size+1) 0)=some (.slice (some g0) m.fs.length c)/\w3.drew.cell? (ai gb j)=some (aa g.f.num)/\w3.drew.cell? (ai gb (j+3))=some (.slice ra g.riv.length rc):=
      ⟨Oq.drew.cell 0,OF.1,OF.2.1⟩
     go_region_held2 (fun W=>W.cell? (ai (w.heap.size+1) 0)=some (.slice (some g0) m.fs.length c)/\W.cell? (ai gb j)=some (aa g.f.num)/\W.cell? (ai gb (j+3))=some (.slice ra g.riv.length rc))
      (first|exact hW|exact OM)
      (first
       |(
         go_at_call 158
         refine OD.mono ?_;intro e w4 OA
         rcases OA.part with⟨rfl,rfl,b4⟩|⟨rfl,y,z,rfl,b4⟩
         rotate_left
         ·have B4:=cY B3.drew b4
          have Oa:Hid (dm S (n+1) d m=false):=by
           show dm S (n+1) d m=false;rw[HM.out,Oi.out,HS.out];rfl
          unfold da;go_wp2;rw[Oa.out];exact⟨rfl,dA.no B4⟩
         have OM:w4.cell? (ai (w.heap.size+1) 0)=some (.slice (some g0) m.fs.length c)/\w4.cell? (ai gb j)=some (aa g.f.num)/\w4.cell? (ai gb (j+3))=some (.slice ra g.riv.length rc):=⟨(Oq.drew.below b4 Oq.drew.lt).cell 0,(hC w4 (b4.block gb N7)).1,(hC w4 (b4.block gb N7)).2.1⟩))
     have B4:=cY B3.drew b4;have ON:=cY OC.drew b4;have Ot:aj w2 w4:=cY b3.drew b4;have Ou:=OE.below (w:=w3.drew) b4 OE.lt;have Ov:=cx.on (dj B4 cx.le);have Ow:=Oc.on (dj B4 cx.le);have Og:=N3.move (.keep (w':=w4) fun b q hl=>Ot.block b hl) fun _ _ q=>q
     have HL:=OI S d f n w4 (fun b q hl=>Ot.block b hl) fg (fun W' OV=>(Ov.on (dj OV Ov.le)).u) (fun Od=>L1 ih Ov Ow fg Og Od) w4.drew Z (.slice va x.2.length vc) x.2 k deep (Below.refl _ _).drew (mB.below B4.drew (ay _) p1) OL (by omega);obtain⟨r,Oj⟩:∃r,fL S (dm S n) f x.2=r:=⟨_,rfl⟩;rw[Oj]at HL HS;clear Oj k3 k4 k5 k6 OI N3 Og;have Ox:gb<w4.heap.size:=aC Oe Ot.size;have OO:=hC w4.drew (b4.block gb N7);go_upto_region 8 with fail
     have hV:w4.drew.cell? (ai gb (j+4))=some (.func (.func cf) #[] N8.toArray)/\w4.drew.cell? (ai vb 1)=some (.slice va x.2.length vc):=⟨OO.2.2,Ou.drew.cell 1⟩
     go_region_held2 (fun W=>W.cell? (ai gb (j+4))=some (.func (.func cf) #[] N8.toArray)/\W.cell? (ai vb 1)=some (.slice va x.2.length vc))
      (first|exact hV|exact OP)
      (first
       |(
         refine HL.mono ?_;intro e w5 Oj
         rcases Oj.part with⟨rfl,rfl,b5⟩|⟨rfl,y,z,rfl,b5⟩
         rotate_left
         ·have B5:=cY B4.drew b5
          have Oa:Hid (dm S (n+1) d m=false):=by
           show dm S (n+1) d m=false;rw[HM.out,Oi.out,HS.out];rfl
          unfold da;go_wp2;rw[Oa.out];exact⟨rfl,dA.no B5⟩
         have OP:w5.cell? (ai gb (j+4))=some (.func (.func cf) #[] N8.toArray)/\w5.cell? (ai vb 1)=some (.slice va x.2.length vc):=⟨(hC w5 ((b5.block gb Ox).trans (b4.block gb N7))).2.2,(Ou.drew.below b5 Ou.drew.lt).cell 1⟩))
     have OQ:Hid (jS S (dm S n) d (m.fs.take (i+1)) (m.fs.drop (i+1))=X):=by
      show _=X;rw[Oi.out,HS.out];rfl
     go_wp2;go_roundw
     case rel=>exact⟨i+1,by go_num,by omega,OQ,cY ON.drew b5⟩
     case measure=>simp[intOf];omega
   ·obtain rfl:i=m.fs.length:=by omega
    have Oa:Hid (dm S (n+1) d m=Y):=by
     show dm S (n+1) d m=Y;rw[HM.out,<-HI.out,b9];rfl
    have Ol:=K1.below Bw K1.lt;have K22:=K2.below Bw K2.lt;have OR:=HU.out wr BW Ol;obtain⟨k3,k4⟩:=K22.rules;go_wp2_with fail
    refine OR.mono ?_;intro e w4 OA
    rcases OA.part with⟨rfl,rfl,b4⟩|⟨rfl,y,z,rfl,b4⟩
    ·go_wp2;go_end0;rw[Oa.out];exact dA.ok (cY BW b4)
    ·unfold da;go_wp2;rw[Oa.out];exact⟨rfl,dA.no (cY BW b4)⟩
end
end Go.Proofs.YtfebdimolnobaaaGreatDoor
