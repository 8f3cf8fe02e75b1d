import Derived.Test.YtfebdimolnobaaaGreatDoorItD
set_option maxRecDepth 100000
set_option maxHeartbeats 8000000
set_option linter.all false
namespace Go.Proofs.YtfebdimolnobaaaGreatDoor
open Go.RowKit Go.Proofs.Tryz
section
open Vo
def wU {v:Int}(h0:0<=v)(h1:v<2^64):0<=Cl v/\Cl v<2^64:=by
 unfold Cl;split<;>omega
def OR (S:eD)(mp:an)(B n:Nat):Prop:=
 ∀(w:aw) (Z:ax) (v:Value) (m:PM) (d:MT) (mb:Nat) (gs:List GF) (nm:au) (k:Nat),tu w B S mp->jh w (λb=>b<B) mp mb nm gs->lH S mp d gs->NG d->gP k w Z v m->pP k m->dZ S n d m=true->(eG S n d m).length<=2^47->
  U8 102 #[ah mb,.agg #[v,ag m.unk]] w (ij (eG S n d m) w)
def OS {S:eD}{mp:an}{B n:Nat}(H:OR S mp B n)(hN:Es S)(w:aw)(Z:ax)(mv:Value)(x:PV)(d:MT)(f:fo)(g:GF)(fb:Nat)(pv:Value)(k:Nat)(cx:tu w B S mp)(hf:eZ w (λb=>b<B) mp g fb)(fg:FG S mp d f g)(hM:gP k w Z mv x.2.2)(hO:pP k x.2.2)(h0:0<=x.1)(h1:x.1<2^64)
  (hpv:∃rv,dX w fb #[aa g.f.num,aa g.form,aa (eI mp g),pv,rv] 220) (hs:eC S (dZ S n) f x=true) (hl:(gm S (eG S n) f x).length<=2^47):
  Calls prog 317 #[.agg #[aa (eI mp g),pv],gh x mv] w (ij (gm S (eG S n) f x) w):=by
 obtain⟨ma,mc,rfl⟩:=hM.form;have Vx:=L3 fg;unfold gh;rw[fg.gb];by_cases h16:fB S f=16
 .have⟨t,mb,gs,nm,rv,Vq,Vt,Vy,Vz⟩:=Gf cx hf fg h16;obtain⟨rv2,Vu⟩:=hpv;obtain rfl:pv=ah mb:=(by have:=(dX.cell Vt 3).sy.J (dX.cell Vu 3);simpa using this.sy);have hb:gm S (eG S n) f x=fF (eG S n t x.2.2):=by unfold gm;rw[dP h16,Vq]
  have hR:=uN hs h16 Vq;rw[hb]at hl;have Vr:=aM (ri _) hl;rw[hb,h16];have⟨B0,KT,KV⟩:=gY w #[aa 16,ah mb] (U4 x ma mc) 216 55;have HC:=H _ Z _ x.2.2 t mb gs nm k (cx.on (ed B0 cx.le)) (Vy.O λb q _=>B0.block b (by have:=cx.le;omega)) Vz (uO hN Vq) (hM.G B0 (aE _)) hO hR Vr;have HL:=λW=>uM W (eG S n t x.2.2) Vr
  unfold ij;generalize eG S n t x.2.2=y at*;have⟨k1,k2⟩:=KT.I;have⟨k3,k4⟩:=KV.I;clear Vt Vu H;go_in
  go_wp2_with fail;refine HC.V ?_;rintro e w2 ⟨rfl,b2⟩;go_wp2_with fail;refine(HL w2).V ?_;rintro e w3 ⟨rfl,rfl⟩;go_wp2;go_ret;exact⟨rfl,dU B0 b2⟩
 .have⟨Vv,Vw⟩:=wU h0 h1;have HL:=λW=>uM W x.2.1.data.toList
  rw[show x.2.1.data.toList.length=x.2.1.size by simp]at HL;have HV:=λW=>oT W x.1 h0 h1
  have HZ:=λW=>tC W x.1 h0 h1
  have HY:=λW=>oT W (Cl x.1) Vv Vw
  have⟨B0,KT,KV⟩:=gY w #[aa (fB S f),pv] (U4 x ma mc) 216 55;clear hs H hpv Vv Vw;unfold ij;rcases AQ Vx with q|q|q|q|q|q|q|q|q|q|q|q|q|q|q|q|q
  case inr.inr.inr.inr.inr.inr.inr.inr.inr.inr.inr.inr.inr.inr.inr.inr=>exact absurd q h16
  all_goals
   rw[q]at B0 KT KV;have⟨k1,k2⟩:=KT.I;have⟨k3,k4⟩:=KV.I;clear h16;unfold gm at hl⊢;simp only[q,Nat.reduceEqDiff,if_false,if_true,or_self,or_true,or_false]at hl⊢
   try rw[iG]
   try (have Vr:x.2.1.size<=2^47:=(show x.2.1.size=x.2.1.data.toList.length by simp)▸aM (ri _) hl)
   clear hl;go_in
   go_wp2_with (first|(go_at_call 243;refine(HL _ Vr).V ?_;rintro e w2 ⟨rfl,rfl⟩)|(go_at_call 321;refine(HZ _).V ?_;rintro e w2 ⟨rfl,rfl⟩)|(go_at_call 328;(first|refine(HV _).V ?_|refine(HY _).V ?_);rintro e w2 ⟨rfl,rfl⟩))
   go_ret;exact⟨rfl,B0⟩
def Et {S:eD}{mp:an}{B n:Nat}(H:OR S mp B n)(hN:Es S)(w:aw)(Z:ax)(v:Value)(l:List PV)(d:MT)(f:fo)(g:GF)(fb:Nat)(pv:Value)(k:Nat)(cx:tu w B S mp)(hf:eZ w (λb=>b<B) mp g fb)(fg:FG S mp d f g)(hv:pO (gP k w Z) w Z v l)(hO:P6 k l)
  (hpv:∃rv,dX w fb #[aa g.f.num,aa g.form,aa (eI mp g),pv,rv] 220) (hs:∀x∈l,eC S (dZ S n) f x=true) (hl:(nF S (eG S n) f l).length<=2^47):
  Calls prog 233 #[.agg #[aa (eI mp g),pv],v] w (ij (nF S (eG S n) f l) w):=by
 obtain⟨a,c,rfl⟩:=hv.form;obtain⟨vcs,VA,VB⟩:=hv;have hll:=hO.1;have⟨B0,K0⟩:=d8 w #[aa (eI mp g),pv] 216
 have HC:Hid (∀(W:aw) (x:PV) (mv:Value),ak w W->x∈l->gP k w Z mv x.2.2->U8 317 #[.agg #[aa (eI mp g),pv],gh x mv] W (ij (gm S (eG S n) f x) W)):=λW x mv hW hx hm=>
  OS H hN W Z mv x d f g fb pv k (cx.on (ed hW cx.le)) (hf.O λb _ q=>hW.block b q) fg (hm.G hW (aE _)) (hO.2 x hx).2.2.2 (hO.2 x hx).1 (hO.2 x hx).2.1 (hpv.imp λ_ q=>q.G hW q.lt) (hs x hx) (aM (wT hx) hl)
 have HT:Hid (∀i,((l.take i).flatMap (gm S (eG S n) f)).length<=2^47):=λi=>aM (iW i) hl
 unfold nF at*;generalize gm S (eG S n) f=bv at*;generalize eI mp g=gb at*;clear hl hs hpv hO hf fg cx;go_in
 go_wp2;generalize w.alloc (am #[aa gb,pv] 216)=w1 at*;go_loopw [5,7,10] (λsv _ jv wr=>∃j:Nat,jv=aa j/\j<=l.length/\sv=aa ((l.take j).flatMap bv).length/\ak w1 wr) (λ_ _ jv _=>l.length-(intOf jv).toNat)
 case atStart=>exact⟨0,rfl,aP _,rfl,Below.refl _ _⟩
 case round=>
  obtain⟨j,rfl,hj,rfl,Bw⟩:=hrel;have BW:=dU B0 Bw;by_cases hlt:j<l.length
  .have⟨x,hx⟩:=gx hlt;have⟨mv,p1,p2,p3,p4,p5⟩:=VB.get hx;obtain⟨ma,mc,rfl⟩:=p1.form;obtain⟨gv,rfl,hzgv,Vs,Vp⟩:=VA.at Vc;have t0:=Vp wr (BW.block _ Vs) _ _ p2;have t1:=lI (Vp wr (BW.block _ Vs) _ _ p3);have t2:=lI (Vp wr (BW.block _ Vs) _ _ p4);have t3:=lI (Vp wr (BW.block _ Vs) _ _ p5);have hlj:(j:Int)<(l.length:Int):=Vc;have⟨B1,K1⟩:=d8 wr (U4 x ma mc) 55;have HX:=HC.o _ x _ (dU BW B1) (aL hx) p1;unfold gh at HX;have KT:=K0.G (dU Bw B1) K0.lt;have hT:=HT.o (j+1);rw[gd hx,aN]at hT;have HS:Hid (((l.take (j+1)).flatMap bv).length=((l.take j).flatMap bv).length+(bv x).length):=(by show((l.take (j+1)).flatMap bv).length=_;rw[gd hx,aN]);generalize((l.take j).flatMap bv).length=sz at*;have⟨k1,k2⟩:=KT.I;have⟨k3,k4⟩:=K1.I;clear Vp p2 p3 p4 p5 hx;go_wp2_with fail;refine HX.V ?_;rintro e w3 ⟨rfl,b3⟩;generalize(bv x).length=yz at*;have hsum:(sz:Int)+(yz:Int)<=2^47:=Vc;go_wp2;go_roundw
   case rel=>exact⟨j+1,by go_num,Vc,by rw[HS.o];go_num,dU (dU Bw B1) b3⟩
   case measure=>simp[intOf];omega
  .obtain rfl:j=l.length:=Vc;rw[bB];go_wp2;go_ret;exact⟨rfl,BW⟩
def Id (S:eD)(R:MT->PM->ap)(f:fo)(l:List PV):(nF S R f l).length<=(kL S R f l).length:=by
 unfold kL;split;.have:=ri (nF S R f l);rw[aN];omega
 .rw[tG];exact Nat.le_add_left _ _
def yE {c:Int}(h0:0<=c)(h1:c<=2^47):IntKind.i64.wrap c=c:=by
 simp[IntKind.wrap,IntKind.bits,IntKind.signed];omega
def OT (n k:Int):(fD n k).length<=10:=(nW 9 (n*8+k)).1
def OU {S:eD}{mp:an}{B n:Nat}(H:OR S mp B n)(hN:Es S)(w:aw)(Z:ax)(v:Value)(l:List PV)(d:MT)(f:fo)(g:GF)(fb:Nat)(k:Nat)(cx:tu w B S mp)(hf:eZ w (λb=>b<B) mp g fb)(fg:FG S mp d f g)(hnm:0<=f.num/\f.num<=536870911)(hv:pO (gP k w Z) w Z v l)(hO:P6 k l)
  (hs:∀x∈l,eC S (dZ S n) f x=true) (hl:(kL S (eG S n) f l).length<=2^47):
  U8 162 #[ah fb,v] w (ij (kL S (eG S n) f l) w):=by
 obtain⟨a,c,rfl⟩:=hv.form;have⟨pv,rv,h1,_,Vt,Vy⟩:=hf.blk;obtain⟨pq,rfl⟩:=gK Vy;have Vv:=aM (Id S (eG S n) f l) hl;have HT:=yB w _ mp g fb hf;rw[fg.eq,fg.tk]at HT;have Vs:0<=oU S f/\oU S f<8:=by rw[<-fg.tk];exact tD mp g
 have HZ:Hid (∀W,U8 242 #[.agg #[aa f.num,aa (oU S f)]] W λe w'=>e= .returned (aa (fD f.num (oU S f)).length)/\Below W.heap.size W w'):=λW=>P4 W f.num (oU S f) hnm.1 hnm.2 Vs.1 Vs.2
 have HP:Hid (∀W,ak w W->U8 209 #[ah fb] W λe w'=>e= .returned (.bool (iL S f))/\Below W.heap.size W w'):=λW hW=>by
  have:=mQ W _ mp g fb (hf.O λb _ q=>hW.block b q)
  rwa [fg.pk]at this
 have HV:Hid (∀W,ak w W->U8 233 #[.agg #[aa (eI mp g),.pointer pq],.slice a l.length c] W (ij (nF S (eG S n) f l) W)):=λW hW=>
  Et H hN W Z _ l d f g fb (.pointer pq) k (cx.on (ed hW cx.le)) (hf.O λb _ q=>hW.block b q) fg (pO.G hW (aE _) hv) hO ⟨rv,h1.G hW h1.lt⟩ hs Vv
 have HL:Hid (∀W,U8 243 #[aa (nF S (eG S n) f l).length] W λe w'=>e= .returned (aa (fF (nF S (eG S n) f l)).length)/\w'=W):=λW=>uM W _ Vv
 have htl:=OT f.num (oU S f)
 have hlen:(kL S (eG S n) f l).length=if iL S f then(fD f.num (oU S f)).length+(fF (nF S (eG S n) f l)).length else(fD f.num (oU S f)).length*l.length+(nF S (eG S n) f l).length:=by
  unfold kL;split;.rw[aN]
  .rw[tG];rfl
 unfold ij;rw[hlen]at hl⊢;clear hlen;clear Vy Vt hf Vs hs hO hv H cx hnm fg;generalize nF S (eG S n) f l=y at*;generalize oU S f=tk at*
 cases hpk:iL S f with
 |true=>
  rw[hpk]at HP hl;rw[dP rfl]at hl⊢;generalize(fF y).length=yl at*;generalize(fD f.num tk).length=tl at*;go_enter func162,ntmps162;go_wp2_with fail;refine HT.V ?_;rintro e w2 ⟨rfl,b2⟩;go_wp2_with fail;refine(HZ.o w2).V ?_;rintro e w3 ⟨rfl,b3⟩;have B3:=dU b2 b3;go_wp2_with fail;refine(HP.o w3 B3).V ?_;rintro e w4 ⟨rfl,b4⟩;have B4:=dU B3 b4;have h4:=h1.G B4 h1.lt;have⟨k1,k2⟩:=h4.I;go_wp2_with fail;refine(HV.o w4 B4).V ?_;rintro e w5 ⟨rfl,b5⟩;go_wp2_with fail;refine(HL.o w5).V ?_;rintro e w6 ⟨rfl,rfl⟩;have Vr:(tl:Int)+(yl:Int)<=2^47:=Vc;go_wp2;go_ret
  exact⟨by rw[dE];rfl,dU B4 b5⟩
 |false=>
  rw[hpk]at HP hl;rw[dO Vd]at hl⊢;generalize(fD f.num tk).length=tl at*;have hmul:(tl:Int)*(l.length:Int)=((tl*l.length:Nat):Int):=by rw[Int.natCast_mul]
  generalize tl*l.length=pl at*;go_enter func162,ntmps162;go_wp2_with fail;refine HT.V ?_;rintro e w2 ⟨rfl,b2⟩;go_wp2_with fail;refine(HZ.o w2).V ?_;rintro e w3 ⟨rfl,b3⟩;have B3:=dU b2 b3;go_wp2_with fail;refine(HP.o w3 B3).V ?_;rintro e w4 ⟨rfl,b4⟩;have B4:=dU B3 b4;have h4:=h1.G B4 h1.lt;have⟨k1,k2⟩:=h4.I;go_wp2_with fail;refine(HV.o w4 B4).V ?_;rintro e w5 ⟨rfl,b5⟩;have Vr:(pl:Int)+(y.length:Int)<=2^47:=Vc;go_wp2;go_ret;exact⟨by rw[dE];rfl,dU B4 b5⟩
def uS {S:eD}{mp:an}{B:Nat}(hN:Es S):∀n,OR S mp B n:=by
 intro n
 induction n with
 |zero=>
  intro w Z v m d mb gs nm k cx hm hG Vz hM hO hs
  cases hs
 |succ n ih=>
  intro w Z v m d mb gs nm k cx hm hG Vz hM hO hs hl
  cases k with
  |zero=>exact hM.elim
  |succ k=>
  obtain⟨cs,hr,VC⟩:=hM;obtain⟨a,c,rfl⟩:=hr.form;obtain⟨ho1,ho2,VD⟩:=hO;rw[dZ,aQ]at hs;have hX:=λx hx=>yC (x:=x) hs.1 hx
  have⟨B0,K1⟩:=d8 w #[.slice a m.fs.length c,ag m.unk] 49;rw[eG]at hl;unfold ij;rw[eG];rw[aN]at hl⊢;rw[show m.unk.data.toList.length=m.unk.size by simp]at hl⊢
  have HC:Hid (∀(W:aw) (x:PF) (f:fo) (g:GF) (fb:Nat) (v:Value),ak w W->x∈m.fs->d9 d.fs x.1=some f->FG S mp d f g->eZ W (λb=>b<B) mp g fb->pO (gP k w Z) w Z v x.2->U8 162 #[ah fb,v] W (ij (ki S (eG S n) d x) W)):=λW x f g fb v hW hx Vq fg Vu hv=>by
   have⟨f',q1,q2⟩:=hX x hx;obtain rfl:f=f':=by rw[Vq]at q1;exact Option.some.inj q1
   have hb:ki S (eG S n) d x=kL S (eG S n) f x.2:=by unfold ki;rw[Vq]
   have Vw:(ki S (eG S n) d x).length<=2^47:=aM (wT hx) Vc;rw[hb]at Vw⊢;exact OU ih hN W Z v x.2 d f g fb k (cx.on (ed hW cx.le)) Vu fg (Vz _ _ Vq) (pO.G hW (aE _) hv) (VD x hx) (λv hv=>yD q2 hv) Vw
  have HT:Hid (∀i,((m.fs.take i).flatMap (ki S (eG S n) d)).length+m.unk.size<=2^47):=λi=>by
   have:=iW (g:=ki S (eG S n) d) (l:=m.fs) i;show _<=_;omega
  generalize ki S (eG S n) d=bx at*;clear hl hs;have⟨k1,k2⟩:=K1.I;go_enter func102,ntmps102;go_wp2;generalize w.alloc (am #[.slice a m.fs.length c,ag m.unk] 49)=w1 at*;go_loopw [5,7,14] (λsv _ iv wr=>∃i:Nat,iv=aa i/\i<=m.fs.length/\sv=aa (((m.fs.take i).flatMap bx).length+m.unk.size:Nat)/\ak w1 wr) (λ_ _ iv _=>m.fs.length-(intOf iv).toNat)
  case atStart=>exact⟨0,rfl,aP _,Vd,Below.refl _ _⟩
  case round=>
   obtain⟨i,rfl,hi,rfl,Bw⟩:=hrel;clear k1 k2;have BW:=dU B0 Bw;by_cases hlt:i<m.fs.length
   .have⟨x,hx⟩:=gx hlt;have⟨vv,p1,p2,p3⟩:=VC.get hx;obtain⟨va,vc,rfl⟩:=p1.form;obtain⟨g0,rfl,hzg0,VA,Vp⟩:=hr.at Vc;have t0:=Vp wr (BW.block _ VA) _ _ p2;have t1:=lI (Vp wr (BW.block _ VA) _ _ p3);have⟨B1,K5⟩:=d8 wr #[aa x.1,.slice va x.2.length vc] 58;have B2:=dU BW B1;have VB:=dU Bw B1;have⟨f,Vq,_⟩:=hX x (aL hx);have⟨g,hg,fg⟩:=hG.yes _ _ Vq;have HF:=qV _ (λb=>b<B) mp mb nm gs x.1 (hm.O λb _ q=>B2.drew.block b q) hG.srt hG.len;rw[hg]at HF;have HZ:=λfb q=>HC.o _ x f g fb _ B2.drew (aL hx) Vq fg q p1
    have hT:=HT.o (i+1);rw[gd hx,aN]at hT;have HS:Hid (((m.fs.take (i+1)).flatMap bx).length+m.unk.size=((m.fs.take i).flatMap bx).length+m.unk.size+(bx x).length):=(by show((m.fs.take (i+1)).flatMap bx).length+m.unk.size=_;rw[gd hx,aN];omega);have hT2:((m.fs.take i).flatMap bx).length+m.unk.size+(bx x).length<=2^47:=Vc;generalize((m.fs.take i).flatMap bx).length+m.unk.size=sz at*;have hij:(i:Int)<(m.fs.length:Int):=Vc;have Vr:IntKind.i64.wrap ((sz:Int)+((bx x).length:Int))=(sz:Int)+((bx x).length:Int):=yE Vc Vc;clear Vp p2 p3 B1 hx hg Vq hT;go_upto_region 5 with fail
    generalize wr.alloc (am #[aa x.1,.slice va x.2.length vc] 58)=w2 at*;generalize wr.heap.size=vb at*;have hW:w2.drew.cell? (aj vb 0)=some (aa x.1)/\w2.drew.cell? (aj vb 1)=some (.slice va x.2.length vc):=⟨K5.drew.cell 0,K5.drew.cell 1⟩
    go_region_held2 (λW=>W.cell? (aj vb 0)=some (aa x.1)/\W.cell? (aj vb 1)=some (.slice va x.2.length vc))
     (first|exact hW|exact⟨Vx.cell 0,Vx.cell 1⟩)
     (first
      |(
        go_at_call 153;refine HF.V ?_
        rintro e w3 ⟨⟨fb,rfl,Vu⟩,rfl⟩)
      |(
        go_at_call 162;refine(HZ _ Vu).V ?_;rintro e w3 ⟨rfl,b3⟩
        have Vx:=K5.G (w:=w2.drew) b3 K5.lt))
    go_wp2;go_roundw
    case rel=>exact⟨i+1,by go_num,Vc,by rw[HS.o,dE],dU VB.drew b3⟩
    case measure=>simp[intOf];omega
   .obtain rfl:i=m.fs.length:=Vc;rw[bB];go_wp2;go_ret;exact⟨rfl,BW⟩
def gP.under {w w':aw}{Z:ax}{N k:Nat}{v:Value}{m:PM}(h:gP k w Z v m)(hb:Below N w w')(hZ:∀i,Z i->i<N):gP k w' Z v m:=h.O λb q _=>hb.block b (hZ b q)
def pO.under {w w':aw}{Z:ax}{N k:Nat}{v:Value}{l:List PV}(h:pO (gP k w Z) w Z v l)(hb:Below N w w')(hZ:∀i,Z i->i<N):pO (gP k w' Z) w' Z v l:=
 h.O (λ_ _ q=>q.under hb hZ) λb q _=>hb.block b (hZ b q)
def QZ (S:eD)(mp:an)(B n:Nat):Prop:=
 ∀(w:aw) (Z:ax) (v:Value) (m:PM) (d:MT) (mb:Nat) (gs:List GF) (nm:au) (k N b:Nat) (l:ap),tu w B S mp->jh w (λb=>b<B) mp mb nm gs->lH S mp d gs->NG d->gP k w Z v m->(∀i,Z i->i<N)->B<=N->N<=w.heap.size->pP k m->dZ S n d m=true->fH w N b (eE b) l->l.length+(eG S n d m).length<=2^47->
  U8 97 #[ah mb,.agg #[v,ag m.unk],eE b] w (i9 N b l (eG S n d m) w)
def OX {S:eD}{mp:an}{B n:Nat}(H:QZ S mp B n)(hN:Es S)(w:aw)(Z:ax)(mv:Value)(x:PV)(d:MT)(f:fo)(g:GF)(fb:Nat)(pv:Value)(k N b:Nat)(l:ap)(cx:tu w B S mp)(hf:eZ w (λb=>b<B) mp g fb)(fg:FG S mp d f g)(hM:gP k w Z mv x.2.2)(hZ:∀i,Z i->i<N)(hBN:B<=N)(hNw:N<=w.heap.size)(hO:pP k x.2.2)(h0:0<=x.1)(h1:x.1<2^64)
  (hpv:∃rv,dX w fb #[aa g.f.num,aa g.form,aa (eI mp g),pv,rv] 220) (hs:eC S (dZ S n) f x=true) (hW:fH w N b (eE b) l) (hl:l.length+(gm S (eG S n) f x).length<=2^47):
  Calls prog 234 #[.agg #[aa (eI mp g),pv],gh x mv,eE b] w (i9 N b l (gm S (eG S n) f x) w):=by
 obtain⟨ma,mc,rfl⟩:=hM.form;have Vy:=L3 fg;unfold gh;rw[fg.gb];by_cases h16:fB S f=16
 .have⟨t,mb,gs,nm,rv,Vp,Vu,Vv,Vw⟩:=Gf cx hf fg h16;obtain⟨rv2,Vx⟩:=hpv;obtain rfl:pv=ah mb:=(by have:=(dX.cell Vu 3).sy.J (dX.cell Vx 3);simpa using this.sy);have hb:gm S (eG S n) f x=fF (eG S n t x.2.2):=by unfold gm;rw[dP h16,Vp]
  have hR:=uN hs h16 Vp;rw[hb]at hl;unfold fF at hl;rw[aN]at hl;rw[hb,h16];have⟨B0,KT,KV⟩:=gY w #[aa 16,ah mb] (U4 x ma mc) 216 55;have HC:=uS hN n _ Z _ x.2.2 t mb gs nm k (cx.on (ed B0 cx.le)) (Vv.O λb q _=>B0.block b (by have:=cx.le;omega)) Vw (uO hN Vp) (hM.G B0 (aE _)) hO hR Vc
  have HW:Hid (∀(W:aw) (l2:ap),Below N w W->fH W N b (eE b) l2->l2.length+(eG S n t x.2.2).length<=2^47->U8 97 #[ah mb,.agg #[.slice ma x.2.2.fs.length mc,ag x.2.2.unk],eE b] W (i9 N b l2 (eG S n t x.2.2) W)):=λW l2 Vs hw VB=>
   H W Z _ x.2.2 t mb gs nm k N b l2 (cx.on (ed Vs hBN)) (Vv.O λb q _=>Vs.block b Vc) Vw (uO hN Vp) (hM.under Vs hZ) hZ hBN (by have:=Vs.size;omega) hO hR hw VB
  have Vq:=hW.on B0;generalize eG S n t x.2.2=y at*;have⟨k1,k2⟩:=KT.I;have⟨k3,k4⟩:=KV.I;clear Vu Vx H hb hR;go_in
  go_wp2_with fail;generalize(w.alloc (am #[aa 16,ah mb] 216)).alloc (Obj.cells (U4 x ma mc) 55)=w1 at*;refine HC.V ?_;rintro e w2 ⟨rfl,b2⟩;have B2:=dU B0 b2;have hs2:=B2.size;go_wp2_with fail;refine(qA y.length (Vq.on b2) Vc Vc Vc).V ?_;rintro e w3 ⟨rfl,q1,q2⟩;have Vz:=q2.fr _ _ _ Vf Vf (KT.G b2 KT.lt);have VA:=q2.fr _ _ _ Vf Vf (KV.G b2 KV.lt);have Q:=(Wr.of B2 hNw).J q2;clear k1 k2 k3 k4;have⟨k1,k2⟩:=Vz.I;have⟨k3,k4⟩:=VA.I;go_wp2_with fail;refine(HW.o w3 _ Q.bel q1 (by rw[aN];omega)).V ?_;rintro e w4 ⟨rfl,r1,r2⟩;go_wp2;go_end0;exact⟨rfl,by rw[bj]at r1;exact r1,Q.J r2⟩
 .have⟨VC,VD⟩:=wU h0 h1;have⟨B0,KT,KV⟩:=gY w #[aa (fB S f),pv] (U4 x ma mc) 216 55;have Vq:=hW.on B0;have Vt:=B0.size;have Vr:=aM hNw Vt;have HZ:=λW=>tC W x.1 h0 h1
  clear hs H hpv Vt;rcases AQ Vy with q|q|q|q|q|q|q|q|q|q|q|q|q|q|q|q|q
  case inr.inr.inr.inr.inr.inr.inr.inr.inr.inr.inr.inr.inr.inr.inr.inr=>exact absurd q h16
  all_goals
   rw[q]at B0 KT KV Vq Vr;have⟨k1,k2⟩:=KT.I;have⟨k3,k4⟩:=KV.I;clear h16;unfold gm at hl⊢;simp only[q,Nat.reduceEqDiff,if_false,if_true,or_self,or_true,or_false]at hl⊢;go_in
   go_wp2_with (first|(go_at_call 318;refine(H7 _ Vq hl Vr).V ?_;rintro e w2 ⟨rfl,q1,q2⟩)|(go_at_call 319;refine(LW _ Vq h0 h1 hl Vr).V ?_;rintro e w2 ⟨rfl,q1,q2⟩)|(go_at_call 320;refine(H6 _ Vq h0 h1 hl Vr).V ?_;rintro e w2 ⟨rfl,q1,q2⟩)|(go_at_call 321;refine(HZ _).V ?_;rintro e w2 ⟨rfl,rfl⟩)|(go_at_call 315;(first|refine(oS _ Vq h0 h1 hl Vr).V ?_|refine(oS _ Vq VC VD hl Vr).V ?_);rintro e w2 ⟨rfl,q1,q2⟩))
   go_end0;exact⟨rfl,q1,(Wr.of B0 hNw).J q2⟩
def Th (S:eD)(R:MT->PM->ap)(f:fo)(l:List PV):ap:=if iL S f then fD f.num (oU S f)++vi (nF S R f l).length else []
def Ti (S:eD)(f:fo):ap:=if iL S f then []else fD f.num (oU S f)
def OY (S:eD)(R:MT->PM->ap)(f:fo)(l:List PV):kL S R f l=Th S R f l++l.flatMap λv=>Ti S f++gm S R f v:=by
 unfold kL Th Ti;split;.simp only[aX];rw[fF,bj];rfl
 .rfl
def OZ {S:eD}{mp:an}{B n:Nat}(H:QZ S mp B n)(hN:Es S)(w:aw)(Z:ax)(v:Value)(l:List PV)(d:MT)(f:fo)(g:GF)(fb k N b:Nat)(l0:ap)(cx:tu w B S mp)(hf:eZ w (λb=>b<B) mp g fb)(fg:FG S mp d f g)(hnm:0<=f.num/\f.num<=536870911)(hv:pO (gP k w Z) w Z v l)(hZ:∀i,Z i->i<N)(Vv:B<=N)(Vx:N<=w.heap.size)(hO:P6 k l)
  (hs:∀x∈l,eC S (dZ S n) f x=true) (hW:fH w N b (eE b) l0) (hl:l0.length+(kL S (eG S n) f l).length<=2^47):
  U8 152 #[ah fb,v,eE b] w (i9 N b l0 (kL S (eG S n) f l) w):=by
 obtain⟨a,c,rfl⟩:=hv.form;have⟨pv,rv,h1,hfB,VF,VM⟩:=hf.blk;obtain⟨pq,rfl⟩:=gK VM;have VJ:(nF S (eG S n) f l).length<=2^47:=by have:=Id S (eG S n) f l;omega
 have VC:0<=oU S f/\oU S f<8:=by rw[<-fg.tk];exact tD mp g
 have hk:∀{W},Below N w W->eZ W (λb=>b<B) mp g fb:=λhW=>hf.O λb q _=>hW.block b Vc
 have HT:Hid (∀W,Below N w W->U8 231 #[ah fb] W λe w'=>e= .returned (.agg #[aa f.num,aa (oU S f)])/\Below W.heap.size W w'):=λW hW=>by
  have:=yB W _ mp g fb (hk hW)
  rwa [fg.eq,fg.tk]at this
 have HE:Hid (∀(W:aw) (l2:ap),Below N w W->fH W N b (eE b) l2->l2.length+(fD f.num (oU S f)).length<=2^47->U8 230 #[eE b,.agg #[aa f.num,aa (oU S f)]] W (i9 N b l2 (fD f.num (oU S f)) W)):=λW l2 Vr hw Vw=>
  LZ f.num (oU S f) hnm.1 hnm.2 VC.1 VC.2 hw Vw (by have:=Vr.size;omega)
 have HP:Hid (∀W,Below N w W->U8 209 #[ah fb] W λe w'=>e= .returned (.bool (iL S f))/\Below W.heap.size W w'):=λW hW=>by
  have:=mQ W _ mp g fb (hk hW)
  rwa [fg.pk]at this
 have HV:Hid (∀W,Below N w W->U8 233 #[.agg #[aa (eI mp g),.pointer pq],.slice a l.length c] W (ij (nF S (eG S n) f l) W)):=λW hW=>
  Et (uS hN n) hN W Z _ l d f g fb (.pointer pq) k (cx.on (ed hW Vv)) (hk hW) fg (hv.under hW hZ) hO ⟨rv,(hW.block fb Vc).J h1⟩ hs VJ
 have HX:Hid (∀(W:aw) (x:PV) (mv:Value) (l2:ap),Below N w W->x∈l->gP k w Z mv x.2.2->fH W N b (eE b) l2->l2.length+(gm S (eG S n) f x).length<=2^47->U8 234 #[.agg #[aa (eI mp g),.pointer pq],gh x mv,eE b] W (i9 N b l2 (gm S (eG S n) f x) W)):=λW x mv l2 Vr hx hm hw Vw=>
  OX H hN W Z mv x d f g fb (.pointer pq) k N b l2 (cx.on (ed Vr Vv)) (hk Vr) fg (hm.under Vr hZ) hZ Vv (by have:=Vr.size;omega) (hO.2 x hx).2.2.2 (hO.2 x hx).1 (hO.2 x hx).2.1 ⟨rv,(Vr.block fb Vc).J h1⟩ (hs x hx) hw Vw
 obtain⟨vcs,VN,VO⟩:=hv;have hll:=hO.1;rw[OY]at hl⊢;have HD:Hid (Th S (eG S n) f l=if iL S f then fD f.num (oU S f)++vi (nF S (eG S n) f l).length else []):=rfl;have HG:Hid (Ti S f=if iL S f then []else fD f.num (oU S f)):=rfl;generalize Th S (eG S n) f l=hd at*;generalize Ti S f=tg at*;generalize nF S (eG S n) f l=y at*;generalize gm S (eG S n) f=bv at*;generalize fD f.num (oU S f)=tb at*;generalize oU S f=tk at*;generalize iL S f=pk at*;generalize eI mp g=gb at*;obtain⟨bd,VG⟩:∃bd:PV->ap,bd=λx=>tg++bv x:=⟨_,rfl⟩
 have HB:Hid (∀x,bd x=tg++bv x):=λx=>by rw[VG]
 rw[<-VG]at hl⊢;rw[aN]at hl
 have HA:Hid (∀j,l0.length+hd.length+((l.take j).flatMap bd).length<=2^47):=λj=>by
  have:=iW (g:=bd) (l:=l) j;omega
 clear VG VM VF hf VC hs hO H cx hnm fg hk hl;have P1:=HP.o w (Below.refl _ _)
 cases pk with
 |false=>
  have Vz:Hid (hd= []):=HD.o;obtain rfl:tg=tb:=HG.o;go_enter func152,ntmps152;go_wp2_with fail;refine P1.V ?_;rintro e w1 ⟨rfl,b1⟩;have W1:=Wr.of b1 Vx;have VR:=hW.on b1;go_wp2;go_loopw [7,24] (λ_ jv wr=>∃j:Nat,jv=aa j/\j<=l.length/\fH wr N b (eE b) (l0++(l.take j).flatMap bd)/\Wr N w wr) (λ_ jv _=>l.length-(intOf jv).toNat)
  case atStart=>grind
  case round=>
   obtain⟨j,rfl,hj,Vs,Wj⟩:=hrel;have hsz:=Wj.bel.size;by_cases hlt:j<l.length
   .have⟨x,hx⟩:=gx hlt;have⟨mv,p1,p2,p3,p4,p5⟩:=VO.get hx;obtain⟨ma,mc,rfl⟩:=p1.form;obtain⟨gv,rfl,Vu,VP,Vp⟩:=VN.at Vc;have Vq:=Wj.bel.block _ (hZ _ Vu);have t0:=Vp wr Vq _ _ p2;have t1:=lI (Vp wr Vq _ _ p3);have t2:=lI (Vp wr Vq _ _ p4);have t3:=lI (Vp wr Vq _ _ p5);have VS:(j:Int)<(l.length:Int):=Vc;have⟨B1,K1⟩:=d8 wr (U4 x ma mc) 55;have W2:=Wj.J (Wr.of B1 Vc);have VA:=Vs.on B1;have hA:=HA.o (j+1);rw[gd hx,HB.o]at hA;have HL:Hid (l0++(l.take (j+1)).flatMap bd=l0++(l.take j).flatMap bd++tg++bv x):=(by show l0++(l.take (j+1)).flatMap bd=_;rw[gd hx,HB.o];grind);have VT:(l0++(l.take j).flatMap bd).length+tg.length+(bv x).length<=2^47:=(by grind);have Vt:=aL hx;generalize l0++(l.take j).flatMap bd=lj at*;clear Vp p2 p3 p4 p5 hx hA Vq;have VU:=W2.bel.size;have P2:=HP.o _ W2.bel;go_wp2_with fail;generalize wr.alloc (Obj.cells (U4 x ma mc) 55)=w2 at*;refine P2.V ?_;rintro e w3 ⟨rfl,b3⟩;have W3:=W2.J (Wr.of b3 Vc);go_wp2_with fail;refine(HT.o w3 W3.bel).V ?_;rintro e w4 ⟨rfl,b4⟩;have B4:=dU b3 b4;have W4:=W2.J (Wr.of B4 Vc);go_wp2_with fail;refine(HE.o w4 lj W4.bel (VA.on B4) Vc).V ?_;rintro e wc ⟨rfl,VD,q2⟩;have Wc:=W4.J q2;have Kc:=q2.fr _ _ _ Vf Vf (K1.G B4 K1.lt);have h3:dX wc fb _ _:=(Wc.bel.block fb Vc).J h1;have VB:=HX.o wc.drew x _ (lj++tg) Wc.bel.drew Vt p1 (VD.on (Va wc).drew) (by rw[aN];omega);unfold gh at VB;go_upto_region 8 with fail
    generalize wr.heap.size=vb at*
    have hC:wc.drew.cell? (aj fb 2)=some (aa gb)/\wc.drew.cell? (aj fb 3)=some (.pointer pq)/\wc.drew.cell? (aj vb 0)=some (.int .u64 x.1)/\wc.drew.cell? (aj vb 1)=some (ag x.2.1)/\wc.drew.cell? (aj vb 2)=some (.slice ma x.2.2.fs.length mc)/\wc.drew.cell? (aj vb 3)=some (ag x.2.2.unk):=
     ⟨h3.drew.cell 2,h3.drew.cell 3,Kc.drew.cell 0,Kc.drew.cell 1,Kc.drew.cell 2,Kc.drew.cell 3⟩
    go_region_held2 (λW=>W.cell? (aj fb 2)=some (aa gb)/\W.cell? (aj fb 3)=some (.pointer pq)/\W.cell? (aj vb 0)=some (.int .u64 x.1)/\W.cell? (aj vb 1)=some (ag x.2.1)/\W.cell? (aj vb 2)=some (.slice ma x.2.2.fs.length mc)/\W.cell? (aj vb 3)=some (ag x.2.2.unk))
     (first|exact hC|exact⟨h4.cell 2,h4.cell 3,K4.cell 0,K4.cell 1,K4.cell 2,K4.cell 3⟩)
     (first
      |(
        go_at_call 234;refine VB.V ?_;rintro e w4 ⟨rfl,q1,q3⟩;have W4:Wr N w w4:=⟨Wc.bel.drew.J q3.bel,λi cs T h1 h2 h=>q3.fr i cs T h1 h2 (Wc.fr i cs T h1 h2 h)⟩;have h4:dX w4 fb _ _:=(W4.bel.block fb Vc).J h1
        have K4:=q3.fr _ _ _ Vf Vf Kc))
    go_wp2;go_roundw
    case rel=>exact⟨j+1,by go_num,Vc,by rw[HL.o];exact q1,W4⟩
    case measure=>simp[intOf];omega
   .obtain rfl:j=l.length:=Vc;rw[bB]at Vs;go_wp2;go_end0
    exact⟨rfl,by rw[Vz.o,aX];omega,Wj⟩
 |true=>
  have Vz:Hid (hd=tb++vi y.length):=HD.o;have VV:Hid (tg= []):=HG.o;have hA:=HA.o 0;rw[Vz.o]at hA;simp only[aN]at hA;go_enter func152,ntmps152;go_wp2_with fail;refine P1.V ?_;rintro e w2 ⟨rfl,b2⟩;have W2:=Wr.of b2 Vx;go_wp2_with fail;refine(HT.o w2 W2.bel).V ?_;rintro e w3 ⟨rfl,b3⟩;have B3:=dU b2 b3;have W3:=Wr.of B3 Vx;go_wp2_with fail;refine(HE.o w3 l0 W3.bel (hW.on B3) Vc).V ?_;rintro e w4 ⟨rfl,q1,q2⟩;have W4:=W3.J q2;have h4:=(W4.bel.block fb Vc).J h1;have⟨k1,k2⟩:=dX.I h4;go_wp2_with fail;refine(HV.o w4 W4.bel).V ?_;rintro e w5 ⟨rfl,b5⟩;have VW:=W4.bel.size;have VX:=b5.size;go_wp2_with fail;refine(qA y.length (q1.on b5) VJ (by grind) Vc).V ?_;rintro e w1 ⟨rfl,r1,r2⟩;have W1:=(W4.J (Wr.of b5 Vc)).J r2;have VR:fH w1 N b (eE b) (l0++hd):=by rw[Vz.o,<-bj];exact r1
  clear k1 k2 h4 Vz q1 q2 b5 r1 r2 W4 W3 W2 B3 b2 b3 VW VX hA;go_wp2;go_loopw [7,24] (λ_ jv wr=>∃j:Nat,jv=aa j/\j<=l.length/\fH wr N b (eE b) (l0++hd++(l.take j).flatMap bd)/\Wr N w wr) (λ_ jv _=>l.length-(intOf jv).toNat)
  case atStart=>grind
  case round=>
   obtain⟨j,rfl,hj,Vs,Wj⟩:=hrel;have hsz:=Wj.bel.size;by_cases hlt:j<l.length
   .have⟨x,hx⟩:=gx hlt;have⟨mv,p1,p2,p3,p4,p5⟩:=VO.get hx;obtain⟨ma,mc,rfl⟩:=p1.form;obtain⟨gv,rfl,Vu,VP,Vp⟩:=VN.at Vc;have Vq:=Wj.bel.block _ (hZ _ Vu);have t0:=Vp wr Vq _ _ p2;have t1:=lI (Vp wr Vq _ _ p3);have t2:=lI (Vp wr Vq _ _ p4);have t3:=lI (Vp wr Vq _ _ p5);have VS:(j:Int)<(l.length:Int):=Vc;have⟨B1,K1⟩:=d8 wr (U4 x ma mc) 55;have W2:=Wj.J (Wr.of B1 Vc);have VA:=Vs.on B1;have hA:=HA.o (j+1);rw[gd hx,HB.o]at hA;have HL:Hid (l0++hd++(l.take (j+1)).flatMap bd=l0++hd++(l.take j).flatMap bd++tg++bv x):=(by show l0++hd++(l.take (j+1)).flatMap bd=_;rw[gd hx,HB.o];grind);have VT:(l0++hd++(l.take j).flatMap bd).length+tg.length+(bv x).length<=2^47:=(by grind);have Vt:=aL hx;generalize l0++hd++(l.take j).flatMap bd=lj at*;clear Vp p2 p3 p4 p5 hx hA Vq;have VU:=W2.bel.size;have P2:=HP.o _ W2.bel;go_wp2_with fail;generalize wr.alloc (Obj.cells (U4 x ma mc) 55)=w2 at*;refine P2.V ?_;rintro e wc ⟨rfl,b3⟩;have VD:fH wc N b (eE b) (lj++tg):=by rw[VV.o,bW];exact VA.on b3
    have Wc:=W2.J (Wr.of b3 Vc);have Kc:=K1.G b3 K1.lt;have h3:dX wc fb _ _:=(Wc.bel.block fb Vc).J h1;have VB:=HX.o wc.drew x _ (lj++tg) Wc.bel.drew Vt p1 (VD.on (Va wc).drew) (by rw[aN];omega);unfold gh at VB;go_upto_region 8 with fail
    generalize wr.heap.size=vb at*
    have hC:wc.drew.cell? (aj fb 2)=some (aa gb)/\wc.drew.cell? (aj fb 3)=some (.pointer pq)/\wc.drew.cell? (aj vb 0)=some (.int .u64 x.1)/\wc.drew.cell? (aj vb 1)=some (ag x.2.1)/\wc.drew.cell? (aj vb 2)=some (.slice ma x.2.2.fs.length mc)/\wc.drew.cell? (aj vb 3)=some (ag x.2.2.unk):=
     ⟨h3.drew.cell 2,h3.drew.cell 3,Kc.drew.cell 0,Kc.drew.cell 1,Kc.drew.cell 2,Kc.drew.cell 3⟩
    go_region_held2 (λW=>W.cell? (aj fb 2)=some (aa gb)/\W.cell? (aj fb 3)=some (.pointer pq)/\W.cell? (aj vb 0)=some (.int .u64 x.1)/\W.cell? (aj vb 1)=some (ag x.2.1)/\W.cell? (aj vb 2)=some (.slice ma x.2.2.fs.length mc)/\W.cell? (aj vb 3)=some (ag x.2.2.unk))
     (first|exact hC|exact⟨h4.cell 2,h4.cell 3,K4.cell 0,K4.cell 1,K4.cell 2,K4.cell 3⟩)
     (first
      |(
        go_at_call 234;refine VB.V ?_;rintro e w4 ⟨rfl,q1,q3⟩;have W4:Wr N w w4:=⟨Wc.bel.drew.J q3.bel,λi cs T h1 h2 h=>q3.fr i cs T h1 h2 (Wc.fr i cs T h1 h2 h)⟩;have h4:dX w4 fb _ _:=(W4.bel.block fb Vc).J h1
        have K4:=q3.fr _ _ _ Vf Vf Kc))
    go_wp2;go_roundw
    case rel=>exact⟨j+1,by go_num,Vc,by rw[HL.o];exact q1,W4⟩
    case measure=>simp[intOf];omega
   .obtain rfl:j=l.length:=Vc;rw[bB]at Vs;go_wp2;go_end0;exact⟨rfl,by grind,Wj⟩
def Jg {S:eD}{mp:an}{B:Nat}(hN:Es S):∀n,QZ S mp B n:=by
 intro n
 induction n with
 |zero=>
  intro w Z v m d mb gs nm k N b l cx hm hG VQ hM hZ Vv Vx hO hs
  cases hs
 |succ n ih=>
  intro w Z v m d mb gs nm k N b l cx hm hG VQ hM hZ Vv Vx hO hs hW hl
  cases k with
  |zero=>exact hM.elim
  |succ k=>
  obtain⟨cs,hr,V0⟩:=hM;obtain⟨a,c,rfl⟩:=hr.form;obtain⟨ho1,ho2,V7⟩:=hO;rw[dZ,aQ]at hs;have hX:=λx hx=>yC (x:=x) hs.1 hx
  have⟨B0,K1⟩:=d8 w #[.slice a m.fs.length c,ag m.unk] 49;have W0:=Wr.of B0 Vx;have hW0:=hW.on B0;rw[eG]at hl⊢;rw[aN]at hl
  have HC:Hid (∀(W:aw) (x:PF) (f:fo) (g:GF) (fb:Nat) (v:Value) (l2:ap),Below N w W->x∈m.fs->d9 d.fs x.1=some f->FG S mp d f g->eZ W (λb=>b<B) mp g fb->pO (gP k w Z) w Z v x.2->fH W N b (eE b) l2->l2.length+(ki S (eG S n) d x).length<=2^47->U8 152 #[ah fb,v,eE b] W (i9 N b l2 (ki S (eG S n) d x) W)):=λW x f g fb v l2 Vr hx Vy fg VH hv hw Vw=>by
   have⟨f',q1,q2⟩:=hX x hx;obtain rfl:f=f':=by grind
   have hb:ki S (eG S n) d x=kL S (eG S n) f x.2:=by unfold ki;rw[Vy]
   rw[hb]at Vw⊢;exact OZ ih hN W Z v x.2 d f g fb k N b l2 (cx.on (ed Vr Vv)) VH fg (VQ _ _ Vy) (hv.under Vr hZ) hZ Vv (by have:=Vr.size;omega) (V7 x hx) (λv hv=>yD q2 hv) hw Vw
  have HT:Hid (∀i,l.length+((m.fs.take i).flatMap (ki S (eG S n) d)).length+m.unk.data.toList.length<=2^47):=λi=>by
   have:=iW (g:=ki S (eG S n) d) (l:=m.fs) i;omega
  generalize ki S (eG S n) d=bx at*;clear hl hs;have⟨k1,k2⟩:=K1.I;go_enter func97,ntmps97;go_wp2;generalize w.alloc (am #[.slice a m.fs.length c,ag m.unk] 49)=w1 at*;go_loopw [7,11] (λ_ iv wr=>∃i:Nat,iv=aa i/\i<=m.fs.length/\fH wr N b (eE b) (l++(m.fs.take i).flatMap bx)/\Wr N w1 wr) (λ_ iv _=>m.fs.length-(intOf iv).toNat)
  case atStart=>exact⟨0,rfl,aP _,by grind,Wr.refl _ _⟩
  case round=>
   obtain⟨i,rfl,hi,Vs,Wi⟩:=hrel;clear k1 k2;have WI:=W0.J Wi;have hsz:=WI.bel.size;by_cases hlt:i<m.fs.length
   .have⟨x,hx⟩:=gx hlt;have⟨vv,p1,p2,p3⟩:=V0.get hx;obtain⟨va,vc,rfl⟩:=p1.form;obtain⟨g0,rfl,VI,VP,Vp⟩:=hr.at Vc;have Vq:=WI.bel.block _ (hZ _ VI);have t0:=Vp wr Vq _ _ p2;have t1:=lI (Vp wr Vq _ _ p3);have⟨B1,K5⟩:=d8 wr #[aa x.1,.slice va x.2.length vc] 58;have VE:=Wi.J (Wr.of B1 Vc);have VK:=W0.J VE;have VA:=Vs.on B1.drew;have⟨f,Vy,_⟩:=hX x (aL hx);have⟨g,hg,fg⟩:=hG.yes _ _ Vy;have HF:=qV _ (λb=>b<B) mp mb nm gs x.1 (hm.O λb q _=>VK.bel.drew.block b Vc) hG.srt hG.len;rw[hg]at HF;have hT:=HT.o (i+1);rw[gd hx,aN]at hT;have VY:(l++(m.fs.take i).flatMap bx).length+(bx x).length<=2^47:=by grind
    have HZ:=λfb q=>HC.o _ x f g fb _ _ VK.bel.drew (aL hx) Vy fg q p1 VA VY
    have HS:Hid (l++(m.fs.take (i+1)).flatMap bx=l++(m.fs.take i).flatMap bx++bx x):=(by show l++(m.fs.take (i+1)).flatMap bx=_;rw[gd hx,bj]);generalize l++(m.fs.take i).flatMap bx=li at*;have hij:(i:Int)<(m.fs.length:Int):=Vc;clear Vp p2 p3 hx hg Vy hT Vq;go_upto_region 4 with fail
    generalize wr.alloc (am #[aa x.1,.slice va x.2.length vc] 58)=w2 at*;generalize wr.heap.size=vb at*;have hC:w2.drew.cell? (aj vb 0)=some (aa x.1)/\w2.drew.cell? (aj vb 1)=some (.slice va x.2.length vc):=⟨K5.drew.cell 0,K5.drew.cell 1⟩
    go_region_held2 (λW=>W.cell? (aj vb 0)=some (aa x.1)/\W.cell? (aj vb 1)=some (.slice va x.2.length vc))
     (first|exact hC|exact⟨VL.cell 0,VL.cell 1⟩)
     (first
      |(
        go_at_call 153;refine HF.V ?_
        rintro e w3 ⟨⟨fb,rfl,VH⟩,rfl⟩)
      |(
        go_at_call 152;refine(HZ _ VH).V ?_;rintro e w3 ⟨rfl,q1,q2⟩;have VL:=q2.fr _ _ _ Vf Vf K5.drew
        have VZ:Wr N w1 w3:=⟨VE.bel.drew.J q2.bel,λi cs T h1 h2 h=>q2.fr i cs T h1 h2 (VE.fr i cs T h1 h2 h)⟩))
    go_wp2;go_roundw
    case rel=>exact⟨i+1,by go_num,Vc,by rw[HS.o];exact q1,VZ⟩
    case measure=>simp[intOf];omega
   .obtain rfl:i=m.fs.length:=Vc;have hT:=HT.o m.fs.length;rw[bB]at Vs hT;have K2:=Wi.fr _ _ _ Vf Vf K1;have⟨k3,k4⟩:=K2.I;have HR:=uL m.unk Vs (by grind) Vc;go_wp2_with fail;refine HR.V ?_;rintro e w3 ⟨rfl,q1,q2⟩;go_wp2;go_end0;exact⟨rfl,by grind,WI.J q2⟩
end
end Go.Proofs.YtfebdimolnobaaaGreatDoor
