import Derived.Test.YtfebdimolnobaaaGreatDoorEnB
set_option maxRecDepth 100000
set_option maxHeartbeats 8000000
set_option linter.all false
namespace Go.Proofs.YtfebdimolnobaaaGreatDoor
open Go.RowKit Go.Proofs.Tryz
section
attribute [local go_sem↓] Go.wp_at_zero Go.wp_at_succ
def EC (S:d8)(R:MT->PM->List UInt8)(f:eP)(l:List PV):(mo S R f l).length<=(jM S R f l).length:=by
 unfold jM
 split
 ·have:=pQ (mo S R f l);rw[aG];omega
 ·rw[rJ];exact Nat.le_add_left _ _
def vX {c:Int}(h0:0<=c)(h1:c<=140737488355328):IntKind.i64.wrap c=c:=by
 simp[IntKind.wrap,IntKind.bits,IntKind.signed];omega
def KH (n k:Int):(eW n k).length<=10:=(mK 9 (n*8+k)).1
def KJ {S:d8}{mp:am->Option Nat}{B n:Nat}(H:Kz S mp B n)(hN:Cf S)(w:an)(Z:ap)(v:Value)(l:List PV)(d:MT)(f:eP)(g:GF)(fb:Nat)(k:Nat)(cx:rC w B S mp)(hf:eG w (λb=>b<B) mp g fb)(fg:FG S mp d f g)(hnm:0<=f.num/\f.num<=536870911)(hv:pi (iy k w Z) w Z v l)(hO:LU k l)
  (hs:∀x∈l,ek S (dN S n) f x=true) (hl:(jM S (d9 S n) f l).length<=140737488355328):
  Calls prog 162 #[ag fb,v] w (gK (jM S (d9 S n) f l) w):=by
 obtain⟨a,c,rfl⟩:=hv.form;obtain⟨pv,rv,h1,_,QT,QY⟩:=hf.blk;obtain⟨pq,rfl⟩:=gi QY;have QV:=aH (EC S (d9 S n) f l) hl;have HT:=vU w _ mp g fb hf;rw[fg.eq,fg.tk]at HT;have QS:0<=nJ S f/\nJ S f<8:=by rw[<-fg.tk];exact rI mp g
 have HZ:Hid (∀W,Calls prog 242 #[.agg #[aa f.num,aa (nJ S f)]] W λe w'=>e= .returned (aa (eW f.num (nJ S f)).length)/\Below W.heap.size W w'):=λW=>LS W f.num (nJ S f) hnm.1 hnm.2 QS.1 QS.2
 have HP:Hid (∀W,aj w W->Calls prog 209 #[ag fb] W λe w'=>e= .returned (.bool (g9 S f))/\Below W.heap.size W w'):=λW hW=>by
  have:=lH W _ mp g fb (hf.keep λb _ q=>hW.block b q)
  rwa [fg.pk]at this
 have HV:Hid (∀W,aj w W->Calls prog 233 #[.agg #[aa (ee mp g),.pointer pq],.slice a l.length c] W (gK (mo S (d9 S n) f l) W)):=λW hW=>
  Cg H hN W Z _ l d f g fb (.pointer pq) k (cx.on (dQ hW cx.le)) (hf.keep λb _ q=>hW.block b q) fg (pi.below hW (ay _) hv) hO ⟨rv,h1.below hW h1.lt⟩ hs QV
 have HL:Hid (∀W,Calls prog 243 #[aa (mo S (d9 S n) f l).length] W λe w'=>e= .returned (aa (eX (mo S (d9 S n) f l)).length)/\w'=W):=λW=>sN W _ QV
 have htl:=KH f.num (nJ S f)
 have hlen:(jM S (d9 S n) f l).length=if g9 S f then(eW f.num (nJ S f)).length+(eX (mo S (d9 S n) f l)).length else(eW f.num (nJ S f)).length*l.length+(mo S (d9 S n) f l).length:=by
  unfold jM
  split
  ·rw[aG]
  ·rw[rJ];rfl
 unfold gK;rw[hlen]at hl⊢;clear hlen;clear QY QT hf QS hs hO hv H cx hnm fg;generalize mo S (d9 S n) f l=y at*;generalize nJ S f=tk at*
 cases hpk:g9 S f with
 |true=>
  rw[hpk]at HP hl;rw[dB rfl]at hl⊢;generalize(eX y).length=yl at*;generalize(eW f.num tk).length=tl at*;go_enter func162,ntmps162;go_wp2_with fail;refine HT.mono ?_;rintro e w2 ⟨rfl,b2⟩;go_wp2_with fail;refine(HZ.out w2).mono ?_;rintro e w3 ⟨rfl,b3⟩;have B3:=dG b2 b3;go_wp2_with fail;refine(HP.out w3 B3).mono ?_;rintro e w4 ⟨rfl,b4⟩;have B4:=dG B3 b4;have h4:=h1.below B4 h1.lt;obtain⟨k1,k2⟩:=h4.rules;go_wp2_with fail;refine(HV.out w4 B4).mono ?_;rintro e w5 ⟨rfl,b5⟩;go_wp2_with fail;refine(HL.out w5).mono ?_;rintro e w6 ⟨rfl,rfl⟩;have QR:(tl:Int)+(yl:Int)<=140737488355328:=QD;go_wp2;go_ret;exact⟨by rw[cJ];rfl,dG B4 b5⟩
 |false=>
  rw[hpk]at HP hl;rw[dA QE]at hl⊢;generalize(eW f.num tk).length=tl at*;have hmul:(tl:Int)*(l.length:Int)=((tl*l.length:Nat):Int):=by rw[Int.natCast_mul]
  generalize tl*l.length=pl at*;go_enter func162,ntmps162;go_wp2_with fail;refine HT.mono ?_;rintro e w2 ⟨rfl,b2⟩;go_wp2_with fail;refine(HZ.out w2).mono ?_;rintro e w3 ⟨rfl,b3⟩;have B3:=dG b2 b3;go_wp2_with fail;refine(HP.out w3 B3).mono ?_;rintro e w4 ⟨rfl,b4⟩;have B4:=dG B3 b4;have h4:=h1.below B4 h1.lt;obtain⟨k1,k2⟩:=h4.rules;go_wp2_with fail;refine(HV.out w4 B4).mono ?_;rintro e w5 ⟨rfl,b5⟩;have QR:(pl:Int)+(y.length:Int)<=140737488355328:=QD;go_wp2;go_ret;exact⟨by rw[cJ];rfl,dG B4 b5⟩
def sQ {S:d8}{mp:am->Option Nat}{B:Nat}(hN:Cf S):∀n,Kz S mp B n:=by
 intro n
 induction n with
 |zero=>
  intro w Z v m d mb gs nm k cx hm hG QZ hM hO hs
  cases hs
 |succ n ih=>
  intro w Z v m d mb gs nm k cx hm hG QZ hM hO hs hl
  cases k with
  |zero=>exact hM.elim
  |succ k=>
  obtain⟨cs,hr,Q2⟩:=hM;obtain⟨a,c,rfl⟩:=hr.form;obtain⟨ho1,ho2,Q3⟩:=hO;rw[dN,aJ]at hs;have hX:=λx hx=>vV (x:=x) hs.1 hx
  obtain⟨B0,K1⟩:=dR w #[.slice a m.fs.length c,ae m.unk] 49;rw[d9]at hl;unfold gK;rw[d9];rw[aG]at hl⊢;rw[show m.unk.data.toList.length=m.unk.size by simp]at hl⊢
  have HC:Hid (∀(W:an) (x:PF) (f:eP) (g:GF) (fb:Nat) (v:Value),aj w W->x∈m.fs->dP d.fs x.1=some f->FG S mp d f g->eG W (λb=>b<B) mp g fb->pi (iy k w Z) w Z v x.2->Calls prog 162 #[ag fb,v] W (gK (jy S (d9 S n) d x) W)):=λW x f g fb v hW hx QQ fg QU hv=>by
   obtain⟨f',q1,q2⟩:=hX x hx;obtain rfl:f=f':=by rw[QQ]at q1;exact Option.some.inj q1
   have hb:jy S (d9 S n) d x=jM S (d9 S n) f x.2:=by unfold jy;rw[QQ]
   have QW:(jy S (d9 S n) d x).length<=140737488355328:=aH (uA hx) QD;rw[hb]at QW⊢;exact KJ ih hN W Z v x.2 d f g fb k (cx.on (dQ hW cx.le)) QU fg (QZ _ _ QQ) (pi.below hW (ay _) hv) (Q3 x hx) (λv hv=>vW q2 hv) QW
  have HT:Hid (∀i,((m.fs.take i).flatMap (jy S (d9 S n) d)).length+m.unk.size<=140737488355328):=λi=>by
   have:=io (g:=jy S (d9 S n) d) (l:=m.fs) i;show _<=_;omega
  generalize jy S (d9 S n) d=bx at*;clear hl hs;obtain⟨k1,k2⟩:=K1.rules;go_enter func102,ntmps102;go_wp2;generalize w.alloc (ak #[.slice a m.fs.length c,ae m.unk] 49)=w1 at*;go_loopw [5,7,14] (λsv _ iv wr=>∃i:Nat,iv=aa i/\i<=m.fs.length/\sv=aa (((m.fs.take i).flatMap bx).length+m.unk.size:Nat)/\aj w1 wr) (λ_ _ iv _=>m.fs.length-(intOf iv).toNat)
  case atStart=>exact⟨0,rfl,aM _,QE,Below.refl _ _⟩
  case round=>
   obtain⟨i,rfl,hi,rfl,Bw⟩:=hrel;clear k1 k2;have BW:=dG B0 Bw
   by_cases hlt:i<m.fs.length
   ·obtain⟨x,hx⟩:=gx hlt;obtain⟨vv,p1,p2,p3⟩:=Q2.get hx;obtain⟨va,vc,rfl⟩:=p1.form;obtain⟨g0,rfl,hzg0,Q0,QP⟩:=hr.at QD;have t0:=QP wr (BW.block _ Q0) _ _ p2;have t1:=lf (QP wr (BW.block _ Q0) _ _ p3);obtain⟨B1,K5⟩:=dR wr #[aa x.1,.slice va x.2.length vc] 58;have B2:=dG BW B1;have Q1:=dG Bw B1;obtain⟨f,QQ,_⟩:=hX x (aI hx);obtain⟨g,hg,fg⟩:=hG.yes _ _ QQ;have HF:=pJ _ (λb=>b<B) mp mb nm gs x.1 (hm.keep λb _ q=>B2.drew.block b q) hG.srt hG.len;rw[hg]at HF;have HZ:=λfb q=>HC.out _ x f g fb _ B2.drew (aI hx) QQ fg q p1
    have hT:=HT.out (i+1);rw[fD hx,aG]at hT
    have HS:Hid (((m.fs.take (i+1)).flatMap bx).length+m.unk.size=((m.fs.take i).flatMap bx).length+m.unk.size+(bx x).length):=by
     show((m.fs.take (i+1)).flatMap bx).length+m.unk.size=_;rw[fD hx,aG];omega
    have hT2:((m.fs.take i).flatMap bx).length+m.unk.size+(bx x).length<=140737488355328:=QD;generalize((m.fs.take i).flatMap bx).length+m.unk.size=sz at*;have hij:(i:Int)<(m.fs.length:Int):=QD;have QR:IntKind.i64.wrap ((sz:Int)+((bx x).length:Int))=(sz:Int)+((bx x).length:Int):=vX QD QD;clear QP p2 p3 B1 hx hg QQ hT;go_upto_region 5 with fail
    generalize wr.alloc (ak #[aa x.1,.slice va x.2.length vc] 58)=w2 at*;generalize wr.heap.size=vb at*;have hW:w2.drew.cell? (ai vb 0)=some (aa x.1)/\w2.drew.cell? (ai vb 1)=some (.slice va x.2.length vc):=⟨K5.drew.cell 0,K5.drew.cell 1⟩
    go_region_held2 (λW=>W.cell? (ai vb 0)=some (aa x.1)/\W.cell? (ai vb 1)=some (.slice va x.2.length vc))
     (first|exact hW|exact⟨QX.cell 0,QX.cell 1⟩)
     (first
      |(
        go_at_call 153;refine HF.mono ?_
        rintro e w3 ⟨⟨fb,rfl,QU⟩,rfl⟩)
      |(
        go_at_call 162;refine(HZ _ QU).mono ?_;rintro e w3 ⟨rfl,b3⟩
        have QX:=K5.below (w:=w2.drew) b3 K5.lt))
    go_wp2;go_roundw
    case rel=>exact⟨i+1,by go_num,QD,by rw[HS.out,cJ],dG Q1.drew b3⟩
    case measure=>simp[intOf];omega
   ·obtain rfl:i=m.fs.length:=QD;rw[bg];go_wp2;go_ret;exact⟨rfl,BW⟩
def LW (c:PV->List UInt8)(p:PV->Bool)(N f:Nat)(cap:aq)(W:an):Prop:=
 ∀(W':an) (Z:ap) (x:PV) (mv:Value) (k:Nat),Below N W W'->iy k W' Z mv x.2.2->nR k x.2.2->0<=x.1->x.1<18446744073709551616->p x=true->(c x).length<=140737488355328->
  Calls prog f (fF x mv::cap).toArray W' (gK (c x) W')
def KL (c:List PV->List UInt8)(p:PV->Bool)(N f:Nat)(cap:aq)(W:an):Prop:=
 ∀(W':an) (Z:ap) (vv:Value) (l:List PV) (k:Nat),Below N W W'->pi (iy k W' Z) W' Z vv l->LU k l->(∀x∈l,p x=true)->(c l).length<=140737488355328->
  Calls prog f (vv::cap).toArray W' (gK (c l) W')
def DB (S:d8)(iq:aw)(n:Nat)(t:MT)(N:Nat)(W:an):Prop:=
 ∀(W':an) (Z:ap) (v:Value) (m:PM) (k:Nat),Below N W W'->iy k W' Z v m->nR k m->dN S n t m=true->(d9 S n t m).length<=140737488355328->
  Calls prog 104 #[.pointer iq,.agg #[v,ae m.unk]] W' (gK (d9 S n t m) W')
def vY {N:Nat}{a b c:an}(h:Below N a b)(k:Below b.heap.size b c)(hN:N<=a.heap.size):Below N a c:=h.trans (dQ k (aH hN h.size))
section
variable {S:d8} {fl:eP} {n N:Nat} {W:an}
def ED {R:MT->PM->List UInt8}{x:PV}{t:MT}(h:fB S fl=16)(hs:eR S fl=some t):fP S R fl x=eX (R t x.2.2):=by unfold fP;rw[dB h,hs]
def Pf (ib:Nat)(iq:aw)(t:MT)(hN:N<=W.heap.size)(hb:dK W ib #[.pointer iq] 116)(hi:ib<N)(H:DB S iq n t N W)(h16:fB S fl=16)(hsub:eR S fl=some t):
  LW (fP S (d9 S n) fl) (ek S (dN S n) fl) N 412 [ag ib] W:=by
 intro W' Z x mv k B hm hO h0 h1 hp hl;show Calls prog 412 #[fF x mv,ag ib] W' _;rw[ED h16 hsub]at hl⊢;have hR:=sO hp h16 hsub;have QS:=aH (pQ _) hl;obtain⟨ma,mc,rfl⟩:=hm.form;obtain⟨B1,K1⟩:=dR W' #[.int .u64 x.1,ae x.2.1,.slice ma x.2.2.fs.length mc,ae x.2.2.unk] 55;have B2:=vY B B1 hN;have QU:=hb.below B2 hi;have HC:=H _ Z _ x.2.2 k B2 (hm.below B1 (ay _)) hO hR QS;have HL:=λW=>sN W (d9 S n t x.2.2) QS
 unfold gK fF;generalize d9 S n t x.2.2=y at*;obtain⟨k1,k2⟩:=K1.rules;obtain⟨k3,k4⟩:=QU.rules;go_enter func412,ntmps412;go_wp2_with fail;refine HC.mono ?_;rintro e w2 ⟨rfl,b2⟩;go_wp2_with fail;refine(HL w2).mono ?_;rintro e w3 ⟨rfl,rfl⟩;go_wp2;go_ret;exact⟨rfl,dG B1 b2⟩
def Pg (hk:fB S fl=13\/fB S fl=14):LW (fP S (d9 S n) fl) (ek S (dN S n) fl) N 413 [] W:=by
 intro W' Z x mv k B hm hO h0 h1 hp hl;show Calls prog 413 #[fF x mv] W' _;have hb:fP S (d9 S n) fl x=eX x.2.1.data.toList:=by unfold fP;rw[dA QD,dB hk]
 rw[hb]at hl⊢;have QS:=aH (pQ _) hl;obtain⟨ma,mc,rfl⟩:=hm.form;obtain⟨B1,K1⟩:=dR W' #[.int .u64 x.1,ae x.2.1,.slice ma x.2.2.fs.length mc,ae x.2.2.unk] 55;have HL:=λW=>sN W x.2.1.data.toList QS
 rw[show x.2.1.data.toList.length=x.2.1.size by simp]at HL;unfold gK fF;obtain⟨k1,k2⟩:=K1.rules;go_enter func413,ntmps413;go_wp2_with fail;refine(HL _).mono ?_;rintro e w3 ⟨rfl,rfl⟩;go_wp2;go_ret;exact⟨rfl,B1⟩
def Ph (hk:fB S fl=4\/fB S fl=5):LW (fP S (d9 S n) fl) (ek S (dN S n) fl) N 414 [] W:=by
 intro W' Z x mv k B hm hO h0 h1 hp hl;show Calls prog 414 #[fF x mv] W' _;have hb:fP S (d9 S n) fl x=vi (zZ x.1):=by unfold fP;rw[dA QD,dA QD,dA QD,dA QD,dB hk]
 rw[hb];obtain⟨QY,QZ⟩:=uB h0 h1;obtain⟨ma,mc,rfl⟩:=hm.form;obtain⟨B1,K1⟩:=dR W' #[.int .u64 x.1,ae x.2.1,.slice ma x.2.2.fs.length mc,ae x.2.2.unk] 55;have HZ:=λW=>rH W x.1 h0 h1
 have HY:=λW=>nI W (zZ x.1) QY QZ
 unfold gK fF;obtain⟨k1,k2⟩:=K1.rules;go_enter func414,ntmps414;go_wp2_with fail;refine(HZ _).mono ?_;rintro e w2 ⟨rfl,rfl⟩;go_wp2_with fail;refine(HY _).mono ?_;rintro e w3 ⟨rfl,rfl⟩;go_wp2;go_ret;exact⟨rfl,B1⟩
def Pi (hk:fB S fl=7\/fB S fl=9\/fB S fl=11):LW (fP S (d9 S n) fl) (ek S (dN S n) fl) N 415 [] W:=by
 intro W' Z x mv k B hm hO h0 h1 hp hl;show Calls prog 415 #[fF x mv] W' _;have hb:fP S (d9 S n) fl x=nP 4 x.1:=by unfold fP;rw[dA QD,dA QD,dB hk]
 obtain⟨ma,mc,rfl⟩:=hm.form;have B1:=(dR W' #[.int .u64 x.1,ae x.2.1,.slice ma x.2.2.fs.length mc,ae x.2.2.unk] 55).1;unfold gK fF;rw[hb,gY];go_enter func415,ntmps415;go_wp2;go_ret;exact⟨rfl,B1⟩
def Pj (hk:fB S fl=8\/fB S fl=10\/fB S fl=12):LW (fP S (d9 S n) fl) (ek S (dN S n) fl) N 416 [] W:=by
 intro W' Z x mv k B hm hO h0 h1 hp hl;show Calls prog 416 #[fF x mv] W' _;have hb:fP S (d9 S n) fl x=nP 8 x.1:=by unfold fP;rw[dA QD,dA QD,dA QD,dB hk]
 obtain⟨ma,mc,rfl⟩:=hm.form;have B1:=(dR W' #[.int .u64 x.1,ae x.2.1,.slice ma x.2.2.fs.length mc,ae x.2.2.unk] 55).1;unfold gK fF;rw[hb,gY];go_enter func416,ntmps416;go_wp2;go_ret;exact⟨rfl,B1⟩
def Pk (hk:fB S fl<4\/fB S fl=6\/fB S fl=15):LW (fP S (d9 S n) fl) (ek S (dN S n) fl) N 417 [] W:=by
 intro W' Z x mv k B hm hO h0 h1 hp hl;show Calls prog 417 #[fF x mv] W' _;have hb:fP S (d9 S n) fl x=vi x.1:=by unfold fP;rw[dA QD,dA QD,dA QD,dA QD,dA QD]
 rw[hb];obtain⟨ma,mc,rfl⟩:=hm.form;obtain⟨B1,K1⟩:=dR W' #[.int .u64 x.1,ae x.2.1,.slice ma x.2.2.fs.length mc,ae x.2.2.unk] 55;have HY:=λW=>nI W x.1 h0 h1
 unfold gK fF;obtain⟨k1,k2⟩:=K1.rules;go_enter func417,ntmps417;go_wp2_with fail;refine(HY _).mono ?_;rintro e w3 ⟨rfl,rfl⟩;go_wp2;go_ret;exact⟨rfl,B1⟩
end
section
variable {bv:PV->List UInt8} {p:PV->Bool} {N:Nat} {W:an}
def Oo (vb vf:Nat)(vcap:aq)(hN:N<=W.heap.size)(hb:dK W vb #[.func (.func vf) #[] vcap.toArray] 447)(hi:vb<N)(hen:∀args w,(callFunc vf args).run prog w= .ok (.enter vf args) w)(H:LW bv p N vf vcap W):
  KL (λl=>l.flatMap bv) p N 369 [ag vb] W:=by
 intro W' Z vv l k B hv hO hp hl;show Calls prog 369 #[vv,ag vb] W' (gK (l.flatMap bv) W');obtain⟨a,c,rfl⟩:=hv.form;obtain⟨vcs,Q0,Q1⟩:=hv;have QU:=hb.below B hi;have hll:=hO.1
 have HC:Hid (∀(W2:an) (x:PV) (mv:Value),Below W'.heap.size W' W2->x∈l->iy k W' Z mv x.2.2->Calls prog vf (fF x mv::vcap).toArray W2 (gK (bv x) W2)):=λW2 x mv h2 hx hm=>
  H W2 Z x mv k (vY B h2 hN) (hm.below h2 (ay _)) (hO.2 x hx).2.2.2 (hO.2 x hx).1 (hO.2 x hx).2.1 (hp x hx) (aH (uA hx) hl)
 have HT:Hid (∀i,((l.take i).flatMap bv).length<=140737488355328):=λi=>aH (io i) hl
 clear hl hp hO H;go_enter func369,ntmps369;go_wp2;go_loopw [4,6,9] (λsv _ jv wr=>∃j:Nat,jv=aa j/\j<=l.length/\sv=aa ((l.take j).flatMap bv).length/\Below W'.heap.size W' wr) (λ_ _ jv _=>l.length-(intOf jv).toNat)
 case atStart=>exact⟨0,rfl,aM _,rfl,Below.refl _ _⟩
 case round=>
  obtain⟨j,rfl,hj,rfl,BW⟩:=hrel
  by_cases hlt:j<l.length
  ·obtain⟨x,hx⟩:=gx hlt;obtain⟨mv,p1,p2,p3,p4,p5⟩:=Q1.get hx;obtain⟨ma,mc,rfl⟩:=p1.form;obtain⟨gv,rfl,hzgv,QV,QP⟩:=Q0.at QD;have t0:=QP wr (BW.block _ QV) _ _ p2;have t1:=lf (QP wr (BW.block _ QV) _ _ p3);have t2:=lf (QP wr (BW.block _ QV) _ _ p4);have t3:=lf (QP wr (BW.block _ QV) _ _ p5);have hlj:(j:Int)<(l.length:Int):=QD;obtain⟨B1,K1⟩:=dR wr #[.int .u64 x.1,ae x.2.1,.slice ma x.2.2.fs.length mc,ae x.2.2.unk] 55;have B2:=dG BW B1;have HX:=HC.out _ x _ B2 (aI hx) p1;unfold fF at HX;have KT:=QU.below B2 QU.lt;have hT:=HT.out (j+1);rw[fD hx,aG]at hT
   have HS:Hid (((l.take (j+1)).flatMap bv).length=((l.take j).flatMap bv).length+(bv x).length):=by
    show((l.take (j+1)).flatMap bv).length=_;rw[fD hx,aG]
   generalize((l.take j).flatMap bv).length=sz at*;obtain⟨k1,k2⟩:=KT.rules;obtain⟨k3,k4⟩:=K1.rules;clear QP p2 p3 p4 p5 hx;go_wp2_with fail;refine HX.mono ?_;rintro e w3 ⟨rfl,b3⟩;generalize(bv x).length=yz at*;have QT:(sz:Int)+(yz:Int)<=140737488355328:=QD;go_wp2;go_roundw
   case rel=>exact⟨j+1,by go_num,QD,by rw[HS.out];go_num,dG B2 b3⟩
   case measure=>simp[intOf];omega
  ·obtain rfl:j=l.length:=QD;rw[bg];go_wp2;go_ret;exact⟨rfl,BW⟩
def Iw {c:List PV->List UInt8}(tb ab af:Nat)(acap:aq)(tg:List UInt8)(ht:dK W tb #[aa tg.length] 3)(ha:dK W ab #[.func (.func af) #[] acap.toArray] 262)(hi:tb<N)(hj:ab<N)(hen:∀args w,(callFunc af args).run prog w= .ok (.enter af args) w)(H:KL c p N af acap W):
  KL (λl=>tg++eX (c l)) p N 290 [ag tb,ag ab] W:=by
 intro W' Z vv l k B hv hO hp hl;show Calls prog 290 #[vv,ag tb,ag ab] W' (gK (tg++eX (c l)) W')
 have QX:tg.length+(eX (c l)).length<=140737488355328:=by
  have:=hl;simp only[aG]at this;exact this
 have QS:=pQ (c l);obtain⟨va,vc,rfl⟩:=hv.form;have b0:Below W'.heap.size W' W'.drew:=(Below.refl _ _).drew;have QQ:=ht.below B hi;have QR:=ha.below B hj;have HX:=H W'.drew Z _ l k B.drew (pi.below b0 (ay _) hv) hO hp QD;have HL:=λW=>sN W (c l) QD
 unfold gK;rw[aG];have QT:IntKind.i64.wrap ((tg.length:Int)+((eX (c l)).length:Int))=(tg.length:Int)+((eX (c l)).length:Int):=vX QD QD;have hW:W'.drew.cell? (ai tb 0)=some (aa tg.length)/\W'.drew.cell? (ai ab 0)=some (.func (.func af) #[] acap.toArray):=⟨QQ.drew.cell 0,QR.drew.cell 0⟩;generalize tg.length=tl at*;generalize eX (c l)=y at*;go_enter func290,ntmps290;go_upto_region 1 with fail
 go_region_held2 (λW=>W.cell? (ai tb 0)=some (aa tl)/\W.cell? (ai ab 0)=some (.func (.func af) #[] acap.toArray))
  (first|exact QW|exact hW)
  (first
   |(
     go_at_call 243;refine(HL _).mono ?_
     rintro e w4 ⟨rfl,rfl⟩)
   |(
     refine HX.mono ?_;rintro e w3 ⟨rfl,b3⟩
     have QW:w3.cell? (ai tb 0)=some (aa tl)/\w3.cell? (ai ab 0)=some (.func (.func af) #[] acap.toArray):=⟨(QQ.drew.below b3 QQ.drew.lt).cell 0,(QR.drew.below b3 QR.drew.lt).cell 0⟩))
 all_goals
  go_wp2;go_ret;exact⟨by rw[cJ];rfl,dG b0 b3⟩
def KU (tb ab af:Nat)(acap:aq)(tg:List UInt8)(ht:dK W tb #[aa tg.length] 3)(ha:dK W ab #[.func (.func af) #[] acap.toArray] 262)(hi:tb<N)(hj:ab<N)(hen:∀args w,(callFunc af args).run prog w= .ok (.enter af args) w)(H:KL (λl=>l.flatMap bv) p N af acap W):
  KL (λl=>l.flatMap λv=>tg++bv v) p N 291 [ag tb,ag ab] W:=by
 intro W' Z vv l k B hv hO hp hl;show Calls prog 291 #[vv,ag tb,ag ab] W' (gK (l.flatMap λv=>tg++bv v) W')
 have QX:tg.length*l.length+(l.flatMap bv).length<=140737488355328:=by
  have:=hl;simp only at this
  rwa [rJ]at this
 obtain⟨va,vc,rfl⟩:=hv.form;have b0:Below W'.heap.size W' W'.drew:=(Below.refl _ _).drew;have QQ:=ht.below B hi;have QR:=ha.below B hj;have HX:=H W'.drew Z _ l k B.drew (pi.below b0 (ay _) hv) hO hp (show(l.flatMap bv).length<=_ by omega);unfold gK;rw[rJ];have hmul:(tg.length:Int)*(l.length:Int)=((tg.length*l.length:Nat):Int):=by rw[Int.natCast_mul]
 have hW:W'.drew.cell? (ai tb 0)=some (aa tg.length)/\W'.drew.cell? (ai ab 0)=some (.func (.func af) #[] acap.toArray):=⟨QQ.drew.cell 0,QR.drew.cell 0⟩;generalize tg.length*l.length=pl at*;generalize tg.length=tl at*;change Calls prog af _ _ (gK (l.flatMap bv) W'.drew)at HX;generalize l.flatMap bv=y at*;have hw1:IntKind.i64.wrap (pl:Int)=pl:=vX QD QD;have QT:IntKind.i64.wrap ((pl:Int)+(y.length:Int))=(pl:Int)+(y.length:Int):=vX QD QD;go_enter func291,ntmps291;go_upto_region 1 with fail
 go_region_held2 (λW=>W.cell? (ai tb 0)=some (aa tl)/\W.cell? (ai ab 0)=some (.func (.func af) #[] acap.toArray))
  (first|exact QW|exact hW)
  (first
   |(
     refine HX.mono ?_;rintro e w3 ⟨rfl,b3⟩
     have QW:w3.cell? (ai tb 0)=some (aa tl)/\w3.cell? (ai ab 0)=some (.func (.func af) #[] acap.toArray):=⟨(QQ.drew.below b3 QQ.drew.lt).cell 0,(QR.drew.below b3 QR.drew.lt).cell 0⟩))
 all_goals
  go_wp2;go_ret;exact⟨by rw[cJ];rfl,dG b0 b3⟩
end
def Oq (w:an)(Q:ap)(b:Nat)(iq:aw)(v:Value):Prop:=
 ∃f cap,It v f cap/\∀(S:d8) (fl:eP) (n N:Nat) (W:an),Kp Q w W->(∀b,Q b->b<w.heap.size->b<N)->N<=W.heap.size->fB S fl=b->(fB S fl=16->∃t,eR S fl=some t/\DB S iq n t N W)->LW (fP S (d9 S n) fl) (ek S (dN S n) fl) N f cap W
def tH (w:an)(Q:ap)(b:Nat)(iq:aw)(v:Value):Prop:=
 ∃f cap,It v f cap/\∀(S:d8) (fl:eP) (n N:Nat) (W:an),Kp Q w W->(∀b,Q b->b<w.heap.size->b<N)->N<=W.heap.size->fB S fl=b->(fB S fl=16->∃t,eR S fl=some t/\DB S iq n t N W)->KL (mo S (d9 S n) fl) (ek S (dN S n) fl) N f cap W
def DC (w:an)(Q:ap)(mp:am->Option Nat)(g:GF)(iq:aw)(v:Value):Prop:=
 ∃f cap,It v f cap/\∀(S:d8) (d:MT) (fl:eP) (n N:Nat) (W:an),Kp Q w W->(∀b,Q b->b<w.heap.size->b<N)->N<=W.heap.size->FG S mp d fl g->(0<=fl.num/\fl.num<=536870911)->(fB S fl=16->∃t,eR S fl=some t/\DB S iq n t N W)->KL (jM S (d9 S n) fl) (ek S (dN S n) fl) N f cap W
section
variable {w w':an} {Q Q':ap} {mp:am->Option Nat} {g:GF} {iq:aw} {v:Value} (hk:Mv w Q w' Q')
include hk
def tH.move {b:Nat}(h:tH w Q b iq v):tH w' Q' b iq v:=by
 obtain⟨f,cap,h1,h2⟩:=h;exact⟨f,cap,h1,λS fl n N W q hN=>h2 S fl n N W (q.mv hk) λb x l=>hN b (hk b x l).1 (hk.lt x l)⟩
def DC.move (h:DC w Q mp g iq v):DC w' Q' mp g iq v:=by
 obtain⟨f,cap,h1,h2⟩:=h;exact⟨f,cap,h1,λS d fl n N W q hN=>h2 S d fl n N W (q.mv hk) λb x l=>hN b (hk b x l).1 (hk.lt x l)⟩
end
def iy.under {w w':an}{Z:ap}{N k:Nat}{v:Value}{m:PM}(h:iy k w Z v m)(hb:Below N w w')(hZ:∀i,Z i->i<N):iy k w' Z v m:=h.keep λb q _=>hb.block b (hZ b q)
def pi.under {w w':an}{Z:ap}{N k:Nat}{v:Value}{l:List PV}(h:pi (iy k w Z) w Z v l)(hb:Below N w w')(hZ:∀i,Z i->i<N):pi (iy k w' Z) w' Z v l:=
 h.keep (λ_ _ q=>q.under hb hZ) λb q _=>hb.block b (hZ b q)
def MS (S:d8)(mp:am->Option Nat)(B n:Nat):Prop:=
 ∀(w:an) (Z:ap) (v:Value) (m:PM) (d:MT) (mb:Nat) (gs:List GF) (nm:am) (k N b:Nat) (l:List UInt8),rC w B S mp->iF w (λb=>b<B) mp mb nm gs->kc S mp d gs->Jq d->iy k w Z v m->(∀i,Z i->i<N)->B<=N->N<=w.heap.size->nR k m->dN S n d m=true->eY w N b (d5 b) l->l.length+(d9 S n d m).length<=140737488355328->
  Calls prog 97 #[ag mb,.agg #[v,ae m.unk],d5 b] w (ix N b l (d9 S n d m) w)
def KX {S:d8}{mp:am->Option Nat}{B n:Nat}(H:MS S mp B n)(hN:Cf S)(w:an)(Z:ap)(mv:Value)(x:PV)(d:MT)(f:eP)(g:GF)(fb:Nat)(pv:Value)(k N b:Nat)(l:List UInt8)(cx:rC w B S mp)(hf:eG w (λb=>b<B) mp g fb)(fg:FG S mp d f g)(hM:iy k w Z mv x.2.2)(hZ:∀i,Z i->i<N)(hBN:B<=N)(hNw:N<=w.heap.size)(hO:nR k x.2.2)(h0:0<=x.1)(h1:x.1<18446744073709551616)
  (hpv:∃rv,dK w fb #[aa g.f.num,aa g.form,aa (ee mp g),pv,rv] 220) (hs:ek S (dN S n) f x=true) (hW:eY w N b (d5 b) l) (hl:l.length+(fP S (d9 S n) f x).length<=140737488355328):
  Calls prog 234 #[.agg #[aa (ee mp g),pv],fF x mv,d5 b] w (ix N b l (fP S (d9 S n) f x) w):=by
 obtain⟨ma,mc,rfl⟩:=hM.form;have QY:=Ir fg;unfold fF;rw[fg.gb]
 by_cases h16:fB S f=16
 ·obtain⟨t,mb,gs,nm,rv,QP,QU,QV,QW⟩:=Dz cx hf fg h16;obtain⟨rv2,QX⟩:=hpv
  obtain rfl:pv=ag mb:=by
   have:=(dK.cell QU 3).symm.trans (dK.cell QX 3);simpa using this.symm
  have hb:fP S (d9 S n) f x=eX (d9 S n t x.2.2):=by unfold fP;rw[dB h16,QP]
  have hR:=sO hs h16 QP;rw[hb]at hl;unfold eX at hl;rw[aG]at hl;rw[hb,h16];obtain⟨B0,KT,KV⟩:=fK w #[aa 16,ag mb] #[.int .u64 x.1,ae x.2.1,.slice ma x.2.2.fs.length mc,ae x.2.2.unk] 216 55;have HC:=sQ hN n _ Z _ x.2.2 t mb gs nm k (cx.on (dQ B0 cx.le)) (QV.keep λb q _=>B0.block b (by have:=cx.le;omega)) QW (sP hN QP) (hM.below B0 (ay _)) hO hR QD
  have HW:Hid (∀(W:an) (l2:List UInt8),Below N w W->eY W N b (d5 b) l2->l2.length+(d9 S n t x.2.2).length<=140737488355328->Calls prog 97 #[ag mb,.agg #[.slice ma x.2.2.fs.length mc,ae x.2.2.unk],d5 b] W (ix N b l2 (d9 S n t x.2.2) W)):=λW l2 QS hw Q1=>
   H W Z _ x.2.2 t mb gs nm k N b l2 (cx.on (dQ QS hBN)) (QV.keep λb q _=>QS.block b QD) QW (sP hN QP) (hM.under QS hZ) hZ hBN (by have:=QS.size;omega) hO hR hw Q1
  have QQ:=hW.on B0;generalize d9 S n t x.2.2=y at*;obtain⟨k1,k2⟩:=KT.rules;obtain⟨k3,k4⟩:=KV.rules;clear QU QX H hb hR;go_enter func234,ntmps234;go_wp2_with fail;generalize(w.alloc (ak #[aa 16,ag mb] 216)).alloc (ak #[.int .u64 x.1,ae x.2.1,.slice ma x.2.2.fs.length mc,ae x.2.2.unk] 55)=w1 at*;refine HC.mono ?_;rintro e w2 ⟨rfl,b2⟩;have B2:=dG B0 b2;have hs2:=B2.size;go_wp2_with fail;refine(ph y.length (QQ.on b2) QD QD QD).mono ?_;rintro e w3 ⟨rfl,q1,q2⟩;have QZ:=q2.fr _ _ _ QG QG (KT.below b2 KT.lt);have Q0:=q2.fr _ _ _ QG QG (KV.below b2 KV.lt);have Q:=(Wr.of B2 hNw).trans q2;clear k1 k2 k3 k4;obtain⟨k1,k2⟩:=QZ.rules;obtain⟨k3,k4⟩:=Q0.rules;go_wp2_with fail;refine(HW.out w3 _ Q.bel q1 (by rw[aG];omega)).mono ?_;rintro e w4 ⟨rfl,r1,r2⟩;go_wp2;go_end0;exact⟨rfl,by rw[aW]at r1;exact r1,Q.trans r2⟩
 ·obtain⟨Q2,Q3⟩:=uB h0 h1;obtain⟨B0,KT,KV⟩:=fK w #[aa (fB S f),pv] #[.int .u64 x.1,ae x.2.1,.slice ma x.2.2.fs.length mc,ae x.2.2.unk] 216 55;have QQ:=hW.on B0;have QT:=B0.size;have QR:=aH hNw QT;have HZ:=λW=>rH W x.1 h0 h1
  clear hs H hpv QT
  rcases yn QY with q|q|q|q|q|q|q|q|q|q|q|q|q|q|q|q|q
  case inr.inr.inr.inr.inr.inr.inr.inr.inr.inr.inr.inr.inr.inr.inr.inr=>exact absurd q h16
  all_goals
   rw[q]at B0 KT KV QQ QR;obtain⟨k1,k2⟩:=KT.rules;obtain⟨k3,k4⟩:=KV.rules;clear h16;unfold fP at hl⊢;simp only[q,Nat.reduceEqDiff,if_false,if_true,or_self,or_true,or_false]at hl⊢;go_enter func234,ntmps234;go_wp2_with (first|(go_at_call 318;refine(Ex _ QQ hl QR).mono ?_;rintro e w2 ⟨rfl,q1,q2⟩)|(go_at_call 319;refine(Ik _ QQ h0 h1 hl QR).mono ?_;rintro e w2 ⟨rfl,q1,q2⟩)|(go_at_call 320;refine(Ew _ QQ h0 h1 hl QR).mono ?_;rintro e w2 ⟨rfl,q1,q2⟩)|(go_at_call 321;refine(HZ _).mono ?_;rintro e w2 ⟨rfl,rfl⟩)|(go_at_call 315;(first|refine(nH _ QQ h0 h1 hl QR).mono ?_|refine(nH _ QQ Q2 Q3 hl QR).mono ?_);rintro e w2 ⟨rfl,q1,q2⟩))
   go_end0;exact⟨rfl,q1,(Wr.of B0 hNw).trans q2⟩
end
section
variable {S:d8} {mp:am->Option Nat} {B:Nat}
attribute [local go_sem↓] Go.wp_at_zero Go.wp_at_succ
def OS (S:d8)(R:MT->PM->List UInt8)(f:eP)(l:List PV):List UInt8:=if g9 S f then eW f.num (nJ S f)++vi (mo S R f l).length else []
def OT (S:d8)(f:eP):List UInt8:=if g9 S f then []else eW f.num (nJ S f)
theorem KZ (S:d8)(R:MT->PM->List UInt8)(f:eP)(l:List PV):jM S R f l=OS S R f l++l.flatMap λv=>OT S f++fP S R f v:=by
 unfold jM OS OT
 split
 ·simp only[aR];rw[eX,aW];rfl
 ·rfl
theorem La {n:Nat}(H:MS S mp B n)(hN:Cf S)(w:an)(Z:ap)(v:Value)(l:List PV)(d:MT)(f:eP)(g:GF)(fb k N b:Nat)(l0:List UInt8)(cx:rC w B S mp)(hf:eG w (λb=>b<B) mp g fb)(fg:FG S mp d f g)(hnm:0<=f.num/\f.num<=536870911)(hv:pi (iy k w Z) w Z v l)(hZ:∀i,Z i->i<N)(QV:B<=N)(QY:N<=w.heap.size)(hO:LU k l)
  (hs:∀x∈l,ek S (dN S n) f x=true) (hW:eY w N b (d5 b) l0) (hl:l0.length+(jM S (d9 S n) f l).length<=140737488355328):
  Calls prog 152 #[ag fb,v,d5 b] w (ix N b l0 (jM S (d9 S n) f l) w):=by
 obtain⟨a,c,rfl⟩:=hv.form;obtain⟨pv,rv,h1,hfB,Q6,Re⟩:=hf.blk;obtain⟨pq,rfl⟩:=gi Re;have Ra:(mo S (d9 S n) f l).length<=140737488355328:=by have:=EC S (d9 S n) f l;omega
 have Q2:0<=nJ S f/\nJ S f<8:=by rw[<-fg.tk];exact rI mp g
 have hk:∀{W},Below N w W->eG W (λb=>b<B) mp g fb:=λhW=>hf.keep λb q _=>hW.block b QD
 have HT:Hid (∀W,Below N w W->Calls prog 231 #[ag fb] W λe w'=>e= .returned (.agg #[aa f.num,aa (nJ S f)])/\Below W.heap.size W w'):=λW hW=>by
  have:=vU W _ mp g fb (hk hW)
  rwa [fg.eq,fg.tk]at this
 have HE:Hid (∀(W:an) (l2:List UInt8),Below N w W->eY W N b (d5 b) l2->l2.length+(eW f.num (nJ S f)).length<=140737488355328->Calls prog 230 #[d5 b,.agg #[aa f.num,aa (nJ S f)]] W (ix N b l2 (eW f.num (nJ S f)) W)):=λW l2 QS hw QX=>
  In f.num (nJ S f) hnm.1 hnm.2 Q2.1 Q2.2 hw QX (by have:=QS.size;omega)
 have HP:Hid (∀W,Below N w W->Calls prog 209 #[ag fb] W λe w'=>e= .returned (.bool (g9 S f))/\Below W.heap.size W w'):=λW hW=>by
  have:=lH W _ mp g fb (hk hW)
  rwa [fg.pk]at this
 have HV:Hid (∀W,Below N w W->Calls prog 233 #[.agg #[aa (ee mp g),.pointer pq],.slice a l.length c] W (gK (mo S (d9 S n) f l) W)):=λW hW=>
  Cg (sQ hN n) hN W Z _ l d f g fb (.pointer pq) k (cx.on (dQ hW QV)) (hk hW) fg (hv.under hW hZ) hO ⟨rv,(hW.block fb QD).trans h1⟩ hs Ra
 have HX:Hid (∀(W:an) (x:PV) (mv:Value) (l2:List UInt8),Below N w W->x∈l->iy k w Z mv x.2.2->eY W N b (d5 b) l2->l2.length+(fP S (d9 S n) f x).length<=140737488355328->Calls prog 234 #[.agg #[aa (ee mp g),.pointer pq],fF x mv,d5 b] W (ix N b l2 (fP S (d9 S n) f x) W)):=λW x mv l2 QS hx hm hw QX=>
  KX H hN W Z mv x d f g fb (.pointer pq) k N b l2 (cx.on (dQ QS QV)) (hk QS) fg (hm.under QS hZ) hZ QV (by have:=QS.size;omega) (hO.2 x hx).2.2.2 (hO.2 x hx).1 (hO.2 x hx).2.1 ⟨rv,(QS.block fb QD).trans h1⟩ (hs x hx) hw QX
 obtain⟨vcs,Rf,Rg⟩:=hv;have hll:=hO.1;rw[KZ]at hl⊢;have HD:Hid (OS S (d9 S n) f l=if g9 S f then eW f.num (nJ S f)++vi (mo S (d9 S n) f l).length else []):=rfl;have HG:Hid (OT S f=if g9 S f then []else eW f.num (nJ S f)):=rfl;generalize OS S (d9 S n) f l=hd at*;generalize OT S f=tg at*;generalize mo S (d9 S n) f l=y at*;generalize fP S (d9 S n) f=bv at*;generalize eW f.num (nJ S f)=tb at*;generalize nJ S f=tk at*;generalize g9 S f=pk at*;generalize ee mp g=gb at*;obtain⟨bd,Q7⟩:∃bd:PV->List UInt8,bd=λx=>tg++bv x:=⟨_,rfl⟩
 have HB:Hid (∀x,bd x=tg++bv x):=λx=>by rw[Q7]
 rw[<-Q7]at hl⊢;rw[aG]at hl
 have HA:Hid (∀j,l0.length+hd.length+((l.take j).flatMap bd).length<=140737488355328):=λj=>by
  have:=io (g:=bd) (l:=l) j;omega
 clear Q7 Re Q6 hf Q2 hs hO H cx hnm fg hk hl;have P1:=HP.out w (Below.refl _ _)
 cases pk with
 |false=>
  have QZ:Hid (hd= []):=HD.out;obtain rfl:tg=tb:=HG.out;go_enter func152,ntmps152;go_wp2_with fail;refine P1.mono ?_;rintro e w1 ⟨rfl,b1⟩;have W1:=Wr.of b1 QY;have Q3:=hW.on b1;go_wp2;go_loopw [7,24] (λ_ jv wr=>∃j:Nat,jv=aa j/\j<=l.length/\eY wr N b (d5 b) (l0++(l.take j).flatMap bd)/\Wr N w wr) (λ_ jv _=>l.length-(intOf jv).toNat)
  case atStart=>exact⟨0,rfl,aM _,by simpa using Q3,W1⟩
  case round=>
   obtain⟨j,rfl,hj,QR,Wj⟩:=hrel;have hsz:=Wj.bel.size
   by_cases hlt:j<l.length
   ·obtain⟨x,hx⟩:=gx hlt;obtain⟨mv,p1,p2,p3,p4,p5⟩:=Rg.get hx;obtain⟨ma,mc,rfl⟩:=p1.form;obtain⟨gv,rfl,QU,Rh,QP⟩:=Rf.at QD;have QQ:=Wj.bel.block _ (hZ _ QU);have t0:=QP wr QQ _ _ p2;have t1:=lf (QP wr QQ _ _ p3);have t2:=lf (QP wr QQ _ _ p4);have t3:=lf (QP wr QQ _ _ p5);have Rj:(j:Int)<(l.length:Int):=QD;obtain⟨B1,K1⟩:=dR wr #[.int .u64 x.1,ae x.2.1,.slice ma x.2.2.fs.length mc,ae x.2.2.unk] 55;have W2:=Wj.trans (Wr.of B1 QD);have Q0:=QR.on B1;have hA:=HA.out (j+1);rw[fD hx,HB.out]at hA
    have HL:Hid (l0++(l.take (j+1)).flatMap bd=l0++(l.take j).flatMap bd++tg++bv x):=by
     show l0++(l.take (j+1)).flatMap bd=_;rw[fD hx,HB.out];simp only[aW]
    have Rk:(l0++(l.take j).flatMap bd).length+tg.length+(bv x).length<=140737488355328:=by
     simp only[aG]at hA⊢;omega
    have QT:=aI hx;generalize l0++(l.take j).flatMap bd=lj at*;clear QP p2 p3 p4 p5 hx hA QQ;have Rl:=W2.bel.size;have P2:=HP.out _ W2.bel;go_wp2_with fail;generalize wr.alloc (ak #[.int .u64 x.1,ae x.2.1,.slice ma x.2.2.fs.length mc,ae x.2.2.unk] 55)=w2 at*;refine P2.mono ?_;rintro e w3 ⟨rfl,b3⟩;have W3:=W2.trans (Wr.of b3 QD);go_wp2_with fail;refine(HT.out w3 W3.bel).mono ?_;rintro e w4 ⟨rfl,b4⟩;have B4:=dG b3 b4;have W4:=W2.trans (Wr.of B4 QD);go_wp2_with fail;refine(HE.out w4 lj W4.bel (Q0.on B4) QD).mono ?_;rintro e wc ⟨rfl,Q4,q2⟩;have Wc:=W4.trans q2;have Kc:=q2.fr _ _ _ QG QG (K1.below B4 K1.lt);have h3:dK wc fb _ _:=(Wc.bel.block fb QD).trans h1;have Q1:=HX.out wc.drew x _ (lj++tg) Wc.bel.drew QT p1 (Q4.on (Below.refl wc.heap.size wc).drew) (by rw[aG];omega);unfold fF at Q1;go_upto_region 8 with fail
    generalize wr.heap.size=vb at*
    have hC:wc.drew.cell? (ai fb 2)=some (aa gb)/\wc.drew.cell? (ai fb 3)=some (.pointer pq)/\wc.drew.cell? (ai vb 0)=some (.int .u64 x.1)/\wc.drew.cell? (ai vb 1)=some (ae x.2.1)/\wc.drew.cell? (ai vb 2)=some (.slice ma x.2.2.fs.length mc)/\wc.drew.cell? (ai vb 3)=some (ae x.2.2.unk):=
     ⟨h3.drew.cell 2,h3.drew.cell 3,Kc.drew.cell 0,Kc.drew.cell 1,Kc.drew.cell 2,Kc.drew.cell 3⟩
    go_region_held2 (λW=>W.cell? (ai fb 2)=some (aa gb)/\W.cell? (ai fb 3)=some (.pointer pq)/\W.cell? (ai vb 0)=some (.int .u64 x.1)/\W.cell? (ai vb 1)=some (ae x.2.1)/\W.cell? (ai vb 2)=some (.slice ma x.2.2.fs.length mc)/\W.cell? (ai vb 3)=some (ae x.2.2.unk))
     (first|exact hC|exact⟨h4.cell 2,h4.cell 3,K4.cell 0,K4.cell 1,K4.cell 2,K4.cell 3⟩)
     (first
      |(
        go_at_call 234;refine Q1.mono ?_;rintro e w4 ⟨rfl,q1,q3⟩;have W4:Wr N w w4:=⟨Wc.bel.drew.trans q3.bel,λi cs T h1 h2 h=>q3.fr i cs T h1 h2 (Wc.fr i cs T h1 h2 h)⟩;have h4:dK w4 fb _ _:=(W4.bel.block fb QD).trans h1
        have K4:=q3.fr _ _ _ QG QG Kc))
    go_wp2;go_roundw
    case rel=>exact⟨j+1,by go_num,QD,by rw[HL.out];exact q1,W4⟩
    case measure=>simp[intOf];omega
   ·obtain rfl:j=l.length:=QD;rw[bg]at QR;go_wp2;go_end0;exact⟨rfl,by rw[QZ.out,aR];exact QR,Wj⟩
 |true=>
  have QZ:Hid (hd=tb++vi y.length):=HD.out;have Rm:Hid (tg= []):=HG.out;have hA:=HA.out 0;rw[QZ.out]at hA;simp only[aG]at hA;go_enter func152,ntmps152;go_wp2_with fail;refine P1.mono ?_;rintro e w2 ⟨rfl,b2⟩;have W2:=Wr.of b2 QY;go_wp2_with fail;refine(HT.out w2 W2.bel).mono ?_;rintro e w3 ⟨rfl,b3⟩;have B3:=dG b2 b3;have W3:=Wr.of B3 QY;go_wp2_with fail;refine(HE.out w3 l0 W3.bel (hW.on B3) QD).mono ?_;rintro e w4 ⟨rfl,q1,q2⟩;have W4:=W3.trans q2;have h4:=(W4.bel.block fb QD).trans h1;obtain⟨k1,k2⟩:=dK.rules h4;go_wp2_with fail;refine(HV.out w4 W4.bel).mono ?_;rintro e w5 ⟨rfl,b5⟩;have Rn:=W4.bel.size;have Ro:=b5.size;go_wp2_with fail;refine(ph y.length (q1.on b5) Ra (by rw[aG];omega) QD).mono ?_;rintro e w1 ⟨rfl,r1,r2⟩;have W1:=(W4.trans (Wr.of b5 QD)).trans r2;have Q3:eY w1 N b (d5 b) (l0++hd):=by rw[QZ.out,<-aW];exact r1
  clear k1 k2 h4 QZ q1 q2 b5 r1 r2 W4 W3 W2 B3 b2 b3 Rn Ro hA;go_wp2;go_loopw [7,24] (λ_ jv wr=>∃j:Nat,jv=aa j/\j<=l.length/\eY wr N b (d5 b) (l0++hd++(l.take j).flatMap bd)/\Wr N w wr) (λ_ jv _=>l.length-(intOf jv).toNat)
  case atStart=>exact⟨0,rfl,aM _,by simpa using Q3,W1⟩
  case round=>
   obtain⟨j,rfl,hj,QR,Wj⟩:=hrel;have hsz:=Wj.bel.size
   by_cases hlt:j<l.length
   ·obtain⟨x,hx⟩:=gx hlt;obtain⟨mv,p1,p2,p3,p4,p5⟩:=Rg.get hx;obtain⟨ma,mc,rfl⟩:=p1.form;obtain⟨gv,rfl,QU,Rh,QP⟩:=Rf.at QD;have QQ:=Wj.bel.block _ (hZ _ QU);have t0:=QP wr QQ _ _ p2;have t1:=lf (QP wr QQ _ _ p3);have t2:=lf (QP wr QQ _ _ p4);have t3:=lf (QP wr QQ _ _ p5);have Rj:(j:Int)<(l.length:Int):=QD;obtain⟨B1,K1⟩:=dR wr #[.int .u64 x.1,ae x.2.1,.slice ma x.2.2.fs.length mc,ae x.2.2.unk] 55;have W2:=Wj.trans (Wr.of B1 QD);have Q0:=QR.on B1;have hA:=HA.out (j+1);rw[fD hx,HB.out]at hA
    have HL:Hid (l0++hd++(l.take (j+1)).flatMap bd=l0++hd++(l.take j).flatMap bd++tg++bv x):=by
     show l0++hd++(l.take (j+1)).flatMap bd=_;rw[fD hx,HB.out];simp only[aW]
    have Rk:(l0++hd++(l.take j).flatMap bd).length+tg.length+(bv x).length<=140737488355328:=by
     simp only[aG]at hA⊢;omega
    have QT:=aI hx;generalize l0++hd++(l.take j).flatMap bd=lj at*;clear QP p2 p3 p4 p5 hx hA QQ;have Rl:=W2.bel.size;have P2:=HP.out _ W2.bel;go_wp2_with fail;generalize wr.alloc (ak #[.int .u64 x.1,ae x.2.1,.slice ma x.2.2.fs.length mc,ae x.2.2.unk] 55)=w2 at*;refine P2.mono ?_;rintro e wc ⟨rfl,b3⟩;have Q4:eY wc N b (d5 b) (lj++tg):=by rw[Rm.out,bK];exact Q0.on b3
    have Wc:=W2.trans (Wr.of b3 QD);have Kc:=K1.below b3 K1.lt;have h3:dK wc fb _ _:=(Wc.bel.block fb QD).trans h1;have Q1:=HX.out wc.drew x _ (lj++tg) Wc.bel.drew QT p1 (Q4.on (Below.refl wc.heap.size wc).drew) (by rw[aG];omega);unfold fF at Q1;go_upto_region 8 with fail
    generalize wr.heap.size=vb at*
    have hC:wc.drew.cell? (ai fb 2)=some (aa gb)/\wc.drew.cell? (ai fb 3)=some (.pointer pq)/\wc.drew.cell? (ai vb 0)=some (.int .u64 x.1)/\wc.drew.cell? (ai vb 1)=some (ae x.2.1)/\wc.drew.cell? (ai vb 2)=some (.slice ma x.2.2.fs.length mc)/\wc.drew.cell? (ai vb 3)=some (ae x.2.2.unk):=
     ⟨h3.drew.cell 2,h3.drew.cell 3,Kc.drew.cell 0,Kc.drew.cell 1,Kc.drew.cell 2,Kc.drew.cell 3⟩
    go_region_held2 (λW=>W.cell? (ai fb 2)=some (aa gb)/\W.cell? (ai fb 3)=some (.pointer pq)/\W.cell? (ai vb 0)=some (.int .u64 x.1)/\W.cell? (ai vb 1)=some (ae x.2.1)/\W.cell? (ai vb 2)=some (.slice ma x.2.2.fs.length mc)/\W.cell? (ai vb 3)=some (ae x.2.2.unk))
     (first|exact hC|exact⟨h4.cell 2,h4.cell 3,K4.cell 0,K4.cell 1,K4.cell 2,K4.cell 3⟩)
     (first
      |(
        go_at_call 234;refine Q1.mono ?_;rintro e w4 ⟨rfl,q1,q3⟩;have W4:Wr N w w4:=⟨Wc.bel.drew.trans q3.bel,λi cs T h1 h2 h=>q3.fr i cs T h1 h2 (Wc.fr i cs T h1 h2 h)⟩;have h4:dK w4 fb _ _:=(W4.bel.block fb QD).trans h1
        have K4:=q3.fr _ _ _ QG QG Kc))
    go_wp2;go_roundw
    case rel=>exact⟨j+1,by go_num,QD,by rw[HL.out];exact q1,W4⟩
    case measure=>simp[intOf];omega
   ·obtain rfl:j=l.length:=QD;rw[bg]at QR;go_wp2;go_end0;exact⟨rfl,by rw[aW]at QR;exact QR,Wj⟩
theorem FD (hN:Cf S):∀n,MS S mp B n:=by
 intro n
 induction n with
 |zero=>
  intro w Z v m d mb gs nm k N b l cx hm hG Ri hM hZ QV QY hO hs
  cases hs
 |succ n ih=>
  intro w Z v m d mb gs nm k N b l cx hm hG Ri hM hZ QV QY hO hs hW hl
  cases k with
  |zero=>exact hM.elim
  |succ k=>
  obtain⟨cs,hr,Rs⟩:=hM;obtain⟨a,c,rfl⟩:=hr.form;obtain⟨ho1,ho2,Rt⟩:=hO;rw[dN,aJ]at hs;have hX:=λx hx=>vV (x:=x) hs.1 hx
  obtain⟨B0,K1⟩:=dR w #[.slice a m.fs.length c,ae m.unk] 49;have W0:=Wr.of B0 QY;have Rp:=hW.on B0;rw[d9]at hl⊢;rw[aG]at hl
  have HC:Hid (∀(W:an) (x:PF) (f:eP) (g:GF) (fb:Nat) (v:Value) (l2:List UInt8),Below N w W->x∈m.fs->dP d.fs x.1=some f->FG S mp d f g->eG W (λb=>b<B) mp g fb->pi (iy k w Z) w Z v x.2->eY W N b (d5 b) l2->l2.length+(jy S (d9 S n) d x).length<=140737488355328->Calls prog 152 #[ag fb,v,d5 b] W (ix N b l2 (jy S (d9 S n) d x) W)):=λW x f g fb v l2 QS hx QW fg Q8 hv hw QX=>by
   obtain⟨f',q1,q2⟩:=hX x hx;obtain rfl:f=f':=by rw[QW]at q1;exact Option.some.inj q1
   have hb:jy S (d9 S n) d x=jM S (d9 S n) f x.2:=by unfold jy;rw[QW]
   rw[hb]at QX⊢;exact La ih hN W Z v x.2 d f g fb k N b l2 (cx.on (dQ QS QV)) Q8 fg (Ri _ _ QW) (hv.under QS hZ) hZ QV (by have:=QS.size;omega) (Rt x hx) (λv hv=>vW q2 hv) hw QX
  have HT:Hid (∀i,l.length+((m.fs.take i).flatMap (jy S (d9 S n) d)).length+m.unk.data.toList.length<=140737488355328):=λi=>by
   have:=io (g:=jy S (d9 S n) d) (l:=m.fs) i;show _<=_;omega
  generalize jy S (d9 S n) d=bx at*;clear hl hs;obtain⟨k1,k2⟩:=K1.rules;go_enter func97,ntmps97;go_wp2;generalize w.alloc (ak #[.slice a m.fs.length c,ae m.unk] 49)=w1 at*;go_loopw [7,11] (λ_ iv wr=>∃i:Nat,iv=aa i/\i<=m.fs.length/\eY wr N b (d5 b) (l++(m.fs.take i).flatMap bx)/\Wr N w1 wr) (λ_ iv _=>m.fs.length-(intOf iv).toNat)
  case atStart=>exact⟨0,rfl,aM _,by simpa using Rp,Wr.refl _ _⟩
  case round=>
   obtain⟨i,rfl,hi,QR,Wi⟩:=hrel;clear k1 k2;have WI:=W0.trans Wi;have hsz:=WI.bel.size
   by_cases hlt:i<m.fs.length
   ·obtain⟨x,hx⟩:=gx hlt;obtain⟨vv,p1,p2,p3⟩:=Rs.get hx;obtain⟨va,vc,rfl⟩:=p1.form;obtain⟨g0,rfl,Q9,Rh,QP⟩:=hr.at QD;have QQ:=WI.bel.block _ (hZ _ Q9);have t0:=QP wr QQ _ _ p2;have t1:=lf (QP wr QQ _ _ p3);obtain⟨B1,K5⟩:=dR wr #[aa x.1,.slice va x.2.length vc] 58;have Q5:=Wi.trans (Wr.of B1 QD);have Rb:=W0.trans Q5;have Q0:=QR.on B1.drew;obtain⟨f,QW,_⟩:=hX x (aI hx);obtain⟨g,hg,fg⟩:=hG.yes _ _ QW;have HF:=pJ _ (λb=>b<B) mp mb nm gs x.1 (hm.keep λb q _=>Rb.bel.drew.block b QD) hG.srt hG.len;rw[hg]at HF;have hT:=HT.out (i+1);rw[fD hx,aG]at hT;have Rq:(l++(m.fs.take i).flatMap bx).length+(bx x).length<=140737488355328:=by rw[aG];omega
    have HZ:=λfb q=>HC.out _ x f g fb _ _ Rb.bel.drew (aI hx) QW fg q p1 Q0 Rq
    have HS:Hid (l++(m.fs.take (i+1)).flatMap bx=l++(m.fs.take i).flatMap bx++bx x):=by
     show l++(m.fs.take (i+1)).flatMap bx=_;rw[fD hx,aW]
    generalize l++(m.fs.take i).flatMap bx=li at*;have hij:(i:Int)<(m.fs.length:Int):=QD;clear QP p2 p3 hx hg QW hT QQ;go_upto_region 4 with fail
    generalize wr.alloc (ak #[aa x.1,.slice va x.2.length vc] 58)=w2 at*;generalize wr.heap.size=vb at*;have hC:w2.drew.cell? (ai vb 0)=some (aa x.1)/\w2.drew.cell? (ai vb 1)=some (.slice va x.2.length vc):=⟨K5.drew.cell 0,K5.drew.cell 1⟩
    go_region_held2 (λW=>W.cell? (ai vb 0)=some (aa x.1)/\W.cell? (ai vb 1)=some (.slice va x.2.length vc))
     (first|exact hC|exact⟨Rc.cell 0,Rc.cell 1⟩)
     (first
      |(
        go_at_call 153;refine HF.mono ?_
        rintro e w3 ⟨⟨fb,rfl,Q8⟩,rfl⟩)
      |(
        go_at_call 152;refine(HZ _ Q8).mono ?_;rintro e w3 ⟨rfl,q1,q2⟩;have Rc:=q2.fr _ _ _ QG QG K5.drew
        have Rr:Wr N w1 w3:=⟨Q5.bel.drew.trans q2.bel,λi cs T h1 h2 h=>q2.fr i cs T h1 h2 (Q5.fr i cs T h1 h2 h)⟩))
    go_wp2;go_roundw
    case rel=>exact⟨i+1,by go_num,QD,by rw[HS.out];exact q1,Rr⟩
    case measure=>simp[intOf];omega
   ·obtain rfl:i=m.fs.length:=QD;have hT:=HT.out m.fs.length;rw[bg]at QR hT;have K2:=Wi.fr _ _ _ QG QG K1;obtain⟨k3,k4⟩:=K2.rules;have HR:=sM m.unk QR (by rw[aG];omega) QD;go_wp2_with fail;refine HR.mono ?_;rintro e w3 ⟨rfl,q1,q2⟩;go_wp2;go_end0;exact⟨rfl,by rw[aW]at q1;exact q1,WI.trans q2⟩
end
section
attribute [local go_sem↓] Go.wp_at_zero Go.wp_at_succ
def Lb (c:PV->List UInt8)(p:PV->Bool)(N f:Nat)(cap:aq)(W:an):Prop:=
 ∀(W':an) (Z:ap) (x:PV) (mv:Value) (k b:Nat) (l0:List UInt8),Below N W W'->iy k W' Z mv x.2.2->(∀i,Z i->i<N)->nR k x.2.2->0<=x.1->x.1<18446744073709551616->p x=true->eY W' N b (d5 b) l0->l0.length+(c x).length<=140737488355328->
  Calls prog f (fF x mv::d5 b::cap).toArray W' (ix N b l0 (c x) W')
def OU (c:List PV->List UInt8)(p:PV->Bool)(N f:Nat)(cap:aq)(W:an):Prop:=
 ∀(W':an) (Z:ap) (vv:Value) (l:List PV) (k b:Nat) (l0:List UInt8),Below N W W'->pi (iy k W' Z) W' Z vv l->(∀i,Z i->i<N)->LU k l->(∀x∈l,p x=true)->eY W' N b (d5 b) l0->l0.length+(c l).length<=140737488355328->
  Calls prog f (vv::d5 b::cap).toArray W' (ix N b l0 (c l) W')
def MU (S:d8)(iq:aw)(n:Nat)(t:MT)(N:Nat)(W:an):Prop:=
 ∀(W':an) (Z:ap) (v:Value) (m:PM) (k b:Nat) (l0:List UInt8),Below N W W'->iy k W' Z v m->(∀i,Z i->i<N)->nR k m->dN S n t m=true->eY W' N b (d5 b) l0->l0.length+(d9 S n t m).length<=140737488355328->
  Calls prog 99 #[.pointer iq,.agg #[v,ae m.unk],d5 b] W' (ix N b l0 (d9 S n t m) W')
section
variable {S:d8} {fl:eP} {n N:Nat} {W:an}
def Pm (ib:Nat)(iq:aw)(t:MT)(hN:N<=W.heap.size)(hb:dK W ib #[.pointer iq] 116)(hi:ib<N)(H:DB S iq n t N W)(H2:MU S iq n t N W)(h16:fB S fl=16)(hsub:eR S fl=some t):
  Lb (fP S (d9 S n) fl) (ek S (dN S n) fl) N 371 [ag ib] W:=by
 intro W' Z x mv k b l0 B hm hZ hO h0 h1 hp hW hl;show Calls prog 371 #[fF x mv,d5 b,ag ib] W' _;rw[ED h16 hsub]at hl⊢;have hR:=sO hp h16 hsub;unfold eX at hl;rw[aG]at hl;obtain⟨ma,mc,rfl⟩:=hm.form;obtain⟨B1,K1⟩:=dR W' #[.int .u64 x.1,ae x.2.1,.slice ma x.2.2.fs.length mc,ae x.2.2.unk] 55;have QQ:=aH hN B.size;have B2:=vY B B1 hN;have QW:=hb.below B2 hi;have HC:=H _ Z _ x.2.2 k B2 (hm.below B1 (ay _)) hO hR QD
 have HW:Hid (∀(W2:an) (l2:List UInt8),Below N W' W2->eY W2 N b (d5 b) l2->l2.length+(d9 S n t x.2.2).length<=140737488355328->Calls prog 99 #[.pointer iq,.agg #[.slice ma x.2.2.fs.length mc,ae x.2.2.unk],d5 b] W2 (ix N b l2 (d9 S n t x.2.2) W2)):=λW2 l2 h3 hw QS=>
  H2 W2 Z _ x.2.2 k b l2 (B.trans h3) (hm.under h3 hZ) hZ hO hR hw QS
 have Q5:=hW.on B1;unfold fF;generalize d9 S n t x.2.2=y at*;obtain⟨k1,k2⟩:=K1.rules;obtain⟨k3,k4⟩:=QW.rules;clear hR;go_enter func371,ntmps371;go_wp2_with fail;generalize W'.alloc (ak #[.int .u64 x.1,ae x.2.1,.slice ma x.2.2.fs.length mc,ae x.2.2.unk] 55)=w1 at*;refine HC.mono ?_;rintro e w2 ⟨rfl,b2⟩;have B3:=dG B1 b2;have Q3:=B3.size;go_wp2_with fail;refine(ph y.length (Q5.on b2) QD QD QD).mono ?_;rintro e w3 ⟨rfl,q1,q2⟩;have Q6:=q2.fr _ _ _ QG QG (K1.below b2 K1.lt);have Q7:=q2.fr _ _ _ QG QG (QW.below b2 QW.lt);have Q:=(Wr.of B3 QQ).trans q2;clear k1 k2 k3 k4;obtain⟨k1,k2⟩:=Q6.rules;obtain⟨k3,k4⟩:=Q7.rules;go_wp2_with fail;refine(HW.out w3 _ Q.bel q1 (by rw[aG];omega)).mono ?_;rintro e w4 ⟨rfl,r1,r2⟩;go_wp2;go_end0;exact⟨rfl,by rw[aW]at r1;exact r1,Q.trans r2⟩
def Pn (hN:N<=W.heap.size)(hk:fB S fl=13\/fB S fl=14):Lb (fP S (d9 S n) fl) (ek S (dN S n) fl) N 372 [] W:=by
 intro W' Z x mv k b l0 B hm hZ hO h0 h1 hp hW hl;show Calls prog 372 #[fF x mv,d5 b] W' _;have hb:fP S (d9 S n) fl x=eX x.2.1.data.toList:=by unfold fP;rw[dA QD,dB hk]
 rw[hb]at hl⊢;obtain⟨ma,mc,rfl⟩:=hm.form;obtain⟨B1,K1⟩:=dR W' #[.int .u64 x.1,ae x.2.1,.slice ma x.2.2.fs.length mc,ae x.2.2.unk] 55;have QQ:=aH hN B.size;have HE:=Ex _ (hW.on B1) hl (aH QQ B1.size);unfold fF;obtain⟨k1,k2⟩:=K1.rules;go_enter func372,ntmps372;go_wp2_with fail;refine HE.mono ?_;rintro e w2 ⟨rfl,q1,q2⟩;go_wp2;go_end0;exact⟨rfl,q1,(Wr.of B1 QQ).trans q2⟩
def Po (hN:N<=W.heap.size)(hk:fB S fl=4\/fB S fl=5):Lb (fP S (d9 S n) fl) (ek S (dN S n) fl) N 373 [] W:=by
 intro W' Z x mv k b l0 B hm hZ hO h0 h1 hp hW hl;show Calls prog 373 #[fF x mv,d5 b] W' _;have hb:fP S (d9 S n) fl x=vi (zZ x.1):=by unfold fP;rw[dA QD,dA QD,dA QD,dA QD,dB hk]
 rw[hb]at hl⊢;obtain⟨Re,Rf⟩:=uB h0 h1;obtain⟨ma,mc,rfl⟩:=hm.form;obtain⟨B1,K1⟩:=dR W' #[.int .u64 x.1,ae x.2.1,.slice ma x.2.2.fs.length mc,ae x.2.2.unk] 55;have QQ:=aH hN B.size;have HZ:=λW=>rH W x.1 h0 h1
 have HE:=nH _ (hW.on B1) Re Rf hl (aH QQ B1.size);unfold fF;obtain⟨k1,k2⟩:=K1.rules;go_enter func373,ntmps373;go_wp2_with fail;refine(HZ _).mono ?_;rintro e w2 ⟨rfl,rfl⟩;go_wp2_with fail;refine HE.mono ?_;rintro e w2 ⟨rfl,q1,q2⟩;go_wp2;go_end0;exact⟨rfl,q1,(Wr.of B1 QQ).trans q2⟩
def Pp (hN:N<=W.heap.size)(hk:fB S fl=7\/fB S fl=9\/fB S fl=11):Lb (fP S (d9 S n) fl) (ek S (dN S n) fl) N 374 [] W:=by
 intro W' Z x mv k b l0 B hm hZ hO h0 h1 hp hW hl;show Calls prog 374 #[fF x mv,d5 b] W' _;have hb:fP S (d9 S n) fl x=nP 4 x.1:=by unfold fP;rw[dA QD,dA QD,dB hk]
 rw[hb]at hl⊢;obtain⟨ma,mc,rfl⟩:=hm.form;obtain⟨B1,K1⟩:=dR W' #[.int .u64 x.1,ae x.2.1,.slice ma x.2.2.fs.length mc,ae x.2.2.unk] 55;have QQ:=aH hN B.size;have HE:=Ik _ (hW.on B1) h0 h1 hl (aH QQ B1.size);unfold fF;obtain⟨k1,k2⟩:=K1.rules;go_enter func374,ntmps374;go_wp2_with fail;refine HE.mono ?_;rintro e w2 ⟨rfl,q1,q2⟩;go_wp2;go_end0;exact⟨rfl,q1,(Wr.of B1 QQ).trans q2⟩
def Pq (hN:N<=W.heap.size)(hk:fB S fl=8\/fB S fl=10\/fB S fl=12):Lb (fP S (d9 S n) fl) (ek S (dN S n) fl) N 375 [] W:=by
 intro W' Z x mv k b l0 B hm hZ hO h0 h1 hp hW hl;show Calls prog 375 #[fF x mv,d5 b] W' _;have hb:fP S (d9 S n) fl x=nP 8 x.1:=by unfold fP;rw[dA QD,dA QD,dA QD,dB hk]
 rw[hb]at hl⊢;obtain⟨ma,mc,rfl⟩:=hm.form;obtain⟨B1,K1⟩:=dR W' #[.int .u64 x.1,ae x.2.1,.slice ma x.2.2.fs.length mc,ae x.2.2.unk] 55;have QQ:=aH hN B.size;have HE:=Ew _ (hW.on B1) h0 h1 hl (aH QQ B1.size);unfold fF;obtain⟨k1,k2⟩:=K1.rules;go_enter func375,ntmps375;go_wp2_with fail;refine HE.mono ?_;rintro e w2 ⟨rfl,q1,q2⟩;go_wp2;go_end0;exact⟨rfl,q1,(Wr.of B1 QQ).trans q2⟩
def Pr (hN:N<=W.heap.size)(hk:fB S fl<4\/fB S fl=6\/fB S fl=15):Lb (fP S (d9 S n) fl) (ek S (dN S n) fl) N 376 [] W:=by
 intro W' Z x mv k b l0 B hm hZ hO h0 h1 hp hW hl;show Calls prog 376 #[fF x mv,d5 b] W' _;have hb:fP S (d9 S n) fl x=vi x.1:=by unfold fP;rw[dA QD,dA QD,dA QD,dA QD,dA QD]
 rw[hb]at hl⊢;obtain⟨ma,mc,rfl⟩:=hm.form;obtain⟨B1,K1⟩:=dR W' #[.int .u64 x.1,ae x.2.1,.slice ma x.2.2.fs.length mc,ae x.2.2.unk] 55;have QQ:=aH hN B.size;have HE:=nH _ (hW.on B1) h0 h1 hl (aH QQ B1.size);unfold fF;obtain⟨k1,k2⟩:=K1.rules;go_enter func376,ntmps376;go_wp2_with fail;refine HE.mono ?_;rintro e w2 ⟨rfl,q1,q2⟩;go_wp2;go_end0;exact⟨rfl,q1,(Wr.of B1 QQ).trans q2⟩
end
section
variable {bv:PV->List UInt8} {p:PV->Bool} {N:Nat} {W:an}
def Lc (tb vb vf:Nat)(vcap:aq)(nu kd:Int)(hN:N<=W.heap.size)(ht:dK W tb #[aa nu,aa kd] 237)(hv0:dK W vb #[.func (.func vf) #[] vcap.toArray] 404)(hi:tb<N)(hj:vb<N)(hn:0<=nu/\nu<=536870911)(hkd:0<=kd/\kd<8)(hen:∀args w,(callFunc vf args).run prog w= .ok (.enter vf args) w)(H:Lb bv p N vf vcap W):
  OU (λl=>l.flatMap λv=>eW nu kd++bv v) p N 294 [ag tb,ag vb] W:=by
 intro W' Z vv l k b l0 B hv hZ hO hp hW hl;show Calls prog 294 #[vv,d5 b,ag tb,ag vb] W' (ix N b l0 (l.flatMap λv=>eW nu kd++bv v) W');obtain⟨a,c,rfl⟩:=hv.form;obtain⟨Rg,Q0,Q1⟩:=hv;have QQ:=aH hN B.size;have QX:=ht.below B hi;have QY:=hv0.below B hj;have Q8:=hO.1;obtain⟨bd,Q2⟩:∃bd:PV->List UInt8,bd=λx=>eW nu kd++bv x:=⟨_,rfl⟩
 have HB:Hid (∀x,bd x=eW nu kd++bv x):=λx=>by rw[Q2]
 change l0.length+(l.flatMap λv=>eW nu kd++bv v).length<=_ at hl;rw[<-Q2]at hl⊢
 have HA:Hid (∀j,l0.length+((l.take j).flatMap bd).length<=140737488355328):=λj=>by
  have:=io (g:=bd) (l:=l) j;show _<=_;omega
 have HE:Hid (∀(W2:an) (l2:List UInt8),eY W2 N b (d5 b) l2->l2.length+(eW nu kd).length<=140737488355328->N<=W2.heap.size->Calls prog 230 #[d5 b,.agg #[aa nu,aa kd]] W2 (ix N b l2 (eW nu kd) W2)):=λW2 l2 hw QS h2=>In nu kd hn.1 hn.2 hkd.1 hkd.2 hw QS h2
 have HX:Hid (∀(W2:an) (x:PV) (mv:Value) (l2:List UInt8),Below N W' W2->x∈l->iy k W' Z mv x.2.2->eY W2 N b (d5 b) l2->l2.length+(bv x).length<=140737488355328->Calls prog vf (fF x mv::d5 b::vcap).toArray W2 (ix N b l2 (bv x) W2)):=λW2 x mv l2 h2 hx hm hw QS=>
  H W2 Z x mv k b l2 (B.trans h2) (hm.under h2 hZ) hZ (hO.2 x hx).2.2.2 (hO.2 x hx).1 (hO.2 x hx).2.1 (hp x hx) hw QS
 generalize eW nu kd=tg at*;clear Q2 hl hp H hO hn hkd;go_enter func294,ntmps294;go_wp2;go_loopw [7,10] (λ_ jv wr=>∃j:Nat,jv=aa j/\j<=l.length/\eY wr N b (d5 b) (l0++(l.take j).flatMap bd)/\Wr N W' wr) (λ_ jv _=>l.length-(intOf jv).toNat)
 case atStart=>exact⟨0,rfl,aM _,by simpa using hW,Wr.refl _ _⟩
 case round=>
  obtain⟨j,rfl,hj,QT,Wj⟩:=hrel;have hsz:=Wj.bel.size
  by_cases hlt:j<l.length
  ·obtain⟨x,hx⟩:=gx hlt;obtain⟨mv,p1,p2,p3,p4,p5⟩:=Q1.get hx;obtain⟨ma,mc,rfl⟩:=p1.form;obtain⟨gv,rfl,QU,Rh,QP⟩:=Q0.at QD;have QR:=Wj.bel.block _ (hZ _ QU);have t0:=QP wr QR _ _ p2;have t1:=lf (QP wr QR _ _ p3);have t2:=lf (QP wr QR _ _ p4);have t3:=lf (QP wr QR _ _ p5);have Q9:(j:Int)<(l.length:Int):=QD;obtain⟨B1,K1⟩:=dR wr #[.int .u64 x.1,ae x.2.1,.slice ma x.2.2.fs.length mc,ae x.2.2.unk] 55;have W2:=Wj.trans (Wr.of B1 QD);have Ra:=QT.on B1;have hA:=HA.out (j+1);rw[fD hx,HB.out]at hA
   have HL:Hid (l0++(l.take (j+1)).flatMap bd=l0++(l.take j).flatMap bd++tg++bv x):=by
    show l0++(l.take (j+1)).flatMap bd=_;rw[fD hx,HB.out];simp only[aW]
   have Q4:(l0++(l.take j).flatMap bd).length+tg.length+(bv x).length<=140737488355328:=by
    simp only[aG]at hA⊢;omega
   have QZ:=aI hx;have Q3:=W2.bel.size;have Rb:=HE.out _ _ Ra QD QD;have T2:=W2.fr _ _ _ QG QG QX;generalize l0++(l.take j).flatMap bd=lj at*;obtain⟨k1,k2⟩:=T2.rules;clear QP p2 p3 p4 p5 hx hA QR;go_wp2_with fail;generalize wr.alloc (ak #[.int .u64 x.1,ae x.2.1,.slice ma x.2.2.fs.length mc,ae x.2.2.unk] 55)=w2 at*;refine Rb.mono ?_;rintro e w3 ⟨rfl,q1,q2⟩;have W3:=W2.trans q2;have K3:=q2.fr _ _ _ QG QG K1;have V3:=W3.fr _ _ _ QG QG QY;have QV:=HX.out w3 x _ _ W3.bel QZ p1 q1 (by rw[aG];omega);unfold fF at QV;clear k1 k2;obtain⟨k1,k2⟩:=K3.rules;obtain⟨k3,k4⟩:=V3.rules;go_wp2_with fail;refine QV.mono ?_;rintro e w4 ⟨rfl,r1,r2⟩;go_wp2;go_roundw
   case rel=>exact⟨j+1,by go_num,QD,by rw[HL.out];exact r1,W3.trans r2⟩
   case measure=>simp[intOf];omega
  ·obtain rfl:j=l.length:=QD;rw[bg]at QT;go_wp2;go_end0;exact⟨rfl,QT,Wj⟩
def Ix (tb ab af vb vf:Nat)(acap vcap:aq)(nu kd:Int)(hN:N<=W.heap.size)(ht:dK W tb #[aa nu,aa kd] 237)(ha0:dK W ab #[.func (.func af) #[] acap.toArray] 262)(hv0:dK W vb #[.func (.func vf) #[] vcap.toArray] 404)(hi:tb<N)(hi2:ab<N)(hj:vb<N)(hn:0<=nu/\nu<=536870911)(hkd:0<=kd/\kd<8)
  (hen:∀args w,(callFunc vf args).run prog w= .ok (.enter vf args) w) (hea:∀args w,(callFunc af args).run prog w= .ok (.enter af args) w) (H:Lb bv p N vf vcap W) (HA0:KL (λl=>l.flatMap bv) p N af acap W):
  OU (λl=>eW nu kd++eX (l.flatMap bv)) p N 370 [ag tb,ag ab,ag vb] W:=by
 intro W' Z vv l k b l0 B hv hZ hO hp hW hl;show Calls prog 370 #[vv,d5 b,ag tb,ag ab,ag vb] W' (ix N b l0 (eW nu kd++eX (l.flatMap bv)) W');change l0.length+(eW nu kd++eX (l.flatMap bv)).length<=_ at hl;obtain⟨a,c,rfl⟩:=hv.form;have QQ:=aH hN B.size;have QX:=ht.below B hi;have Rc:=ha0.below B hi2;have QY:=hv0.below B hj;have Q8:=hO.1;unfold eX at hl⊢;simp only[aG]at hl;have HA:Hid (∀j,((l.take j).flatMap bv).length<=(l.flatMap bv).length):=λj=>io (g:=bv) (l:=l) j
 have HE:=In nu kd hn.1 hn.2 hkd.1 hkd.2 hW QD QQ
 have HM:Hid (∀W2,Below N W' W2->Calls prog af (.slice a l.length c::acap).toArray W2 (gK (l.flatMap bv) W2)):=λW2 h2=>
  HA0 W2 Z _ l k (B.trans h2) (hv.under h2 hZ) hO hp (show(l.flatMap bv).length<=_ by omega)
 have HX:Hid (∀(W2:an) (x:PV) (mv:Value) (l2:List UInt8),Below N W' W2->x∈l->iy k W' Z mv x.2.2->eY W2 N b (d5 b) l2->l2.length+(bv x).length<=140737488355328->Calls prog vf (fF x mv::d5 b::vcap).toArray W2 (ix N b l2 (bv x) W2)):=λW2 x mv l2 h2 hx hm hw QS=>
  H W2 Z x mv k b l2 (B.trans h2) (hm.under h2 hZ) hZ (hO.2 x hx).2.2.2 (hO.2 x hx).1 (hO.2 x hx).2.1 (hp x hx) hw QS
 obtain⟨Rg,Q0,Q1⟩:=hv;obtain⟨y,HY⟩:∃y,Hid (l.flatMap bv=y):=⟨_,rfl⟩;rw[HY.out]at hl HA HM⊢;generalize eW nu kd=tg at*;clear hp H HA0 hO hn hkd;obtain⟨k1,k2⟩:=QX.rules;go_enter func370,ntmps370;go_wp2_with fail;refine HE.mono ?_;rintro e w1 ⟨rfl,q1,W1⟩;have A1:=W1.fr _ _ _ QG QG Rc;clear k1 k2;obtain⟨k1,k2⟩:=A1.rules;go_wp2_with fail;refine(HM.out w1 W1.bel).mono ?_;rintro e w2 ⟨rfl,b2⟩;have hs1:=W1.bel.size;have Q3:=b2.size;go_wp2_with fail;refine(ph y.length (q1.on b2) QD (by rw[aG];omega) QD).mono ?_;rintro e w3 ⟨rfl,r1,r2⟩;have W3:=(W1.trans (Wr.of b2 QD)).trans r2
 have hlen:(l0++tg++vi (y.length)).length+y.length<=140737488355328:=by
  simp only[aG];omega
 have HF:Hid (l0++(tg++(vi (y.length)++y))=l0++tg++vi (y.length)++y):=by
  show l0++(tg++(vi (y.length)++y))=_;simp only[aW]
 generalize l0++tg++vi (y.length)=lh at*;clear k1 k2 A1 q1 r2 W1 HE b2;go_wp2;go_loopw [8,19] (λ_ jv wr=>∃j:Nat,jv=aa j/\j<=l.length/\eY wr N b (d5 b) (lh++(l.take j).flatMap bv)/\Wr N W' wr) (λ_ jv _=>l.length-(intOf jv).toNat)
 case atStart=>exact⟨0,rfl,aM _,by simpa using r1,W3⟩
 case round=>
  obtain⟨j,rfl,hj,QT,Wj⟩:=hrel;have hsz:=Wj.bel.size
  by_cases hlt:j<l.length
  ·obtain⟨x,hx⟩:=gx hlt;obtain⟨mv,p1,p2,p3,p4,p5⟩:=Q1.get hx;obtain⟨ma,mc,rfl⟩:=p1.form;obtain⟨gv,rfl,QU,Rh,QP⟩:=Q0.at QD;have QR:=Wj.bel.block _ (hZ _ QU);have t0:=QP wr QR _ _ p2;have t1:=lf (QP wr QR _ _ p3);have t2:=lf (QP wr QR _ _ p4);have t3:=lf (QP wr QR _ _ p5);have Q9:(j:Int)<(l.length:Int):=QD;obtain⟨B1,K1⟩:=dR wr #[.int .u64 x.1,ae x.2.1,.slice ma x.2.2.fs.length mc,ae x.2.2.unk] 55;have W2:=Wj.trans (Wr.of B1 QD);have hA:=HA.out (j+1);rw[fD hx,aG]at hA
   have HL:Hid (lh++(l.take (j+1)).flatMap bv=lh++(l.take j).flatMap bv++bv x):=by
    show lh++(l.take (j+1)).flatMap bv=_;rw[fD hx,aW]
   have Q4:(lh++(l.take j).flatMap bv).length+(bv x).length<=140737488355328:=by
    rw[aG];omega
   have QV:=HX.out _ x _ _ W2.bel (aI hx) p1 (QT.on B1) Q4;unfold fF at QV;have V2:=W2.fr _ _ _ QG QG QY;generalize lh++(l.take j).flatMap bv=lj at*;obtain⟨k1,k2⟩:=K1.rules;obtain⟨k3,k4⟩:=V2.rules;clear QP p2 p3 p4 p5 hx hA QR;go_wp2_with fail;refine QV.mono ?_;rintro e w4 ⟨rfl,s1,s2⟩;go_wp2;go_roundw
   case rel=>exact⟨j+1,by go_num,QD,by rw[HL.out];exact s1,W2.trans s2⟩
   case measure=>simp[intOf];omega
  ·obtain rfl:j=l.length:=QD;rw[bg,HY.out]at QT;go_wp2;go_end0;exact⟨rfl,by rw[HF.out];exact QT,Wj⟩
end
def tI (w:an)(Q:ap)(b:Nat)(iq:aw)(v:Value):Prop:=
 ∃f cap,It v f cap/\∀(S:d8) (fl:eP) (n N:Nat) (W:an),Kp Q w W->(∀b,Q b->b<w.heap.size->b<N)->N<=W.heap.size->fB S fl=b->(fB S fl=16->∃t,eR S fl=some t/\DB S iq n t N W/\MU S iq n t N W)->Lb (fP S (d9 S n) fl) (ek S (dN S n) fl) N f cap W
def Ch (w:an)(Q:ap)(mp:am->Option Nat)(g:GF)(iq:aw)(v:Value):Prop:=
 ∃f cap,It v f cap/\∀(S:d8) (d:MT) (fl:eP) (n N:Nat) (W:an),Kp Q w W->(∀b,Q b->b<w.heap.size->b<N)->N<=W.heap.size->FG S mp d fl g->(0<=fl.num/\fl.num<=536870911)->(fB S fl=16->∃t,eR S fl=some t/\DB S iq n t N W/\MU S iq n t N W)->OU (jM S (d9 S n) fl) (ek S (dN S n) fl) N f cap W
section
variable {w w':an} {Q Q':ap} {mp:am->Option Nat} {g:GF} {iq:aw} {v:Value} (hk:Mv w Q w' Q')
include hk
def tI.move {b:Nat}(h:tI w Q b iq v):tI w' Q' b iq v:=by
 obtain⟨f,cap,h1,h2⟩:=h;exact⟨f,cap,h1,λS fl n N W q hN=>h2 S fl n N W (q.mv hk) λb x l=>hN b (hk b x l).1 (hk.lt x l)⟩
def Ch.move (h:Ch w Q mp g iq v):Ch w' Q' mp g iq v:=by
 obtain⟨f,cap,h1,h2⟩:=h;exact⟨f,cap,h1,λS d fl n N W q hN=>h2 S d fl n N W (q.mv hk) λb x l=>hN b (hk b x l).1 (hk.lt x l)⟩
end
end
def kY (form:Int):Nat:=if form=0 then 193 else if form=2 then 268 else 195
def jf (form:Int):Nat:=if form=2 then 190 else 191
def FE (v:Value):Prop:=∃f cap,v= .func (.func f) #[] cap
def MV (w:World)(Q:Nat->Prop)(mp:ByteArray->Option Nat)(g:GF)(v:Value):Prop:=
 ∃pb nb vb vv,v= .func (.func 422) #[] #[.pointer (some ⟨pb,0,none⟩),.pointer (some ⟨nb,0,none⟩),.pointer (some ⟨vb,0,none⟩)]/\dK w pb #[AH (kY g.form)] 480/\dK w nb #[.int .i64 g.f.num] 3/\dK w vb #[vv] 478/\mm w Q (iU mp g.f.ty) vv/\Q pb/\Q nb/\Q vb
def Ld (w:World)(Q:Nat->Prop)(mp:ByteArray->Option Nat)(g:GF)(v:Value):Prop:=
 ∃ab nb vb vv,v= .func (.func 421) #[] #[.pointer (some ⟨ab,0,none⟩),.pointer (some ⟨nb,0,none⟩),.pointer (some ⟨vb,0,none⟩)]/\dK w ab #[.int .i64 (ei (iU mp g.f.ty))] 235/\dK w nb #[.int .i64 g.f.num] 3/\dK w vb #[vv] 478/\mm w Q (iU mp g.f.ty) vv/\Q ab/\Q nb/\Q vb
def MW (w:World)(Q:Nat->Prop)(mp pm:ByteArray->Option Nat)(g:GF)(v:Value):Prop:=
 ∃ib lb pb nb p,v= .func (.func 419) #[] #[.pointer (some ⟨ib,0,none⟩),.pointer (some ⟨lb,0,none⟩),.pointer (some ⟨pb,0,none⟩),.pointer (some ⟨nb,0,none⟩)]/\dK w ib #[.pointer (some ⟨p,0,none⟩)] 116/\dK w lb #[.int .i64 (jF mp g)] 3/\dK w pb #[AH (jf g.form)] 477/\dK w nb #[.int .i64 g.f.num] 3/\pm g.f.ty=some p/\Q ib/\Q lb/\Q pb/\Q nb
def LX (w:World)(Q:Nat->Prop)(mp:ByteArray->Option Nat)(A:Nat->Prop)(g:GF)(v:Value):Prop:=
 ∃ib lb nb sb p,v= .func (.func 418) #[] #[.pointer (some ⟨ib,0,none⟩),.pointer (some ⟨lb,0,none⟩),.pointer (some ⟨nb,0,none⟩),.pointer (some ⟨sb,0,none⟩)]/\dK w ib #[.pointer (some ⟨p,0,none⟩)] 116/\dK w lb #[.int .i64 (jF mp g)] 3/\dK w nb #[.int .i64 g.f.num] 3/\dK w sb #[.bool (jD (iU mp g.f.key))] 4/\A p/\Q ib/\Q lb/\Q nb/\Q sb
def AK (w:World)(Q:Nat->Prop)(mp pm:ByteArray->Option Nat)(g:GF)(v:Value):Prop:=
 if iU mp g.f.ty=16 then MW w Q mp pm g v else if gN mp g=true then Ld w Q mp g v else MV w Q mp g v
def uC (w:World)(Q:Nat->Prop)(R:GF->Value->Prop)(g:GF)(v:Value):Prop:=
 if g.riv= []then R g v else∃vb rb rv u,v= .func (.func 296) #[] #[.pointer (some ⟨vb,0,none⟩),.pointer (some ⟨rb,0,none⟩)]/\dK w vb #[rv] 35/\et w Q 3 1 rv g.riv.length (fV g.riv)/\dK w rb #[u] 266/\Q vb/\Q rb/\R g u
def Js (mp pm:ByteArray->Option Nat)(g:GF)(iv:Value):Prop:=if iU mp g.f.ty=16 then∃p,iv= .pointer (some ⟨p,0,none⟩)/\pm g.f.ty=some p else iv= .pointer none
structure mq (w:World)(Q:Nat->Prop)(mp:ByteArray->Option Nat)(R L:GF->Value->Prop)(g:GF)(x:qM):Prop where
 n:x.n=g.f.num
 kind:x.c1= .int .i64 (ei (ee mp g))
 packs:x.c2= .bool (gN mp g)
 riv:et w Q 3 1 x.c3 g.riv.length (fV g.riv)
 enc:∃iq,L g (.pointer iq)/\FB w Q mp g iq x.c4/\DC w Q mp g iq x.c5/\Ch w Q mp g iq x.c6
 read:uC w Q R g x.c7
def ia (w:World)(Q:Nat->Prop)(mp:ByteArray->Option Nat)(R L:GF->Value->Prop):List GF->List qM->Prop
 | [],l=>l= []
 |g::gs,l=>∃x r,l=x::r/\mq w Q mp R L g x/\ia w Q mp R L gs r
def qv (w:World)(Q:Nat->Prop)(mp:ByteArray->Option Nat)(R L:GF->Value->Prop)(gs:List GF)(pb:Nat):Prop:=
 ∃v l,dK w pb #[v] 254/\Q pb/\et w Q 268 8 v l.length (l.flatMap iD)/\ia w Q mp R L gs l
def kZ (w:World)(Q:Nat->Prop)(mp pm:ByteArray->Option Nat)(g:GF)(v:Value):Prop:=
 if g.form=4 then LX w Q mp (qv w Q mp (AK w Q mp pm) (Js mp pm) [kz mQ g.f.key 1,kz oD g.f.ty 2]) g v else AK w Q mp pm g v
def iA (w:World)(Q:Nat->Prop)(mp pm:ByteArray->Option Nat)(g:GF)(iv:Value):Prop:=
 if g.form=4 then∃p,iv= .pointer (some ⟨p,0,none⟩)/\qv w Q mp (AK w Q mp pm) (Js mp pm) [kz mQ g.f.key 1,kz oD g.f.ty 2] p
 else if iU mp g.f.ty=16 then∃p,iv= .pointer (some ⟨p,0,none⟩)/\pm g.f.ty=some p
 else iv= .pointer none
def ic (w:World)(Q:Nat->Prop)(mp pm:ByteArray->Option Nat)(gs:List GF)(pb:Nat):Prop:=qv w Q mp (kZ w Q mp pm) (iA w Q mp pm) gs pb
section
variable {w w':World} {Q Q':Nat->Prop} {mp pm pm':ByteArray->Option Nat} {R R' L L':GF->Value->Prop} {g:GF} {v:Value}
theorem et.move (hk:Mv w Q w' Q'){T:TypeId}{k n:Nat}{v:Value}{xs:List Value}(h:et w Q T k v n xs):et w' Q' T k v n xs:=
 ⟨d7 h.1 fun b hb=>(hk b (h.2 b hb) (h.1.lt b hb).2).2,fun b hb=>(hk b (h.2 b hb) (h.1.lt b hb).2).1⟩
theorem Mv.bx (hk:Mv w Q w' Q'){b:Nat}{cs:Array Value}{T:TypeId}(h:dK w b cs T)(q:Q b):dK w' b cs T:=(hk b q h.lt).2.trans h
theorem mj.move (hk:Mv w Q w' Q'){k:Nat}(h:mj w Q k v):mj w' Q' k v:=by
 rcases h with h|⟨t,nb,bb,h1,h2,h3,h4,h5,h6⟩
 ·exact .inl h
 ·exact .inr ⟨t,nb,bb,h1,h2,hk.bx h3 h5,hk.bx h4 h6,(hk _ h5 h3.lt).1,(hk _ h6 h4.lt).1⟩
theorem mm.move (hk:Mv w Q w' Q'){k:Nat}(h:mm w Q k v):mm w' Q' k v:=by
 rcases h with h|h|⟨h0,nb,nv,h1,h2,h3,h4⟩
 ·exact .inl h
 ·exact .inr (.inl h)
 ·exact .inr (.inr ⟨h0,nb,nv,h1,hk.bx h2 h3,(hk _ h3 h2.lt).1,h4.move hk⟩)
theorem MV.move (hk:Mv w Q w' Q')(h:MV w Q mp g v):MV w' Q' mp g v:=by
 obtain⟨pb,nb,vb,vv,h1,h2,h3,h4,h5,q1,q2,q3⟩:=h;exact⟨pb,nb,vb,vv,h1,hk.bx h2 q1,hk.bx h3 q2,hk.bx h4 q3,h5.move hk,(hk _ q1 h2.lt).1,(hk _ q2 h3.lt).1,(hk _ q3 h4.lt).1⟩
theorem Ld.move (hk:Mv w Q w' Q')(h:Ld w Q mp g v):Ld w' Q' mp g v:=by
 obtain⟨pb,nb,vb,vv,h1,h2,h3,h4,h5,q1,q2,q3⟩:=h;exact⟨pb,nb,vb,vv,h1,hk.bx h2 q1,hk.bx h3 q2,hk.bx h4 q3,h5.move hk,(hk _ q1 h2.lt).1,(hk _ q2 h3.lt).1,(hk _ q3 h4.lt).1⟩
theorem MW.move (hk:Mv w Q w' Q')(hp:∀t p,pm t=some p->pm' t=some p)(h:MW w Q mp pm g v):MW w' Q' mp pm' g v:=by
 obtain⟨ib,lb,pb,nb,p,h1,h2,h3,h4,h5,h6,q1,q2,q3,q4⟩:=h;exact⟨ib,lb,pb,nb,p,h1,hk.bx h2 q1,hk.bx h3 q2,hk.bx h4 q3,hk.bx h5 q4,hp _ _ h6,(hk _ q1 h2.lt).1,(hk _ q2 h3.lt).1,(hk _ q3 h4.lt).1,(hk _ q4 h5.lt).1⟩
theorem LX.move {A A':Nat->Prop}(hk:Mv w Q w' Q')(ha:∀p,A p->A' p)(h:LX w Q mp A g v):LX w' Q' mp A' g v:=by
 obtain⟨ib,lb,pb,nb,p,h1,h2,h3,h4,h5,h6,q1,q2,q3,q4⟩:=h;exact⟨ib,lb,pb,nb,p,h1,hk.bx h2 q1,hk.bx h3 q2,hk.bx h4 q3,hk.bx h5 q4,ha _ h6,(hk _ q1 h2.lt).1,(hk _ q2 h3.lt).1,(hk _ q3 h4.lt).1,(hk _ q4 h5.lt).1⟩
theorem AK.move (hk:Mv w Q w' Q')(hp:∀t p,pm t=some p->pm' t=some p)(h:AK w Q mp pm g v):AK w' Q' mp pm' g v:=by
 unfold AK at*
 split at h
 ·rename_i h0;rw[if_pos h0];exact MW.move hk hp h
 ·rename_i h0
  rw[if_neg h0]
  split at h
  ·rename_i h1;rw[if_pos h1];exact Ld.move hk h
  ·rename_i h1;rw[if_neg h1];exact MV.move hk h
theorem uC.move (hk:Mv w Q w' Q')(hR:∀v,R g v->R' g v)(h:uC w Q R g v):uC w' Q' R' g v:=by
 unfold uC at*
 split at h
 ·rename_i h0;rw[if_pos h0];exact hR v h
 ·rename_i h0
  rw[if_neg h0];obtain⟨vb,rb,rv,u,h1,h2,h3,h4,q1,q2,h5⟩:=h;exact⟨vb,rb,rv,u,h1,hk.bx h2 q1,h3.move hk,hk.bx h4 q2,(hk _ q1 h2.lt).1,(hk _ q2 h4.lt).1,hR u h5⟩
theorem Js.move (hp:∀t p,pm t=some p->pm' t=some p)(h:Js mp pm g v):Js mp pm' g v:=by
 unfold Js at*
 split at h
 ·rename_i h1
  rw[if_pos h1];obtain⟨p,h2,h3⟩:=h;exact⟨p,h2,hp _ _ h3⟩
 ·rename_i h1
  rw[if_neg h1];exact h
theorem mq.move (hk:Mv w Q w' Q')(hR:∀v,R g v->R' g v)(hL:∀v,L g v->L' g v){x:qM}(h:mq w Q mp R L g x):mq w' Q' mp R' L' g x:=
 ⟨h.n,h.kind,h.packs,h.riv.move hk,h.enc.imp fun _ q=>⟨hL _ q.1,q.2.1.move hk,q.2.2.1.move hk,q.2.2.2.move hk⟩,h.read.move hk hR⟩
theorem ia.move (hk:Mv w Q w' Q'):∀{gs:List GF} {l:List qM},(∀g∈gs,∀v,R g v->R' g v)->(∀g∈gs,∀v,L g v->L' g v)->ia w Q mp R L gs l->ia w' Q' mp R' L' gs l
 | [],_,_,_,h=>h
 |g::_,_,hR,hL,⟨x,r,h1,h2,h3⟩=>⟨x,r,h1,h2.move hk (hR g (by simp)) (hL g (by simp)),ia.move hk (fun g hg=>hR g (by simp[hg])) (fun g hg=>hL g (by simp[hg])) h3⟩
theorem qv.move (hk:Mv w Q w' Q'){gs:List GF}{pb:Nat}(hR:∀g∈gs,∀v,R g v->R' g v)(hL:∀g∈gs,∀v,L g v->L' g v)(h:qv w Q mp R L gs pb):qv w' Q' mp R' L' gs pb:=by
 obtain⟨v,l,h1,h2,h3,h4⟩:=h;exact⟨v,l,hk.bx h1 h2,(hk _ h2 h1.lt).1,h3.move hk,h4.move hk hR hL⟩
theorem kZ.move (hk:Mv w Q w' Q')(hp:∀t p,pm t=some p->pm' t=some p)(h:kZ w Q mp pm g v):kZ w' Q' mp pm' g v:=by
 unfold kZ at*
 split at h
 ·rename_i h0;rw[if_pos h0];exact LX.move hk (fun p hq=>hq.move hk (fun g _ v h=>h.move hk hp) fun g _ v h=>h.move hp) h
 ·rename_i h0;rw[if_neg h0];exact AK.move hk hp h
theorem iA.move (hk:Mv w Q w' Q')(hp:∀t p,pm t=some p->pm' t=some p)(h:iA w Q mp pm g v):iA w' Q' mp pm' g v:=by
 unfold iA at*
 split at h
 ·rename_i h0
  rw[if_pos h0];obtain⟨p,h1,h2⟩:=h;exact⟨p,h1,h2.move hk (fun _ _ _ q=>q.move hk hp) fun _ _ _ q=>q.move hp⟩
 ·rename_i h0
  rw[if_neg h0];exact Js.move hp h
theorem iA.lk (h4:g.form≠4):iA w Q mp pm g v<->Js mp pm g v:=by
 unfold iA;rw[if_neg h4];exact Iff.rfl
theorem ic.move (hk:Mv w Q w' Q')(hp:∀t p,pm t=some p->pm' t=some p){gs:List GF}{pb:Nat}(h:ic w Q mp pm gs pb):ic w' Q' mp pm' gs pb:=qv.move hk (fun _ _ _ h=>kZ.move hk hp h) (fun _ _ _ h=>iA.move hk hp h) h
theorem ic.keep (hk:∀b,Q b->b<w.heap.size->w'.heap[b]?=w.heap[b]?)(hp:∀t p,pm t=some p->pm' t=some p){gs:List GF}{pb:Nat}(h:ic w Q mp pm gs pb):ic w' Q mp pm' gs pb:=h.move (.keep hk) hp
theorem kZ.keep (hk:∀b,Q b->b<w.heap.size->w'.heap[b]?=w.heap[b]?)(hp:∀t p,pm t=some p->pm' t=some p)(h:kZ w Q mp pm g v):kZ w' Q mp pm' g v:=h.move (.keep hk) hp
theorem uC.keep (hk:∀b,Q b->b<w.heap.size->w'.heap[b]?=w.heap[b]?)(hR:∀v,R g v->R' g v)(h:uC w Q R g v):uC w' Q R' g v:=h.move (.keep hk) hR
theorem ia.len:∀{gs:List GF} {l:List qM},ia w Q mp R L gs l->l.length=gs.length
 | [],_,h=>by rw[show _= []from h];rfl
 |_::_,_,⟨b,r,h1,_,h3⟩=>by rw[h1];simp[h3.len]
theorem ia.snoc {g:GF}{x:qM}(h2:mq w Q mp R L g x):∀{gs:List GF} {l:List qM},ia w Q mp R L gs l->ia w Q mp R L (gs++ [g]) (l++ [x])
 | [],_,h=>by rw[show _= []from h];exact⟨x,[],rfl,h2,rfl⟩
 |_::_,_,⟨c,r,h1,h3,h4⟩=>by rw[h1];exact⟨c,r++ [x],rfl,h3,ia.snoc h2 h4⟩
theorem ia.get:∀{gs:List GF} {l:List qM},ia w Q mp R L gs l->∀{i:Nat} {x:qM},l[i]?=some x->∃g,gs[i]?=some g/\mq w Q mp R L g x
 | [],_,h,i,x,hx=>by rw[show _= []from h]at hx;simp at hx
 |g::_,_,⟨b,r,h1,h3,h4⟩,0,x,h=>by
  subst h1;simp at h;subst h;exact⟨g,rfl,h3⟩
 |_::_,_,⟨b,r,h1,h3,h4⟩,i+1,x,h=>by
  subst h1;obtain⟨c,q1,q2⟩:=h4.get (i:=i) (x:=x) (by simpa using h);exact⟨c,by simpa using q1,q2⟩
theorem ia.nums:∀{gs:List GF} {l:List qM},ia w Q mp R L gs l->l.map (·.n)=gs.map (·.f.num)
 | [],_,h=>by rw[show _= []from h];rfl
 |_::_,_,⟨b,r,h1,h2,h3⟩=>by rw[h1];simp[h3.nums,h2.n]
end
def mr (w:World)(Q:Nat->Prop)(S:d8)(mp pm:ByteArray->Option Nat):Prop:=∀t p,pm t=some p->∃d gs,S.msg t=some d/\ic w Q mp pm gs p/\kc S mp d gs
theorem mr.keep {w w':World}{Q:Nat->Prop}{S:d8}{mp pm:ByteArray->Option Nat}(h:mr w Q S mp pm)(hk:∀b,Q b->b<w.heap.size->w'.heap[b]?=w.heap[b]?):mr w' Q S mp pm:=fun t p hp=>by
 obtain⟨d,gs,h1,h2,h3⟩:=h t p hp;exact⟨d,gs,h1,h2.keep hk (fun _ _ q=>q),h3⟩
def Iy (S:d8)(mp pm:ByteArray->Option Nat)(B:Nat)(b:ByteArray)(F:Nat):Prop:=
 ∀(w:World) (Z:Nat->Prop) (sub:MT) (m:PM) (a e deep k pb:Nat) (gs:List GF) (rb db:Nat),rC w B S mp->mr w (fun b=>b<B) S mp pm->ic w (fun b=>b<B) mp pm gs pb->kc S mp sub gs->kU S sub->dU w rb (b.extract 0 e) a deep->ed S (k+1) (some sub) w Z db m->
  (∀x,Z x->B<=x/\x<w.heap.size)->B<=rb->¬Z rb->a<=e->e<=b.size->e-a<F->k+deep=8->WM S a sub m->
  Calls Tryz.prog 89 #[.pointer (some ⟨pb,0,none⟩),.pointer (some ⟨rb,0,none⟩),.pointer (some ⟨db,0,none⟩)] w (gR S k sub w Z rb db (b.extract 0 e) deep (nC e (ew S b F sub m a e deep)))
section
variable {w:an} {b c n:Nat} {T:TypeId} {v:Value}
attribute [local go_sem↓] Go.wp_at_zero Go.wp_at_succ
theorem FF (w:an)(o:Obj)(b:Nat)(cs:Array Value)(T:TypeId):dK (w.alloc o) b cs T<->if b=w.heap.size then o= .cells cs T (0,0)else dK w b cs T:=by
 unfold dK
 by_cases h:b=w.heap.size
 ·subst h;rw[dB rfl,heap_alloc_new];simp
 ·rw[dA h]
  by_cases hl:b<w.heap.size
  ·rw[Below.heap_alloc w o b hl]
  ·rw[cy QF,cy QD]
theorem Iz (w:an)(b:Nat)(cs:Array Value)(T:TypeId):dK w.drew b cs T<->dK w b cs T:=Iff.rfl
theorem dK.deep {cs:Array Value}(h:dK w b cs T):
  (∀off,w.cell? (ai b off)=cs[off]?)/\(∀o1 off,(w.alloc o1).cell? (ai b off)=cs[off]?)/\(∀o1 o2 off,((w.alloc o1).alloc o2).cell? (ai b off)=cs[off]?)/\(∀o1 o2 o3 off,(((w.alloc o1).alloc o2).alloc o3).cell? (ai b off)=cs[off]?)/\(∀o1 o2 o3 o4 off,((((w.alloc o1).alloc o2).alloc o3).alloc o4).cell? (ai b off)=cs[off]?):=
 ⟨h.cell,λ_=>(h.alloc _).cell,λ_ _=>((h.alloc _).alloc _).cell,λ_ _ _=>(((h.alloc _).alloc _).alloc _).cell,λ_ _ _ _=>((((h.alloc _).alloc _).alloc _).alloc _).cell⟩
theorem mm.form {Q:ap}{k:Nat}(h:mm w Q k v):FE v:=by
 rcases h with⟨_,rfl⟩|⟨_,rfl⟩|⟨_,_,_,rfl,_⟩
 ·exact⟨_,_,rfl⟩
 ·exact⟨_,_,rfl⟩
 ·exact⟨_,_,rfl⟩
theorem Below.a2 (w:an)(o1 o2:Obj):aj w ((w.alloc o1).alloc o2):=((Below.refl _ _).alloc (ay _) _).alloc QE _
theorem Below.a3 (w:an)(o1 o2 o3:Obj):aj w (((w.alloc o1).alloc o2).alloc o3):=(Below.a2 w o1 o2).alloc QF _
theorem Below.a4 (w:an)(o1 o2 o3 o4:Obj):aj w ((((w.alloc o1).alloc o2).alloc o3).alloc o4):=(Below.a3 w o1 o2 o3).alloc QF _
theorem dW {off:Nat}(h:c≠b):(w.setCell (ai c off) v).heap[b]?=w.heap[b]?:=by rw[dJ,dA h]
def iI (w:an)(b:Nat)(T:TypeId):Prop:=∃u,dK w b #[u] T
theorem dK.set1 (h:iI w b T)(v:Value):dK (w.setCell (ai b 0) v) b #[v] T:=by
 obtain⟨u,h⟩:=h;simpa using h.set 0 v
theorem iI.newAt (h:n=w.heap.size)(v:Value)(T:TypeId):iI (w.alloc (.cells #[v] T)) n T:=⟨_,dK.newAt h _ _⟩
theorem iI.alloc (h:iI w b T)(o:Obj):iI (w.alloc o) b T:=h.imp λ_ q=>q.alloc o
theorem iI.drew (h:iI w b T):iI w.drew b T:=h
theorem iI.other (h:iI w b T)(off:Nat)(v:Value)(hne:c≠b):iI (w.setCell (ai c off) v) b T:=h.imp λ_ q=>q.other off v hne
theorem iI.below {w1:an}(h:iI w b T)(hb:Below n w w1)(hn:b<n):iI w1 b T:=h.imp λ_ q=>q.below hb hn
theorem Ci {w':an}(h:Below n w w'):(∀b off,b<n->w'.cell? (ai b off)=w.cell? (ai b off))/\(∀b off,b<n->w'.frozen? (ai b off)=w.frozen? (ai b off)):=⟨λb off hb=>h.cell (p:=(ai b off)) hb,λb off hb=>h.frozen (p:=(ai b off)) hb⟩
theorem MX {p q:Prop}(h:p)(k:p->q):q:=k h
theorem Ps {fb:Nat}{a b c d e:Value}(h:dK w fb #[a,b,c,d,e] T):w.cell? (ai fb 0)=some a/\w.cell? (ai fb 2)=some c/\w.cell? (ai fb 3)=some d:=⟨h.cell 0,h.cell 2,h.cell 3⟩
def jg (w:an)(A:an->Value->Prop)(e:Ending)(w':an):Prop:=∃v,e= .returned v/\A w' v/\aj w w'
section
variable (w:an) (Q P:ap) (mp pm:am->Option Nat) (g:GF) (fb:Nat)
theorem vZ (hQ:∀b,w.heap.size<=b->Q b)(h:eG w P mp g fb)(h4:g.form≠4)(hb:iU mp g.f.ty<=15):Calls prog 380 #[ag fb] w (jg w λw' v=>MV w' Q mp g v):=by
 have hmf:= @ti;obtain⟨pv,rv,h1,_,QP,QT⟩:=h.blk;have QU:ee mp g=iU mp g.f.ty:=by unfold ee;rw[dA h4]
 rw[QU]at h1;obtain⟨pq,rfl⟩:=gi QT;obtain⟨ra,rn,rc,rfl⟩:=dL QP.1;have hV:=λW=>ye W (iU mp g.f.ty) (.pointer pq) hb
 clear QT QP h
 have QR:(g.form==0)=true/\kY g.form=193\/(g.form==0)=false/\(g.form==2)=true/\kY g.form=268\/(g.form==0)=false/\(g.form==2)=false/\kY g.form=195:=by
  unfold kY
  by_cases h0:g.form=0
  ·exact .inl ⟨by simp[h0],by rw[dB h0]⟩
  ·by_cases h2:g.form=2
   ·exact .inr (.inl ⟨by simp[h0],by simp[h2],by rw[dA h0,dB h2]⟩)
   ·exact .inr (.inr ⟨by simp[h0],by simp[h2],by rw[dA h0,dA h2]⟩)
 obtain⟨k0,k1,k2,k3,k4⟩:=h1.deep;have QV:=h1.lt;go_enter func380,ntmps380;go_upto_region 1 with fail
 go_cut [3,4]from 6 to 14 (λx y wx=>∃vb nb vv,x=ag vb/\y=ag nb/\dK wx vb #[vv] 478/\dK wx nb #[aa g.f.num] 3/\dK wx fb #[aa g.f.num,aa g.form,aa (iU mp g.f.ty),.pointer pq,.slice ra rn rc] 220/\mm wx Q (iU mp g.f.ty) vv/\w.heap.size<=vb/\w.heap.size<=nb/\aj w wx)
 case first=>
  go_region_held2 (λW=>W.cell? (ai fb 0)=some (aa g.f.num)/\W.cell? (ai fb 2)=some (aa (iU mp g.f.ty))/\W.cell? (ai fb 3)=some (.pointer pq))
   ((go_light;refine Ps (b:=aa g.form) (e:= .slice ra rn rc) (T:=220) ?_;repeat (first|exact K2|exact h1|refine dK.alloc ?_ _|refine dK.drew ?_|refine dK.other ?_ _ _ QD)))
   (first|(go_at_call 420;refine(hV _).mono ?_;rintro e w2 ⟨vv,rfl,QQ,b2⟩;obtain⟨vf,QS,rfl⟩:=QQ.form;refine MX (p:=dK w2 fb #[aa g.f.num,aa g.form,aa (iU mp g.f.ty),.pointer pq,.slice ra rn rc] 220) ?_ ?_;(first|exact dK.below h1.drew b2 QV|exact dK.below (h1.alloc _).drew b2 (h1.alloc _).lt|exact dK.below ((h1.alloc _).alloc _).drew b2 ((h1.alloc _).alloc _).lt);intro K2;have z2:=K2.lt;obtain⟨k5,k6,k7,k8,k9⟩:=K2.deep;obtain⟨y7,y8⟩:=Ci b2;(try simp only[ck,World.size_drew]at y7 y8);(first|(refine MX (p:=w.heap.size+1<w2.heap.size/\w.heap.size<w2.heap.size) ?_ ?_;(have q:=b2.size;simp at q;omega);rintro⟨z3,z4⟩;obtain⟨a1,a2,a3,a4⟩:=fT (w:=w2) (b:=w.heap.size) z4;obtain⟨a5,a6,a7,a8⟩:=fT (w:=w2) (b:=w.heap.size+1) z3;have c1:=λoff=>y7 w.heap.size off QD;have c2:=λoff=>y8 w.heap.size off QD;have c3:=λoff=>y7 (w.heap.size+1) off QD;have c4:=λoff=>y8 (w.heap.size+1) off QD)|(refine MX (p:=w.heap.size<w2.heap.size) ?_ ?_;(have q:=b2.size;simp at q;omega);intro z3;obtain⟨a1,a2,a3,a4⟩:=fT (w:=w2) (b:=w.heap.size) z3;have c1:=λoff=>y7 w.heap.size off QD;have c2:=λoff=>y8 w.heap.size off QD)|skip);clear y7 y8))
  all_goals
   go_wp2;go_meet
   case rel=>
    go_light;have hw:w.heap.size<=w2.heap.size:=by have q:=b2.size;simp at q;omega
    refine⟨_,_,_,rfl,rfl,?_,?_,?_,QQ.move (λb q l=>⟨hQ b (by simp at q;omega),?_⟩),QD,QD,?_⟩
    ·repeat (first|exact dK.newAt QM _ _|exact iI.newAt QM _ _|refine dK.set1 ?_ _|refine dK.other ?_ _ _ QD|refine dK.alloc ?_ _|refine iI.other ?_ _ _ QD|refine iI.below ?_ b2 QM|refine iI.drew ?_|refine iI.alloc ?_ _)
    ·repeat (first|exact dK.newAt QM _ _|exact iI.newAt QM _ _|refine dK.set1 ?_ _|refine dK.other ?_ _ _ QD|refine dK.alloc ?_ _|refine iI.other ?_ _ _ QD|refine iI.below ?_ b2 QM|refine iI.drew ?_|refine iI.alloc ?_ _)
    ·repeat (first|exact K2|refine dK.alloc ?_ _|refine dK.other ?_ _ _ QD)
    ·simp at q
     repeat (first|rfl|(rw[Below.heap_alloc _ _ b QM])|(rw[dW QD]))
    ·repeat (first|exact Below.refl _ _|refine dG ?_ b2|refine Below.drew ?_|refine Below.alloc ?_ QM _|refine Below.setCell ?_ QM _)
 case rest=>
  obtain⟨vb,nb,vv,rfl,rfl,h5,h6,h7,QQ,q1,q2,b3⟩:=hcut;obtain⟨vf,QS,rfl⟩:=QQ.form;obtain⟨k5,k6,k7,k8,k9⟩:=h7.deep;clear k0 k1 k2 k3 k4;have QW:=b3.size
  rcases QR with⟨f0,hp⟩|⟨f0,f2,hp⟩|⟨f0,f2,hp⟩
  all_goals
   go_wp2;go_ret;have BW:∀o,aj wc (wc.alloc o):=λo=>(Below.refl _ _).alloc (ay _) _
   refine⟨_,rfl,⟨_,_,_,_,rfl,?_,h6.alloc _,h5.alloc _,QQ.move (λb q l=>⟨q,(BW _).block b l⟩),hQ _ QW,hQ _ q2,hQ _ q1⟩,dG b3 (BW _)⟩;rw[hp];exact dK.new _ _ _
end
end
section
attribute [local go_sem↓] Go.wp_at_zero Go.wp_at_succ
def iA.form {w:an}{Q:ap}{mp pm:am->Option Nat}{g:GF}{iv:Value}(h:iA w Q mp pm g iv):∃q,iv= .pointer q:=by
 unfold iA at h
 split at h
 ·obtain⟨p,rfl,_⟩:=h;exact⟨_,rfl⟩
 ·split at h
  ·obtain⟨p,rfl,_⟩:=h;exact⟨_,rfl⟩
  ·exact⟨_,h⟩
def wd:Prop:=∀(w:an) (Q P:ap) (mp:am->Option Nat) (g:GF) (fb:Nat),(∀b,w.heap.size<=b->Q b)->eG w P mp g fb->g.form≠4->iU mp g.f.ty<=15->Calls prog 379 #[ag fb] w (jg w λw' v=>Ld w' Q mp g v)
def Ac:Prop:=∀(w:an) (Q P:ap) (mp:am->Option Nat) (g:GF) (fb p:Nat),(∀b,w.heap.size<=b->Q b)->eG w P mp g fb->g.form=4->Calls prog 377 #[ag fb,ag p] w (jg w λw' v=>LX w' Q mp (λx=>x=p) g v)
section
variable (w:an) (Q P:ap) (mp pm:am->Option Nat) (g:GF) (fb:Nat)
def sR (p:Nat)(hQ:∀b,w.heap.size<=b->Q b)(h:eG w P mp g fb)(hp:pm g.f.ty=some p):Calls prog 378 #[ag fb,ag p] w (jg w λw' v=>MW w' Q mp pm g v):=by
 have Q0:= @ti;obtain⟨pv,rv,h1,_,QP,QR⟩:=h.blk;obtain⟨pq,rfl⟩:=gi QR;obtain⟨ra,rn,rc,rfl⟩:=dL QP.1;have hL:∀W,(∀b,b<w.heap.size->W.heap[b]?=w.heap[b]?)->Calls prog 186 #[ag fb] W λe w'=>e= .returned (aa (jF mp g))/\w'=W:=λW hW=>oN W P mp g fb (h.keep (λb _ hl=>hW b hl))
 have l1:∀o1,∀b,b<w.heap.size->(w.alloc o1).drew.heap[b]?=w.heap[b]?:=λo1 b hb=>Below.heap_alloc w o1 b hb
 have l2:∀o1 o2,∀b,b<w.heap.size->((w.alloc o1).alloc o2).drew.heap[b]?=w.heap[b]?:=λo1 o2 b hb=>(Below.a2 w o1 o2).block b hb
 have l3:∀o1 o2 o3,∀b,b<w.heap.size->(((w.alloc o1).alloc o2).alloc o3).drew.heap[b]?=w.heap[b]?:=λo1 o2 o3 b hb=>(Below.a3 w o1 o2 o3).block b hb
 obtain⟨k0,k1,k2,k3,k4⟩:=h1.deep;clear QR QP h
 have QS:(g.form==2)=true/\jf g.form=190\/(g.form==2)=false/\jf g.form=191:=by
  unfold jf
  by_cases h2:g.form=2
  ·exact .inl ⟨by simp[h2],by rw[dB h2]⟩
  ·exact .inr ⟨by simp[h2],by rw[dA h2]⟩
 obtain⟨QY,QT⟩:∃QY,jF mp g=QY:=⟨_,rfl⟩;rw[QT]at hL
 rcases QS with⟨f2,hf⟩|⟨f2,hf⟩
 all_goals
  go_enter func378,ntmps378;go_upto_region 1 with fail
  go_region_held3 (λW=>W.cell? (ai fb 0)=some (aa g.f.num))
   (first|exact k3 _ _ _ 0|exact k2 _ _ 0|exact k1 _ 0)
   (first|(go_at_call 186;refine(hL _ (l1 _)).mono ?_;rintro e w2 ⟨rfl,rfl⟩)|(go_at_call 186;refine(hL _ (l2 _ _)).mono ?_;rintro e w2 ⟨rfl,rfl⟩)|(go_at_call 186;refine(hL _ (l3 _ _ _)).mono ?_;rintro e w2 ⟨rfl,rfl⟩))
  all_goals
   go_wp2;go_ret;refine⟨_,rfl,⟨_,_,_,_,p,rfl,?_,?_,?_,?_,hp,hQ _ QD,hQ _ QD,hQ _ QD,hQ _ QD⟩,(Below.a4 w _ _ _ _).drew⟩
   all_goals simp[FF,Iz,AH,hf,QT]<;>omega
def kZ.fn {w:an}{Q:ap}{mp pm:am->Option Nat}{g:GF}{v:Value}(h:kZ w Q mp pm g v):FE v:=by
 unfold kZ at h
 split at h
 ·obtain⟨_,_,_,_,_,rfl,_⟩:=h;exact⟨_,_,rfl⟩
 ·unfold AK at h
  split at h
  ·obtain⟨_,_,_,_,_,rfl,_⟩:=h;exact⟨_,_,rfl⟩
  ·split at h
   ·obtain⟨_,_,_,_,rfl,_⟩:=h;exact⟨_,_,rfl⟩
   ·obtain⟨_,_,_,_,rfl,_⟩:=h;exact⟨_,_,rfl⟩
def we (iv:Value)(HP:wd)(HE:Ac)(hQ:∀b,w.heap.size<=b->Q b)(h:eG w P mp g fb)(hi:iA w Q mp pm g iv):Calls prog 295 #[ag fb,iv] w (jg w λw' v=>kZ w' Q mp pm g v):=by
 obtain⟨pv,rv,h1,_,QP,QR⟩:=h.blk;obtain⟨pq,rfl⟩:=gi QR;obtain⟨ra,rn,rc,rfl⟩:=dL QP.1;have QU:=lH w P mp g fb h;have QW:∀w1:an,aj w w1->∀b,w1.heap.size<=b->Q b:=λw1 h1 b hb=>hQ b (by have:=h1.size;omega)
 have QX:∀w1:an,aj w w1->eG w1 P mp g fb:=λw1 hb=>h.keep (λb _ hl=>hb.block b hl)
 clear QR QP;unfold iA at hi
 by_cases h4:g.form=4
 ·rw[dB h4]at hi;obtain⟨p,rfl,QS⟩:=hi;have f4:(g.form==4)=true:=by simp[h4]
  have hC:=HE w Q P mp g fb p hQ h h4;obtain⟨k1,k2⟩:=h1.rules;go_enter func295,ntmps295;go_wp2_with fail;refine hC.mono ?_;rintro e w2 ⟨v,rfl,hv,b2⟩
  have hr:kZ w2 Q mp pm g v:=by
   unfold kZ;rw[dB h4]
   exact hv.move (.keep λ_ _ _=>rfl) λx hx=>by
    subst hx;exact QS.move (.keep λb _ l=>b2.block b l) (λ_ _ _ q=>q.move (.keep λb _ l=>b2.block b l) (λ_ _ q=>q)) λ_ _ _ q=>q
  obtain⟨vf,QQ,rfl⟩:=hr.fn;go_wp2;go_ret;exact⟨_,rfl,hr,b2⟩
 ·rw[dA h4]at hi;have f4:(g.form==4)=false:=by simp[h4]
  have Q1:ee mp g=iU mp g.f.ty:=by unfold ee;rw[dA h4]
  rw[Q1]at h1;have QV:∀w' v,AK w' Q mp pm g v->kZ w' Q mp pm g v:=λw' v q=>by unfold kZ;rw[dA h4];exact q
  obtain⟨k1,k2⟩:=h1.rules
  by_cases h16:iU mp g.f.ty=16
  ·rw[dB h16]at hi;obtain⟨p,rfl,QS⟩:=hi;have Q2:((iU mp g.f.ty:Int)==16)=true:=by simp[h16]
   have hC:=sR w Q P mp pm g fb p hQ h QS;go_enter func295,ntmps295;go_wp2_with fail;refine hC.mono ?_;rintro e w2 ⟨v,rfl,hv,b2⟩;have hr:kZ w2 Q mp pm g v:=QV _ _ (by unfold AK;rw[dB h16];exact hv);obtain⟨vf,QQ,rfl⟩:=hr.fn;go_wp2;go_ret;exact⟨_,rfl,hr,b2⟩
  ·rw[dA h16]at hi;subst hi;have Q2:((iU mp g.f.ty:Int)==16)=false:=QF;have hle:=sj mp g.f.ty
   cases hpk:gN mp g with
   |true=>
    rw[hpk]at QU;go_enter func295,ntmps295;go_wp2_with fail;refine QU.mono ?_;rintro e w1 ⟨rfl,b1⟩;go_wp2_with fail;refine(HP w1 Q P mp g fb (QW w1 b1) (QX w1 b1) h4 QD).mono ?_;rintro e w2 ⟨v,rfl,hv,b2⟩;have hr:kZ w2 Q mp pm g v:=QV _ _ (by unfold AK;rw[dA h16,dB hpk];exact hv);obtain⟨vf,QQ,rfl⟩:=hr.fn;go_wp2;go_ret;exact⟨_,rfl,hr,dG b1 b2⟩
   |false=>
    rw[hpk]at QU;go_enter func295,ntmps295;go_wp2_with fail;refine QU.mono ?_;rintro e w1 ⟨rfl,b1⟩;go_wp2_with fail;refine(vZ w1 Q P mp g fb (QW w1 b1) (QX w1 b1) h4 QD).mono ?_;rintro e w2 ⟨v,rfl,hv,b2⟩;have hr:kZ w2 Q mp pm g v:=QV _ _ (by unfold AK;rw[dA h16,dA (by rw[hpk];simp)];exact hv);obtain⟨vf,QQ,rfl⟩:=hr.fn;go_wp2;go_ret;exact⟨_,rfl,hr,dG b1 b2⟩
def xr (iv:Value)(HP:wd)(HE:Ac)(hQ:∀b,w.heap.size<=b->Q b)(hPQ:∀b,P b->Q b)(h:eG w P mp g fb)(hi:iA w Q mp pm g iv):Calls prog 213 #[ag fb,iv] w (jg w λw' v=>uC w' Q (kZ w' Q mp pm) g v):=by
 have Q0:= @ti;obtain⟨pv,rv,h1,_,QP,QR⟩:=h.blk;have hC:=we w Q P mp pm g fb iv HP HE hQ h hi;obtain⟨iq,rfl⟩:=hi.form;obtain⟨pq,rfl⟩:=gi QR;obtain⟨ra,rc,rfl⟩:=iW QP.1;clear QR hi h;go_enter func213,ntmps213;go_wp2_with fail;refine hC.mono ?_;rintro e w2 ⟨v,rfl,hv,b2⟩;obtain⟨vf,QQ,QZ⟩:=hv.fn;have h2:=h1.below b2 h1.lt;obtain⟨k5,k6,k7,k8,k9⟩:=h2.deep;have hw2:=b2.size
 by_cases h0:g.riv= []
 ·have e0:((g.riv.length:Int)==0)=true:=by simp[h0]
  subst QZ;go_wp2;go_ret;have B3:∀o,aj w2 (w2.alloc o):=λo=>(Below.refl _ _).alloc (ay _) _
  refine⟨_,rfl,(show uC _ Q (kZ _ Q mp pm) g _ from ?_),dG b2 (B3 _)⟩;unfold uC;rw[dB h0];exact hv.move (.keep λb _ l=>(B3 _).block b l) (λ_ _ q=>q)
 ·have e0:((g.riv.length:Int)==0)=false:=by simpa using h0
  subst QZ;go_wp2;go_ret;refine⟨_,rfl,(show uC _ Q (kZ _ Q mp pm) g _ from ?_),dG b2 (Below.a2 w2 _ _)⟩;unfold uC;rw[dA h0];refine⟨_,_,_,_,rfl,dK.newAt QE _ _,?_,(dK.new w2 _ _).alloc _,hQ _ QD,hQ _ QD,?_⟩
  ·exact et.move (λb q l=>⟨hPQ b q,(dG b2 (Below.a2 w2 _ _)).block b l⟩) QP
  ·exact hv.move (.keep λb _ l=>(Below.a2 w2 _ _).block b l) (λ_ _ q=>q)
end
end
section
open Go.Maps
attribute [local go_sem↓] Go.wp_at_zero Go.wp_at_succ
def lc:∀{l:List MT} {s:am} {d:MT},lP l s=some d->d.name=s
 | [],_,_,h=>by cases h
 |m::l,s,d,h=>by
  rw[lP]at h
  split at h
  ·rename_i q
   cases h
   exact ja (gk.1 q)
  ·exact lc h
def dS.freshP {bs:au}{a b:an}(h:dS bs a b){c:Nat}(hc:a.heap.size<=c)(off:Nat)(u:Value):dS bs a (b.setCell (ai c off) u):=
 ⟨h.os,h.tape,h.output,by simpa using h.size,λi hi hn=>by rw[dW QD];exact h.block i hi hn⟩
def Qk (kp mk:Nat)(U:au)(X:ap)(b:Nat):Prop:=b≠mk/\b≠kp/\b∉U/\X b
def mZ (S:d8)(pm:am->Option Nat):Nat:=(S.ms.filter λd=>(pm d.name).isNone).length
def oj {α:Type}{p q:α->Bool}(h:∀x,p x=true->q x=true):∀l:List α,(l.filter p).length<=(l.filter q).length
 | []=>ay _
 |x::l=>by
  have ih:=oj h l;rw[b9,b9]
  cases hp:p x with
  |true=>rw[h x hp];simpa using ih
  |false=>
   cases q x with
   |true=>simp;omega
   |false=>simpa using ih
def rK {α:Type}{p q:α->Bool}(h:∀x,p x=true->q x=true){y:α}(hy1:p y=false)(hy2:q y=true):∀l:List α,y∈l->(l.filter p).length<(l.filter q).length
 |x::l,hm=>by
  rw[b9,b9]
  rcases aN.1 hm with rfl|hm
  ·rw[hy1,hy2];have:=oj h l;simp;omega
  ·have ih:=rK h hy1 hy2 l hm
   cases hp:p x with
   |true=>rw[h x hp];simpa using ih
   |false=>
    cases q x with
    |true=>simp;omega
    |false=>simpa using ih
def FH {S:d8}{pm QP:am->Option Nat}(h:∀t p,pm t=some p->QP t=some p):mZ S QP<=mZ S pm:=by
 refine oj (λd hd=> ?_) S.ms
 cases hq:pm d.name with
 |none=>rfl
 |some p=>rw[h _ _ hq]at hd;cases hd
def yw {S:d8}{pm QP:am->Option Nat}(h:∀t p,pm t=some p->QP t=some p){d:MT}(hd:d∈S.ms)(h0:pm d.name=none){p:Nat}(h1:QP d.name=some p):mZ S QP<mZ S pm:=by
 refine rK (λd hd=> ?_) (y:=d) (by rw[h1];rfl) (by rw[h0];rfl) S.ms hd
 cases hq:pm d.name with
 |none=>rfl
 |some p=>rw[h _ _ hq]at hd;cases hd
structure tJ (kp mk:Nat)(mu:Int)(S:d8)(mp:am->Option Nat)(w:an)(N:Nat)(pm:am->Option Nat)(U:au)(X:ap):Prop where
 kb:dK w kp #[.int .i32 mu,.int .u32 0,.map (some mk)] 170
 mb:fR w mk N pm
 ne:mk≠kp
 ct:N+mZ S pm<=4000
 inj:∀t t' p,pm t=some p->pm t'=some p->t=t'
 pl:∀t p,pm t=some p->(p∈U/\dK w p #[ah] 254/\∃d,S.msg t=some d)\/∃d gs,S.msg t=some d/\kc S mp d gs/\ic w (Qk kp mk U X) mp pm gs p
structure IA (w:an)(P:ap)(S:d8)(mp:am->Option Nat):Prop where
 md:∀t d,S.msg t=some d->∃mb gs,wX mp t=some mb/\iF w P mp mb d.name gs/\kc S mp d gs/\d.name.size<=2000
 ty:∀t,iU mp t=16->∃d,S.msg t=some d
def IA.keep {w w':an}{P:ap}{S:d8}{mp:am->Option Nat}(h:IA w P S mp)(hk:∀b,P b->b<w.heap.size->w'.heap[b]?=w.heap[b]?):IA w' P S mp:=
 ⟨λt d q=>by
  obtain⟨mb,gs,h1,h2,h3,h4⟩:=h.md t d q
  exact⟨mb,gs,h1,h2.keep hk,h3,h4⟩,h.ty⟩
structure yx (kp mk W0:Nat)(mu:Int)(S:d8)(mp:am->Option Nat)(P:ap)(w:an)(N:Nat)(pm:am->Option Nat)(U:au)(X:ap):Prop where
 ok:tJ kp mk mu S mp w N pm U X
 md:IA w P S mp
 w0:W0<=w.heap.size
 uu:∀u∈U,W0<=u/\u<w.heap.size
 xx:∀b,P b->X b
 xn:∀b,w.heap.size<=b->X b
 hp:∀b,P b->b<W0/\b≠mk/\b≠kp
 kl:kp<W0
 ml:mk<W0
def MY (kp mk:Nat)(mu:Int)(S:d8)(mp:am->Option Nat)(w:an)(pm:am->Option Nat)(U:au)(X:ap)(A:an->(am->Option Nat)->Value->Prop)(e:Ending)(w':an):Prop:=
 ∃v N' QP,e= .returned v/\A w' QP v/\tJ kp mk mu S mp w' N' QP U X/\(∀t p,pm t=some p->QP t=some p)/\dS [mk] w w'
section
variable {kp mk W0:Nat} {mu:Int} {S:d8} {mp:am->Option Nat} {P:ap} {w w':an} {N N':Nat} {pm QP:am->Option Nat} {U:au} {X:ap}
def yx.pq (h:yx kp mk W0 mu S mp P w N pm U X){b:Nat}(hb:P b):Qk kp mk U X b:=by
 obtain⟨h1,h2,h3⟩:=h.hp b hb;exact⟨h2,h3,λq=>by have:=(h.uu b q).1;omega,h.xx b hb⟩
def yx.nq (h:yx kp mk W0 mu S mp P w N pm U X){b:Nat}(hb:w.heap.size<=b):Qk kp mk U X b:=by
 have:=h.w0;have:=h.kl;have:=h.ml;exact⟨QD,QD,λq=>by have:=(h.uu b q).2;omega,h.xn b hb⟩
def yx.on (h:yx kp mk W0 mu S mp P w N pm U X)(hk:tJ kp mk mu S mp w' N' QP U X)(hw:dS [mk] w w'):yx kp mk W0 mu S mp P w' N' QP U X:=
 ⟨hk,h.md.keep λb hb hl=>hw.block b hl (by simp;exact(h.hp b hb).2.1),aH h.w0 hw.size,λu hu=>⟨(h.uu u hu).1,aC (h.uu u hu).2 hw.size⟩,h.xx,λb hb=>h.xn b (aH hw.size hb),h.hp,h.kl,h.ml⟩
def tJ.keep (h:tJ kp mk mu S mp w N pm U X)(hk:∀b,b<w.heap.size->w'.heap[b]?=w.heap[b]?):tJ kp mk mu S mp w' N pm U X:=
 ⟨(hk _ h.kb.lt).trans h.kb,h.mb.keep (hk _ h.mb.lt),h.ne,h.ct,h.inj,λt p hp=>by
  rcases h.pl t p hp with⟨h1,h2,h3⟩|⟨d,gs,h1,h2,h3⟩
  ·exact .inl ⟨h1,(hk _ h2.lt).trans h2,h3⟩
  ·exact .inr ⟨d,gs,h1,h2,h3.keep (λb _ hl=>hk b hl) (λ_ _ q=>q)⟩⟩
def tJ.lt (h:tJ kp mk mu S mp w N pm U X){t:am}{p:Nat}(hp:pm t=some p):p<w.heap.size:=by
 rcases h.pl t p hp with⟨_,h2,_⟩|⟨d,gs,_,_,v,l,h3,_⟩
 ·exact h2.lt
 ·exact h3.lt
def yx.keep (h:yx kp mk W0 mu S mp P w N pm U X)(hb:aj w w'):yx kp mk W0 mu S mp P w' N pm U X:=h.on (h.ok.keep λb hl=>hb.block b hl) (.of_below hb)
def tJ.begin {w2:an}{d:MT}(h:tJ kp mk mu S mp w N pm U X)(hd:S.msg d.name=some d)(h0:pm d.name=none)(hg:((w.alloc (.cells #[ah] 254))).grownBy w2 (some mk))(hm:fR w2 mk (N+1) (iZ pm d.name w.heap.size)):
  tJ kp mk mu S mp w2 (N+1) (iZ pm d.name w.heap.size) (w.heap.size::U) X:=by
 have QR:∀t p,pm t=some p->iZ pm d.name w.heap.size t=some p:=λt p hp=>by
  unfold iZ
  split
  ·rename_i q
   rw[show t=d.name from ja (gk.1 q),h0]at hp
   cases hp
  ·exact hp
 have h1:iZ pm d.name w.heap.size d.name=some w.heap.size:=by
  unfold iZ;rw[dB (gk.2 rfl)]
 have QS:∀t p,iZ pm d.name w.heap.size t=some p->(t=d.name/\p=w.heap.size)\/pm t=some p:=λt p hp=>by
  unfold iZ at hp
  split at hp
  ·rename_i q
   cases hp
   exact .inl ⟨ja (gk.1 q),rfl⟩
  ·exact .inr hp
 have QQ:∀b,b≠mk->b<w.heap.size->w2.heap[b]?=w.heap[b]?:=λb hb hl=>(hg.block b QF (λe=>hb (Option.some.inj e))).trans (Below.heap_alloc _ _ b hl)
 have KP:dK w2 w.heap.size #[ah] 254:=(dK.new w _ _).grown hg (λe=>by have:=h.mb.lt;have:=Option.some.inj e;omega);have Rc:=yw QR (iP hd) h0 h1;refine⟨(QQ _ (λe=>h.ne e.symm) h.kb.lt).trans h.kb,hm,h.ne,by have:=h.ct;omega,λt t' p q1 q2=> ?_,λt p hp=> ?_⟩
 ·rcases QS t p q1 with⟨e1,e2⟩|e1
  ·rcases QS t' p q2 with⟨e3,_⟩|e3
   ·rw[e1,e3]
   ·have:=h.lt e3;omega
  ·rcases QS t' p q2 with⟨e3,e4⟩|e3
   ·have:=h.lt e1;omega
   ·exact h.inj t t' p e1 e3
 ·rcases QS t p hp with⟨rfl,rfl⟩|Rl
  ·exact .inl ⟨QE,KP,d,hd⟩
  ·rcases h.pl t p Rl with⟨q1,q2,q3⟩|⟨d',gs,q1,q2,q3⟩
   ·refine .inl ⟨by simp[q1],(QQ p (λe=> ?_) q2.lt).trans q2,q3⟩;subst e;obtain⟨D,hD,_⟩:=h.mb;obtain⟨_,_,Q4,_⟩:=hD;unfold dK at q2;rw[Q4]at q2
    cases q2
   ·refine .inr ⟨d',gs,q1,q2,q3.move (λb hb hl=>⟨⟨hb.1,hb.2.1,?_,hb.2.2.2⟩,QQ b hb.1 hl⟩) QR⟩;intro e
    rcases aN.1 e with e|e
    ·omega
    ·exact hb.2.2.1 e
def tJ.done {w3:an}{p:Nat}{v:Value}{l:List qM}{d:MT}{gs:List GF}(h:tJ kp mk mu S mp w3 N pm (p::U) X)(hp:pm d.name=some p)(hd:S.msg d.name=some d)(hG:kc S mp d gs)(hpU:p∉U)(hpk:p≠mk/\p≠kp/\X p)(hb:dK w3 p #[ah] 254)
  (QT:et w3 (Qk kp mk (p::U) X) 268 8 v l.length (l.flatMap iD)) (hs:ia w3 (Qk kp mk (p::U) X) mp (kZ w3 (Qk kp mk (p::U) X) mp pm) (iA w3 (Qk kp mk (p::U) X) mp pm) gs l):tJ kp mk mu S mp (w3.setCell (ai p 0) v) N pm U X:=by
 have QQ:∀b,b≠p->(w3.setCell (ai p 0) v).heap[b]?=w3.heap[b]?:=λb Rm=>dW (λe=>Rm e.symm)
 have QZ:Mv w3 (Qk kp mk (p::U) X) (w3.setCell (ai p 0) v) (Qk kp mk U X):=λb q _=>⟨⟨q.1,q.2.1,λe=>q.2.2.1 (by simp[e]),q.2.2.2⟩,QQ b (λe=>q.2.2.1 (by simp[e]))⟩
 refine⟨(QQ _ (λe=>hpk.2.1 e.symm)).trans h.kb,h.mb.keep (QQ _ (λe=>hpk.1 e.symm)),h.ne,h.ct,h.inj,λt q hq=> ?_⟩
 by_cases e:q=p
 ·subst e;obtain rfl:=h.inj _ _ _ hq hp;refine .inr ⟨d,gs,hd,hG,v,l,by simpa using hb.set 0 v,⟨hpk.1,hpk.2.1,hpU,hpk.2.2⟩,QT.move QZ,hs.move QZ (λg _ u hu=>hu.move QZ (λ_ _ q=>q)) λg _ u hu=>hu.move QZ (λ_ _ q=>q)⟩
 ·rcases h.pl t q hq with⟨q1,q2,q3⟩|⟨d',Rn,q1,q2,q3⟩
  ·rcases aN.1 q1 with e'|e'
   ·exact absurd e' e
   ·exact .inl ⟨e',(QQ q e).trans q2,q3⟩
  ·exact .inr ⟨d',Rn,q1,q2,q3.move QZ (λ_ _ q=>q)⟩
end
section
variable (kp mk W0:Nat) (mu:Int) (S:d8) (mp:am->Option Nat) (P:ap)
def DD (n:Nat)(gs:List GF):Prop:=∀(w:an) (N:Nat) (pm:am->Option Nat) (U:au) (X:ap) (mb:Nat) (nm:am),yx kp mk W0 mu S mp P w N pm U X->mZ S pm<=n->iF w P mp mb nm gs->gs.length<=2001->
 Calls prog 140 #[ag kp,ag mb] w (MY kp mk mu S mp w pm U X λw' QP v=>∃l,et w' (Qk kp mk U X) 268 8 v l.length (l.flatMap iD)/\ia w' (Qk kp mk U X) mp (kZ w' (Qk kp mk U X) mp QP) (iA w' (Qk kp mk U X) mp QP) gs l)
def Pt (n:Nat):Prop:=∀(w:an) (N:Nat) (pm:am->Option Nat) (U:au) (X:ap) (mb:Nat) (d:MT) (gs:List GF),yx kp mk W0 mu S mp P w N pm U X->mZ S pm<=n->S.msg d.name=some d->iF w P mp mb d.name gs->kc S mp d gs->d.name.size<=2000->
 Calls prog 88 #[ag kp,ag mb] w (MY kp mk mu S mp w pm U X λ_ QP v=>∃p,v=ag p/\QP d.name=some p)
def uD (n:Nat)(g:GF):Prop:=∀(w:an) (N:Nat) (pm:am->Option Nat) (U:au) (X:ap) (fb:Nat),yx kp mk W0 mu S mp P w N pm U X->mZ S pm<=n->eG w P mp g fb->
 Calls prog 207 #[ag kp,ag fb] w (MY kp mk mu S mp w pm U X λw' QP v=>iA w' (Qk kp mk U X) mp QP g v)
def FI (w:an):(zeroValue 116).run prog w= .ok (.pointer none) w:=QI
def fR.lookP {w:an}{b n:Nat}{mp:am->Option Nat}(h:fR w b n mp)(s:am)(hs:s.size<=maxLen):
  (Instr.lookup 161 (.map (some b)) (ae s) false).run prog w= .ok (gC (mp s)) w:=by
 obtain⟨D,h1,h2⟩:=h;obtain⟨v,ps,Q2,hR⟩:=h1.lookup EZ underlying161 (FI w) (kA none) (E7 s hs);have e:=h2 s;unfold nl at e;rw[e]at hR;rw[Q2,oF hR]
def Pv (n:Nat)(HS:∀m gs,m<n->DD kp mk W0 mu S mp P m gs):Pt kp mk W0 mu S mp P n:=by
 intro w N pm U X mb d gs I hn hd hM hG hsz;obtain⟨fv,fbs,h1,hPb,QT,Ro⟩:=id hM;obtain⟨fa,fn,fc,rfl⟩:=dL QT.1;have hl:=λq=>fR.lookP (w:=w.drewN q) (I.ok.mb.keep rfl) d.name QK
 obtain⟨k1,k2⟩:=I.ok.kb.rules;obtain⟨k3,k4⟩:=h1.rules
 cases hpm:pm d.name with
 |some p=>
  rw[hpm]at hl;unfold gC at hl;have hl0:=hl 0;go_enter func88,ntmps88;go_upto_region 1 with fail
  go_quiet (fail)
  go_wp2;go_ret;exact⟨_,N,pm,rfl,⟨p,rfl,hpm⟩,I.ok.keep (λ_ _=>rfl),λ_ _ q=>q,(dS.refl _ _).drewN _⟩
 |none=>
  rw[hpm]at hl;unfold gC at hl;go_enter func88,ntmps88;go_upto_region 1 with fail
  go_quiet (fail)
  have bq:aj w (w.drewN nq):=iE (Below.refl _ _) nq;have I1:=I.keep bq;have Re:=h1.below bq h1.lt;have Rf:=hM.keep (w':=w.drewN nq) (λb _ hl=>bq.block b hl);have kq:dS [mk] w (w.drewN nq):= .of_below bq;clear k1 k2 k3 k4 hl h1 hM QT Ro I bq;generalize w.drewN nq=w1 at*;obtain⟨D,Q5,Ra⟩:=I1.ok.mb;have Q3:(w1.alloc (ak #[ah] 254)).drew.ownsMap prog 9 gj mk N D:=Q5.alloc _;have hct:=I1.ok.ct;obtain⟨w2,Q2,QU,QY⟩:=Q3.update EZ underlying161 QK (key:=ae d.name) (val:=ag w1.heap.size) (E7 d.name QK) (kA (some w1.heap.size));have Q0:(w1.alloc (ak #[ah] 254)).grownBy w2 (some mk):=⟨QY.os,QY.tape,QY.output,QY.size,QY.block⟩;have Q8:=fR.put (b:=w1.heap.size) Q3 Ra QU;have ok2:=I1.ok.begin hd hpm Q0 Q8;have QX:dS [mk] w1 w2:=((dS.refl _ _).alloc _).trans (dS.of_grown Q0);have Rg:w1.heap.size<w2.heap.size:=by have:=Q0.size;simp at this;omega
  have I2:yx kp mk W0 mu S mp P w2 (N+1) (iZ pm d.name w1.heap.size) (w1.heap.size::U) X:=
   ⟨ok2,I1.md.keep λb hb hl=>QX.block b hl (by simp;exact(I1.hp b hb).2.1),aH I1.w0 QX.size,λu hu=>by
    rcases aN.1 hu with rfl|hu
    ·exact⟨I1.w0,Rg⟩
    ·exact⟨(I1.uu u hu).1,aC (I1.uu u hu).2 QX.size⟩,I1.xx,λb hb=>I1.xn b (aH QX.size hb),I1.hp,I1.kl,I1.ml⟩
  have QR:∀t p,pm t=some p->iZ pm d.name w1.heap.size t=some p:=λt p hp=>by
   unfold iZ
   split
   ·rename_i q
    rw[show t=d.name from ja (gk.1 q),hpm]at hp
    cases hp
   ·exact hp
  have QW:iZ pm d.name w1.heap.size d.name=some w1.heap.size:=by
   unfold iZ;rw[dB (gk.2 rfl)]
  have Rc:=yw QR (iP hd) hpm QW;obtain⟨n',rfl⟩:∃n',n=n'+1:=⟨n-1,QD⟩;have Rh:=HS n' gs QD w2 (N+1) _ _ X mb d.name I2 QD (Rf.keep λb hb hl=>QX.block b hl (by simp;exact(I1.hp b hb).2.1)) hG.len;have Ri:dK w2 w1.heap.size #[ah] 254:=(dK.new w1 _ _).grown Q0 (λe=>by have:=Q5.lt;have:=Option.some.inj e;omega);have Q1:=I1.nq (ay _);obtain⟨k1,k2⟩:=(I1.ok.kb.alloc (ak #[ah] 254)).rules;obtain⟨k3,k4⟩:=(Re.alloc (ak #[ah] 254)).rules
  have Rj:Hid (∀(w3:an) (N':Nat) (QP:am->Option Nat) (v:Value) (l:List qM),tJ kp mk mu S mp w3 N' QP (w1.heap.size::U) X->QP d.name=some w1.heap.size->dK w3 w1.heap.size #[ah] 254->et w3 (Qk kp mk (w1.heap.size::U) X) 268 8 v l.length (l.flatMap iD)->ia w3 (Qk kp mk (w1.heap.size::U) X) mp (kZ w3 (Qk kp mk (w1.heap.size::U) X) mp QP) (iA w3 (Qk kp mk (w1.heap.size::U) X) mp QP) gs l->tJ kp mk mu S mp (w3.setCell (ai w1.heap.size 0) v) N' QP U X):=
   λw3 N' QP v l h1 h2 h3 h4 h5=>h1.done h2 hd hG Q1.2.2.1 ⟨Q1.1,Q1.2.1,Q1.2.2.2⟩ h3 h4 h5
  have Rk:w1.heap.size≠mk:=Q1.1;clear QY Q3 Q5 Ra QU Q8 Q0 HS;go_upto_region 5 with fail
  go_region
  all_goals
   go_wp2_with fail;refine Rh.mono ?_;rintro e w3 ⟨v,N',QP,rfl,⟨l,QV,Q6⟩,Rp,Q7,Rb⟩;have Q9:dK w3 w1.heap.size #[ah] 254:=Ri.kept Rb (by simp;exact Rk);obtain⟨va,vn,vc,rfl⟩:=dL QV.1;obtain⟨k5,k6⟩:=Q9.rules;go_wp2;go_ret;refine⟨_,N',QP,rfl,⟨_,rfl,Q7 _ _ QW⟩,Rj.out w3 N' QP _ l Rp (Q7 _ _ QW) Q9 QV Q6,λt p q=>Q7 _ _ (QR t p q),?_⟩;exact(kq.trans (QX.trans Rb)).freshP kq.size 0 _
end
end
end Go.Proofs.YtfebdimolnobaaaGreatDoor
