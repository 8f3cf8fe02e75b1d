import Derived.Test.YtfebdimolnobaaaGreatDoorFcC
set_option maxRecDepth 100000
set_option maxHeartbeats 8000000
set_option linter.all false
namespace Go.Proofs.YtfebdimolnobaaaGreatDoor
open Go.RowKit Go.Proofs.Tryz
section
open Uq
def OY (k:Nat)(l:List PV):Prop:=l.length<=1099511627776/\∀v∈l,0<=v.1/\v.1<18446744073709551616/\v.2.1.size<=1099511627776/\oT k v.2.2
def DG {α:Type}{p:α->Bool}{l:List α}{i:Nat}{x:α}(hx:l[i]?=some x):(l.take (i+1)).all p=((l.take i).all p&&p x):=by
 rw[bJ,hx];simp
def Gw {α:Type}{p:α->Bool}{l:List α}{i:Nat}(h:(l.take i).all p=false):l.all p=false:=by
 grind
def Gx {S:d8}{n k:Nat}{f:eT}{e:PV}(h:dP S n (et f) e.2.2=true)(hO:oT k e.2.2):DF e:=by
 intro hl
 cases n with
 |zero=>simp[dP]at h
 |succ n=>
  rw[dP,aJ]at h;have h1:=h.1
  cases hfs:e.2.2.fs with
  |nil=>grind
  |cons x rest=>
   rw[hfs,gE]at h1
   cases hf:dR (et f).fs x.1 with
   |none=>grind
   |some fl=>
    rw[hf]at h1;simp only[fy,oG,aJ,ci]at h1;obtain⟨nn,vs⟩:=x
    cases vs with
    |nil=>grind
    |cons ke r=>
     cases k with
     |zero=>exact hO.elim
     |succ k=>
      have:=(hO.2.2 (nn,ke::r) (by grind)).2 ke aV
      grind
def BC {S:d8}{mp:am->Option Nat}{B n:Nat}(H:P3 S mp B n)(w:an)(Z:ap)(v:Value)(l:List PV)(d:MT)(f:eT)(g:GF)(fb:Nat)(deep k:Nat)(cx:sF w B S mp)(hf:eJ w (λb=>b<B) mp g fb)(fg:FG S mp d f g)(hv:pN (iH k w Z) w Z v l)(hO:OY k l)(hd:n+1+deep=9):
  Calls prog 159 #[ag fb,v,aa deep] w (d9 (fy S (dP S n) f l) w):=by
 obtain⟨a,c,rfl⟩:=hv.form;have⟨pv,rv,h1,_,Uy,UL⟩:=hf.blk;obtain⟨pq,rfl⟩:=gq UL;obtain⟨ra,rc,rfl⟩:=iD Uy.1;have⟨k1,k2⟩:=h1.rules;have UG:=hO.1;go_in
 go_upto_region 0 with fail
 go_cut [6]from 9 to 20 (λx wx=>x= .bool (f.isRep||f.isMap)/\wx=w)
 case first=>
  rcases fg.form with q|q|q|q|q<;>rw[q]at k1
  all_goals
   go_wp2;go_meet
   case rel=>exact⟨by rw[fg.rep,fg.map,q];rfl,rfl⟩
 case rest=>
  obtain⟨rfl,rfl⟩:=hcut;obtain⟨mn,Uz⟩:∃mn,(f.isRep||f.isMap)=mn:=⟨_,rfl⟩;have HH:Hid (oG f l=((l.length==1)||(mn&&decide (1<l.length)))):=by rw[<-Uz];rfl
  rw[Uz];clear Uz;go_upto_region 1 with fail
  go_cut []from 21 to 32 (λwx=>Hid (oG f l=true)/\wx=wc)
  case first=>
   by_cases q1:l.length=1
   ·have e1:((l.length:Int)==1)=true:=by grind
    have e2:(l.length==1)=true:=by grind
    clear q1;go_wp2_with (go_at_call 157;refine(gU _).mono ?_;rintro e w2 ⟨rfl,rfl⟩)
    go_meet
    grind
   ·have e1:((l.length:Int)==1)=false:=by grind
    have e2:(l.length==1)=false:=by grind
    cases mn
    ·go_wp2_with (go_at_call 157;refine(gO _).mono ?_;rintro e w2 ⟨rfl,rfl⟩;unfold dL)
     exact⟨rfl,by rw[show fy S (dP S n) f l=false by unfold fy;rw[HH.out,e2];rfl];exact d9.no (Below.refl _ _)⟩
    ·by_cases q2:1<l.length
     ·have e3:decide (1<(l.length:Int))=true:=by grind
      go_wp2_with (go_at_call 157;refine(gU _).mono ?_;rintro e w2 ⟨rfl,rfl⟩)
      go_meet
      grind
     ·have e3:decide (1<(l.length:Int))=false:=by grind
      go_wp2_with (go_at_call 157;refine(gO _).mono ?_;rintro e w2 ⟨rfl,rfl⟩;unfold dL)
      exact⟨rfl,by rw[show fy S (dP S n) f l=false by unfold fy;rw[HH.out,e2,decide_eq_false q2];rfl];exact d9.no (Below.refl _ _)⟩
  case rest=>
   obtain⟨HW,rfl⟩:=hcut;obtain⟨Q,HQ⟩:∃Q,Hid (l.all (er S (dP S n) f)=Q):=⟨_,rfl⟩;obtain⟨UM,UA,UB⟩:=hv;have hfw:=h1.lt
   have HC:Hid (∀(W:an) (x:PV) (mv:Value),aj wc W->x∈l->iH k wc Z mv x.2.2->Ua 239 #[.agg #[aa (eh mp g),.pointer pq],fN x mv,aa deep] W (d9 (er S (dP S n) f x) W)):=λW x mv hW hx hm=>
    BA H W Z mv x d f g fb (.pointer pq) deep k (cx.on (dV hW cx.le)) (hf.keep λb _ q=>hW.block b q) fg (hm.below hW (ay _)) (hO.2 x hx).2.2.2 (hO.2 x hx).1 (hO.2 x hx).2.2.1 ⟨_,h1.below hW h1.lt⟩ hd
   clear k1 k2;go_upto_region 2 with fail
   go_wp2;go_loopw [8,35] (λ_ jv wr=>∃j:Nat,jv=aa j/\j<=l.length/\Hid ((l.take j).all (er S (dP S n) f)=true)/\aj wc wr) (λ_ jv _=>l.length-(intOf jv).toNat)
   case atStart=>exact⟨0,rfl,aL _,rfl,Below.refl _ _⟩
   case round=>
    obtain⟨j,rfl,hj,HA,B⟩:=hrel
    by_cases hlt:j<l.length
    ·have⟨x,hx⟩:=gx hlt;have⟨mv,p1,p2,p3,p4,p5⟩:=UB.get hx;obtain⟨ma,mc,rfl⟩:=p1.form;obtain⟨gv,rfl,UC,Us,Uq⟩:=UA.at Ue;have t0:=Uq wr (B.block _ Us) _ _ p2;have t1:=kX (Uq wr (B.block _ Us) _ _ p3);have t2:=kX (Uq wr (B.block _ Us) _ _ p4);have t3:=kX (Uq wr (B.block _ Us) _ _ p5);have hlj:(j:Int)<(l.length:Int):=Ue;have⟨B1,K1⟩:=dS wr #[.int .u64 x.1,ae x.2.1,.slice ma x.2.2.fs.length mc,ae x.2.2.unk] 55;have B2:=dI B B1;have HX:=HC.out _ x _ B2.drew (aI hx) p1
     have HT:Hid ((l.take (j+1)).all (er S (dP S n) f)=er S (dP S n) f x):=by
      show(l.take (j+1)).all (er S (dP S n) f)=_;rw[DG hx,HA.out,cz]
     have h2:=h1.below B2 h1.lt;obtain⟨q,hq⟩:∃q,er S (dP S n) f x=q:=⟨_,rfl⟩;rw[hq]at HX HT;unfold fN at HX;clear Uq p2 p3 p4 p5 hx hq;go_upto_region 5 with fail
     generalize wr.alloc (ak #[.int .u64 x.1,ae x.2.1,.slice ma x.2.2.fs.length mc,ae x.2.2.unk] 55)=w1 at*;generalize wr.heap.size=vb at*
     have hW:w1.drew.cell? (ai fb 2)=some (aa (eh mp g))/\w1.drew.cell? (ai fb 3)=some (.pointer pq)/\w1.drew.cell? (ai vb 0)=some (.int .u64 x.1)/\w1.drew.cell? (ai vb 1)=some (ae x.2.1)/\w1.drew.cell? (ai vb 2)=some (.slice ma x.2.2.fs.length mc)/\w1.drew.cell? (ai vb 3)=some (ae x.2.2.unk):=
      ⟨h2.drew.cell 2,h2.drew.cell 3,K1.drew.cell 0,K1.drew.cell 1,K1.drew.cell 2,K1.drew.cell 3⟩
     go_region_held2 (λW=>W.cell? (ai fb 2)=some (aa (eh mp g))/\W.cell? (ai fb 3)=some (.pointer pq)/\W.cell? (ai vb 0)=some (.int .u64 x.1)/\W.cell? (ai vb 1)=some (ae x.2.1)/\W.cell? (ai vb 2)=some (.slice ma x.2.2.fs.length mc)/\W.cell? (ai vb 3)=some (ae x.2.2.unk))
      (first|exact hW|exact⟨h3.cell 2,h3.cell 3,K3.cell 0,K3.cell 1,K3.cell 2,K3.cell 3⟩)
      (first
       |(
         go_at_call 239;refine HX.mono ?_;intro e w3 hr
         rcases hr.part with⟨rfl,rfl,b3⟩|⟨rfl,y,z,rfl,b3⟩
         rotate_left
         ·have B4:=dI B2.drew b3;unfold dL;go_wp2;exact⟨rfl,by rw[show fy S (dP S n) f l=false by unfold fy;rw[Gw HT.out,cB];rfl];exact d9.no B4⟩
         have h3:=h2.below (w:=w1.drew) b3 h2.lt
         have K3:=K1.below (w:=w1.drew) b3 K1.lt))
     have B4:=dI B2.drew b3;go_wp2;go_roundw
     case rel=>grind
     case measure=>simp[intOf];omega
    ·obtain rfl:j=l.length:=Ue
     have UD:Hid (l.all (er S (dP S n) f)=true):=by
      show l.all (er S (dP S n) f)=true;have:=HA.out
      rwa [bo]at this
     have HF:Hid (fy S (dP S n) f l=kz S f l):=by
      show fy S (dP S n) f l=_;unfold fy;rw[HW.out,UD.out];rfl
     have h2:=h1.below B h1.lt;have UH:=hf.keep (w':=wr) (λb _ q=>B.block b q)
     have Uu:0<l.length:=by
      cases l with
      |nil=>have:=HW.out;simp[oG]at this
      |cons x r=>simp
     have⟨k1,k2⟩:=h2.rules
     by_cases h4:g.form=4
     ·have hm:f.isMap=true:=by rw[fg.map,h4];rfl
      have e4:(g.form==4)=true:=by grind
      have UE:kz S f l=jc (jI (S.base f.key)) none l:=by unfold kz;rw[dE hm]
      have Ur:Hid (fy S (dP S n) f l=jc (jI (S.base f.key)) none l):=HF.out.trans UE;clear UE HF;have Uv:=(fg.key h4).1;have UI:S.base f.key<=16:=by rw[<-Uv];exact tG mp _
      have UF:=Gc wr _ mp g fb UH h4;rw[fg.eq,Uv]at UF
      cases k with
      |zero=>
       cases l with
       |nil=>simp at Uu
       |cons x r=>exact(hO.2 x aV).2.2.2.elim
      |succ k=>
       have UJ:∀e∈l,DF e:=λe he=>by
        have:=bS.1 UD.out e he;unfold er fB at this;rw[hm]at this;simp only[if_true,aJ]at this;unfold eV at this;rw[dE hm]at this;exact Gx this.2 (hO.2 e he).2.2.2
       have HE:Hid (∀W,aj wc W->Ua 240 #[.slice a l.length c,.bool (jI (S.base f.key))] W (d9 (jc (jI (S.base f.key)) none l) W)):=λW hW=>
        Ak W _ l _ (pN.below hW (ay _) ⟨UM,UA,UB⟩) UJ UG
       have UK:=λW pv=>oB W (S.base f.key) pv UI
       clear Uv;generalize jI (S.base f.key)=sg at*;generalize S.base f.key=kb at*;generalize jc sg none l=r at*;go_wp2_with fail;refine UF.mono ?_;rintro e w2 ⟨UN,rfl,b2⟩;go_wp2_with fail;refine(UK w2 UN).mono ?_;rintro e w3 ⟨rfl,b3⟩;have B3:=dI B (dI b2 b3);go_wp2_with fail;refine(HE.out w3 B3).mono ?_;intro e w4 hr
       rcases hr.part with⟨rfl,rfl,b4⟩|⟨rfl,y,z,rfl,b4⟩
       ·go_wp2;go_end0;rw[Ur.out];exact d9.ok (dI B3 b4)
       ·unfold dL;go_wp2;rw[Ur.out];exact⟨rfl,d9.no (dI B3 b4)⟩
     ·have hm:f.isMap=false:=by rw[fg.map];grind
      have e4:(g.form==4)=false:=by grind
      have Ut:=fg.sin;have Uw:=fg.gb
      by_cases h0:g.form=0/\fB S f≠16
      ·have e0:(g.form==0)=true:=by grind
       have e16:((eh mp g:Int) !=16)=true:=by grind
       have hs0:gG f.how eS=true:=by grind
       have⟨x,hx⟩:=gx Uu
       have Ur:Hid (fy S (dP S n) f l= !(decide (x.1=0)&&om x.2.1)):=by
        refine HF.out.trans ?_;unfold kz
        grind
       have⟨mv,p1,p2,p3,p4,p5⟩:=UB.get hx;obtain⟨ma,mc,rfl⟩:=p1.form;obtain⟨gv,rfl,UC,Us,Uq⟩:=UA.at Ue;have t0:=Uq wr (B.block _ Us) _ _ p2;have t1:=kX (Uq wr (B.block _ Us) _ _ p3);have t2:=kX (Uq wr (B.block _ Us) _ _ p4);have t3:=kX (Uq wr (B.block _ Us) _ _ p5);simp only[Nat.zero_mul,Nx]at t0 t1 t2 t3;have Ux:=Af wr x (.slice ma x.2.2.fs.length mc);unfold fN at Ux;obtain⟨r,hr⟩:∃r,(!(decide (x.1=0)&&om x.2.1))=r:=⟨_,rfl⟩;rw[hr]at Ux Ur;clear hr hx HF Ut Uw;have hl0:(0:Int)<(l.length:Int):=Ue;go_wp2_with fail;refine Ux.mono ?_;intro e w4 hr
       rcases hr.part with⟨rfl,rfl,b4⟩|⟨rfl,y,z,rfl,b4⟩
       ·go_wp2;go_end0;rw[Ur.out];exact d9.ok (dI B b4)
       ·unfold dL;go_wp2;rw[Ur.out];exact⟨rfl,d9.no (dI B b4)⟩
      ·have Ur:Hid (fy S (dP S n) f l=true):=by
        refine HF.out.trans ?_;unfold kz;rw[hm,dD Uf,dD (λq=>h0 ⟨by grind,q.2⟩)]
       by_cases h00:g.form=0
       ·have e0:(g.form==0)=true:=by grind
        have e16:((eh mp g:Int) !=16)=false:=by grind
        clear HF Ut Uw h0 h00;go_wp2;go_end0;rw[Ur.out];exact d9.ok B
       ·have e0:(g.form==0)=false:=by grind
        clear HF Ut Uw h0;go_wp2;go_end0;rw[Ur.out];exact d9.ok B
end
section
variable {S:d8} {d:MT} {f:eT}
def xN {R:MT->PM->Bool}{x:PF}:∀{fs a:List PF},gE S R d a fs=true->x∈fs->∃f,dR d.fs x.1=some f/\fy S R f x.2=true
 | [],_,_,hx=>by simp at hx
 |y::l,a,h,hx=>by
  rw[gE,aJ]at h
  rcases aN.1 hx with rfl|hx
  ·grind
  ·exact xN h.2 hx
def xO {R:MT->PM->Bool}{l:List PV}{v:PV}(h:fy S R f l=true)(hv:v∈l):er S R f v=true:=by
 unfold fy at h
 simp_all
def uh {R:MT->PM->Bool}{v:PV}{t:MT}(h:er S R f v=true)(hb:fB S f=16)(ht:eV S f=some t):R t v.2.2=true:=by
 unfold er at h
 simp_all
def MA (d:MT):Prop:=∀n f,dR d.fs n=some f->0<=f.num/\f.num<=536870911
def DH (S:d8):Prop:=∀t d,S.msg t=some d->MA d
def ui {t:MT}(h:DH S)(hs:eV S f=some t):MA t:=by
 unfold eV at hs
 split at hs
 ·obtain rfl:=Option.some.inj hs;intro n g hg;have⟨_,hg⟩:=eW hg;simp[et]at hg
  rcases hg with rfl|rfl<;>simp
 ·exact h _ _ hs
end
section
variable {α:Type} {g:α->List UInt8} {l:List α}
def vV {x:α}(h:x∈l):(g x).length<=(l.flatMap g).length:=by
 induction l with
 |nil=>grind
 |cons y l ih=>
  grind
def fM {i:Nat}{x:α}(h:l[i]?=some x):(l.take (i+1)).flatMap g=(l.take i).flatMap g++g x:=by
 rw[bJ,h];simp
def ip (i:Nat):((l.take i).flatMap g).length<=(l.flatMap g).length:=by
 conv=>rhs;rw[<-ca i l]
 grind
def sN (t:List UInt8):(l.flatMap λv=>t++g v).length=t.length*l.length+(l.flatMap g).length:=by
 induction l with
 |nil=>simp
 |cons y l ih=>
  grind
end
def qr (x:List UInt8):x.length<=(eZ x).length:=by unfold eZ;simp
def gP (x:List UInt8)(w:an)(e:Ending)(w':an):Prop:=e= .returned (aa x.length)/\aj w w'
section
open Uq
structure Kz (v:Value)(f:Nat)(cap:aq):Prop where
 eq:v= .func (.func f) #[] cap.toArray
 en:∀args w,(callFunc f args).run prog w= .ok (.enter f args) w
def Kp (Q:ap)(w W:an):Prop:=∀b,Q b->b<w.heap.size->W.heap[b]?=w.heap[b]?
def Kp.bx {Q:ap}{w W:an}(h:Kp Q w W){b:Nat}{cs:Array Value}{T:TypeId}(q:Q b)(hb:dM w b cs T):dM W b cs T:=(h b q hb.lt).trans hb
def MB (p:PV->Bool)(n:Nat)(f:Nat)(cap:aq)(W:an):Prop:=
 ∀(W':an) (Z:ap) (x:PV) (mv:Value) (k deep:Nat),Below W.heap.size W W'->iH k W' Z mv x.2.2->oT k x.2.2->0<=x.1->x.1<18446744073709551616->x.2.1.size<=1099511627776->n+1+deep=9->
  Ua f (fN x mv::aa deep::cap).toArray W' (d9 (p x) W')
def ND (q:List PV->Bool)(n:Nat)(f:Nat)(cap:aq)(W:an):Prop:=
 ∀(W':an) (Z:ap) (vv:Value) (l:List PV) (k deep:Nat),Below W.heap.size W W'->pN (iH k W' Z) W' Z vv l->OY k l->n+1+deep=9->
  Ua f (vv::aa deep::cap).toArray W' (d9 (q l) W')
def H9 (S:d8)(iq:aw)(n:Nat)(t:MT)(W:an):Prop:=
 ∀(W':an) (Z:ap) (v:Value) (m:PM) (k deep:Nat),Below W.heap.size W W'->iH k W' Z v m->oT k m->n+deep=9->
  Ua 103 #[.pointer iq,.agg #[v,ae m.unk],aa deep] W' (d9 (dP S n t m) W')
def Al (w:an):Ua 157 #[.bool true] w λe w'=>e= .returned (.tuple #[])/\w=w':=(gU w).mono λ_ _ h=>⟨h.1,h.2.symm⟩
def Am (w:an):Ua 157 #[.bool false] w λe w'=>e=dL 12 0/\w=w':=(gO w).mono λ_ _ h=>⟨h.1,h.2.symm⟩
section
variable {p:PV->Bool} {n:Nat} {W:an}
def KH (vb vf:Nat)(vcap:aq)(hb:dM W vb #[.func (.func vf) #[] vcap.toArray] 398)(hen:∀args w,(callFunc vf args).run prog w= .ok (.enter vf args) w)(H:MB p n vf vcap W):
  ND (λl=>(l.length==1)&&l.all p) n 367 [ag vb] W:=by
 intro W' Z vv l k deep B hv hO hd;show Ua 367 #[vv,aa deep,ag vb] W' (d9 ((l.length==1)&&l.all p) W');obtain⟨R,HR⟩:∃R,Hid (((l.length==1)&&l.all p)=R):=⟨_,rfl⟩;rw[HR.out];obtain⟨a,c,rfl⟩:=hv.form;have Ur:=hb.below B hb.lt
 by_cases h1:l.length=1
 ·have e1:((l.length:Int)==1)=true:=Ug;obtain⟨x,rfl⟩:=List.length_eq_one_iff.1 h1;obtain⟨Uv,Uw,Ux⟩:=hv;have⟨mv,p1,p2,p3,p4,p5⟩:=Ux.get (i:=0) (v:=x) rfl;obtain⟨ma,mc,rfl⟩:=p1.form;obtain⟨gv,rfl,Uy,Us,Uq⟩:=Uw.at Uf;have t0:=Uq W'.drew rfl _ _ p2;have t1:=kX (Uq W'.drew rfl _ _ p3);have t2:=kX (Uq W'.drew rfl _ _ p4);have t3:=kX (Uq W'.drew rfl _ _ p5);simp only[Nat.zero_mul,Nx]at t0 t1 t2 t3;have Ut:=hO.2 x aV;have HX:=H W'.drew Z x _ k deep B.drew (p1.below (Below.refl _ _).drew (ay _)) Ut.2.2.2 Ut.1 Ut.2.1 Ut.2.2.1 hd;unfold fN at HX
  have HP:Hid (R=p x):=by
   show R=p x;rw[<-HR.out];simp
  generalize p x=r at*;have b0:Below W'.heap.size W' W'.drew:=(Below.refl _ _).drew;have hW:W'.drew.cell? (ai vb 0)=some (.func (.func vf) #[] vcap.toArray)/\W'.drew.cell? gv=some (.int .u64 x.1)/\W'.drew.cell? (ai gv.block (gv.off+1))=some (ae x.2.1)/\W'.drew.cell? (ai gv.block (gv.off+2))=some (.slice ma x.2.2.fs.length mc)/\W'.drew.cell? (ai gv.block (gv.off+3))=some (ae x.2.2.unk):=⟨Ur.drew.cell 0,t0,t1,t2,t3⟩;clear h1;go_enter func367,ntmps367;go_upto_region 1 with(go_at_call 157;refine(Al _).mono ?_;rintro e w2 ⟨rfl,rfl⟩)
  go_region_held2 (λW=>W.cell? (ai vb 0)=some (.func (.func vf) #[] vcap.toArray)/\W.cell? gv=some (.int .u64 x.1)/\W.cell? (ai gv.block (gv.off+1))=some (ae x.2.1)/\W.cell? (ai gv.block (gv.off+2))=some (.slice ma x.2.2.fs.length mc)/\W.cell? (ai gv.block (gv.off+3))=some (ae x.2.2.unk))
   (first|exact hW|exact UB)
   (first
    |(
      refine HX.mono ?_;intro e w3 hr
      rcases hr.part with⟨rfl,rfl,b3⟩|⟨rfl,y,z,rfl,b3⟩
      rotate_left
      ·have b4:=dI b0 b3;unfold dL;go_wp2;rw[HP.out];exact⟨rfl,d9.no b4⟩
      have UB:w3.cell? (ai vb 0)=some (.func (.func vf) #[] vcap.toArray)/\w3.cell? gv=some (.int .u64 x.1)/\w3.cell? (ai gv.block (gv.off+1))=some (ae x.2.1)/\w3.cell? (ai gv.block (gv.off+2))=some (.slice ma x.2.2.fs.length mc)/\w3.cell? (ai gv.block (gv.off+3))=some (ae x.2.2.unk):=⟨(Ur.drew.below b3 Ur.drew.lt).cell 0,(b3.cell (p:=gv) Us).trans t0,(b3.cell (p:=(ai gv.block (gv.off+1))) Us).trans t1,(b3.cell (p:=(ai gv.block (gv.off+2))) Us).trans t2,(b3.cell (p:=(ai gv.block (gv.off+3))) Us).trans t3⟩))
  go_wp2;go_end0;rw[HP.out];exact d9.ok (dI b0 b3)
 ·have e1:((l.length:Int)==1)=false:=Ug
  have HP:Hid (R=false):=by
   show R=false;rw[<-HR.out];simp[h1]
  go_enter func367,ntmps367;go_wp2_with (go_at_call 157;refine(Am _).mono ?_;rintro e w2 ⟨rfl,rfl⟩;unfold dL)
  rw[HP.out];exact⟨rfl,d9.no (Below.refl _ _)⟩
def KJ (vb vf:Nat)(vcap:aq)(hb:dM W vb #[.func (.func vf) #[] vcap.toArray] 398)(hen:∀args w,(callFunc vf args).run prog w= .ok (.enter vf args) w)(H:MB p n vf vcap W):
  ND (λl=>decide (0<l.length)&&l.all p) n 366 [ag vb] W:=by
 intro W' Z vv l k deep B hv hO hd;show Ua 366 #[vv,aa deep,ag vb] W' (d9 (decide (0<l.length)&&l.all p) W');obtain⟨R,HR⟩:∃R,Hid ((decide (0<l.length)&&l.all p)=R):=⟨_,rfl⟩;rw[HR.out];obtain⟨a,c,rfl⟩:=hv.form;have Ur:=hb.below B hb.lt;have hll:=hO.1
 by_cases h1:0<l.length
 ·have e1:decide (0<(l.length:Int))=true:=Ug;obtain⟨Uv,Uw,Ux⟩:=hv
  have HP:Hid (R=l.all p):=by
   show R=l.all p;rw[<-HR.out,decide_eq_true h1,cz]
  have HC:Hid (∀(W2:an) (x:PV) (mv:Value),Below W'.heap.size W' W2->x∈l->iH k W' Z mv x.2.2->Ua vf (fN x mv::aa deep::vcap).toArray W2 (d9 (p x) W2)):=λW2 x mv h2 hx hm=>
   H W2 Z x mv k deep (dI B h2) (hm.below h2 (ay _)) (hO.2 x hx).2.2.2 (hO.2 x hx).1 (hO.2 x hx).2.1 (hO.2 x hx).2.2.1 hd
  go_enter func366,ntmps366;go_wp2_with (go_at_call 157;refine(Al _).mono ?_;rintro e w2 ⟨rfl,rfl⟩)
  go_loopw [6,13] (λ_ jv wr=>∃j:Nat,jv=aa j/\j<=l.length/\Hid ((l.take j).all p=true)/\Below W'.heap.size W' wr) (λ_ jv _=>l.length-(intOf jv).toNat)
  case atStart=>exact⟨0,rfl,aL _,rfl,Below.refl _ _⟩
  case round=>
   obtain⟨j,rfl,hj,HA,Bj⟩:=hrel
   by_cases hlt:j<l.length
   ·have⟨x,hx⟩:=gx hlt;have⟨mv,p1,p2,p3,p4,p5⟩:=Ux.get hx;obtain⟨ma,mc,rfl⟩:=p1.form;obtain⟨gv,rfl,Uy,Us,Uq⟩:=Uw.at Ue;have t0:=Uq wr (Bj.block _ Us) _ _ p2;have t1:=kX (Uq wr (Bj.block _ Us) _ _ p3);have t2:=kX (Uq wr (Bj.block _ Us) _ _ p4);have t3:=kX (Uq wr (Bj.block _ Us) _ _ p5);have hlj:(j:Int)<(l.length:Int):=Ue;have⟨B1,K1⟩:=dS wr #[.int .u64 x.1,ae x.2.1,.slice ma x.2.2.fs.length mc,ae x.2.2.unk] 55;have B2:=dI Bj B1;have HX:=HC.out _ x _ B2 (aI hx) p1;unfold fN at HX;have Uu:=Ur.below B2 Ur.lt
    have HT:Hid ((l.take (j+1)).all p=p x):=by
     show(l.take (j+1)).all p=_;rw[DG hx,HA.out,cz]
    generalize p x=r at*;have⟨k1,k2⟩:=K1.rules;have⟨k3,k4⟩:=Uu.rules;clear Uq p2 p3 p4 p5 hx;go_wp2_with fail;refine HX.mono ?_;intro e w3 hr
    rcases hr.part with⟨rfl,rfl,b3⟩|⟨rfl,y,z,rfl,b3⟩
    ·go_wp2;go_roundw
     case rel=>exact⟨j+1,by go_num,Ue,HT.out,dI B2 b3⟩
     case measure=>simp[intOf];omega
    ·unfold dL;go_wp2;rw[HP.out,Gw HT.out];exact⟨rfl,d9.no (dI B2 b3)⟩
   ·obtain rfl:j=l.length:=Ue
    have UC:Hid (l.all p=true):=by
     show l.all p=true;have:=HA.out
     rwa [bo]at this
    go_wp2;go_end0;rw[HP.out,UC.out];exact d9.ok Bj
 ·have e1:decide (0<(l.length:Int))=false:=decide_eq_false Ue
  have HP:Hid (R=false):=by
   show R=false;rw[<-HR.out,decide_eq_false h1,cA]
  go_enter func366,ntmps366;go_wp2_with (go_at_call 157;refine(Am _).mono ?_;rintro e w2 ⟨rfl,rfl⟩;unfold dL)
  rw[HP.out];exact⟨rfl,d9.no (Below.refl _ _)⟩
def Ia {q:List PV->Bool}(eb ef sb:Nat)(ecap:aq)(sg:Bool)(hb:dM W eb #[.func (.func ef) #[] ecap.toArray] 260)(hsb:dM W sb #[.bool sg] 4)(hen:∀args w,(callFunc ef args).run prog w= .ok (.enter ef args) w)(H:ND q n ef ecap W)
  (hq:∀l k,OY k l->q l=true->∀e∈l,DF e):
  ND (λl=>q l&&jc sg none l) n 365 [ag eb,ag sb] W:=by
 intro W' Z vv l k deep B hv hO hd;show Ua 365 #[vv,aa deep,ag eb,ag sb] W' (d9 (q l&&jc sg none l) W');obtain⟨a,c,rfl⟩:=hv.form;have Ur:=hb.below B hb.lt;have UA:=hsb.below B hsb.lt
 have UD:∀W2,Below W'.heap.size W' W2->pN (iH (k-1+1) W2 Z) W2 Z (.slice a l.length c) l:=λW2 h2=>by
  have:=pN.below h2 (ay _) hv
  cases k with
  |zero=>
   obtain⟨Uv,q1,q2⟩:=this;refine⟨Uv,q1,?_⟩
   cases l with
   |nil=>exact q2
   |cons x r=>exact(hO.2 x aV).2.2.2.elim
  |succ k=>exact this
 have HE:Hid (q l=true->∀W2,Below W'.heap.size W' W2->Ua 240 #[.slice a l.length c,.bool sg] W2 (d9 (jc sg none l) W2)):=λhl W2 h2=>
  Ak W2 _ l sg (UD W2 h2) (hq l k hO hl) hO.1
 have HX:=H W' Z _ l k deep B hv hO hd;generalize q l=ql at*;generalize jc sg none l=r at*;have⟨k1,k2⟩:=Ur.rules;go_enter func365,ntmps365;go_wp2_with fail;refine HX.mono ?_;intro e w2 hr
 rcases hr.part with⟨rfl,rfl,b2⟩|⟨rfl,y,z,rfl,b2⟩
 ·have UE:=UA.below b2 UA.lt;clear k1 k2;have⟨k1,k2⟩:=UE.rules;go_wp2_with fail;refine(HE.out trivial w2 b2).mono ?_;intro e w3 Uz
  rcases Uz.part with⟨rfl,rfl,b3⟩|⟨rfl,y,z,rfl,b3⟩
  ·go_wp2;go_end0;exact d9.ok (dI b2 b3)
  ·unfold dL;go_wp2;exact⟨rfl,d9.no (dI b2 b3)⟩
 ·unfold dL;go_wp2;exact⟨rfl,d9.no b2⟩
def Ib (vb vf:Nat)(vcap:aq)(hb:dM W vb #[.func (.func vf) #[] vcap.toArray] 398)(hen:∀args w,(callFunc vf args).run prog w= .ok (.enter vf args) w)(H:MB p n vf vcap W):
  MB (λx=> !(decide (x.1=0)&&om x.2.1)&&p x) n 288 [ag vb] W:=by
 intro W' Z x mv k deep B hm hO h0 h1 h2 hd;show Ua 288 #[fN x mv,aa deep,ag vb] W' (d9 (!(decide (x.1=0)&&om x.2.1)&&p x) W');obtain⟨ma,mc,rfl⟩:=hm.form;have Ur:=hb.below B hb.lt;have⟨B1,K1⟩:=dS W' #[.int .u64 x.1,ae x.2.1,.slice ma x.2.2.fs.length mc,ae x.2.2.unk] 55;have HN:=Af (W'.alloc (ak #[.int .u64 x.1,ae x.2.1,.slice ma x.2.2.fs.length mc,ae x.2.2.unk] 55)) x (.slice ma x.2.2.fs.length mc);have HX:Hid (∀W2,Below W'.heap.size W' W2->Ua vf (fN x (.slice ma x.2.2.fs.length mc)::aa deep::vcap).toArray W2 (d9 (p x) W2)):=λW2 h3=>H W2 Z x _ k deep (dI B h3) (hm.below h3 (ay _)) hO h0 h1 h2 hd
 unfold fN at*;generalize p x=r at*;generalize(!(decide (x.1=0)&&om x.2.1))=s at*;have⟨k1,k2⟩:=K1.rules;go_enter func288,ntmps288;go_wp2_with fail;refine HN.mono ?_;intro e w2 hr;generalize W'.alloc (ak #[.int .u64 x.1,ae x.2.1,.slice ma x.2.2.fs.length mc,ae x.2.2.unk] 55)=w1 at*
 rcases hr.part with⟨rfl,rfl,b2⟩|⟨rfl,y,z,rfl,b2⟩
 ·have B2:=dI B1 b2;have Uu:=Ur.below B2 Ur.lt;have K2:=K1.below b2 K1.lt;clear k1 k2;have⟨k1,k2⟩:=K2.rules;have⟨k3,k4⟩:=Uu.rules;go_wp2_with fail;refine(HX.out w2 B2).mono ?_;intro e w3 Uz
  rcases Uz.part with⟨rfl,rfl,b3⟩|⟨rfl,y,z,rfl,b3⟩
  ·go_wp2;go_end0;exact d9.ok (dI B2 b3)
  ·unfold dL;go_wp2;exact⟨rfl,d9.no (dI B2 b3)⟩
 ·unfold dL;go_wp2;exact⟨rfl,d9.no (dI B1 b2)⟩
end
section
variable {w w':an} {Q Q':ap}
theorem P4 (r:Bool)(w:an):Ua 157 #[.bool r] w (d9 r w):=by
 cases r
 ·exact(Am w).mono λ_ _ h=>by obtain⟨rfl,rfl⟩:=h;exact d9.no (Below.refl _ _)
 ·exact(Al w).mono λ_ _ h=>by obtain⟨rfl,rfl⟩:=h;exact d9.ok (Below.refl _ _)
section
variable {S:d8} {fl:eT} {n:Nat} {W:an}
theorem St (ib:Nat)(iq:aw)(t:MT)(hb:dM W ib #[.pointer iq] 116)(H:H9 S iq n t W)(h16:fB S fl=16)(hsub:eV S fl=some t):
  MB (er S (dP S n) fl) n 360 [ag ib] W:=by
 intro W' Z x mv k deep B hm hO h0 h1 h2 hd;show Ua 360 #[fN x mv,aa deep,ag ib] W' (d9 (er S (dP S n) fl x) W');have hp:er S (dP S n) fl x=((decide (x.1=0)&&om x.2.1)&&dP S n t x.2.2):=by unfold er;rw[dE h16,hsub]
 rw[hp];obtain⟨ma,mc,rfl⟩:=hm.form;have Uq:=hb.below B hb.lt;have⟨B1,K1⟩:=dS W' #[.int .u64 x.1,ae x.2.1,.slice ma x.2.2.fs.length mc,ae x.2.2.unk] 55;have HN:=OX (W'.alloc (ak #[.int .u64 x.1,ae x.2.1,.slice ma x.2.2.fs.length mc,ae x.2.2.unk] 55)) x (.slice ma x.2.2.fs.length mc)
 have HX:Hid (∀W2,Below W'.heap.size W' W2->Ua 103 #[.pointer iq,.agg #[.slice ma x.2.2.fs.length mc,ae x.2.2.unk],aa ((deep:Int)+1)] W2 (d9 (dP S n t x.2.2) W2)):=λW2 h3=>by
  have:=H W2 Z _ x.2.2 k (deep+1) (dI B h3) (hm.below h3 (ay _)) hO Ue
  rwa [show(((deep+1:Nat):Int))=(deep:Int)+1 by omega]at this
 have hd9:(deep:Int)<=9:=Ue;unfold fN at*;clear hp;generalize dP S n t x.2.2=r at*;generalize(decide (x.1=0)&&om x.2.1)=s at*;have⟨k1,k2⟩:=K1.rules;go_enter func360,ntmps360;go_wp2_with fail;refine HN.mono ?_;intro e w2 hr;generalize W'.alloc (ak #[.int .u64 x.1,ae x.2.1,.slice ma x.2.2.fs.length mc,ae x.2.2.unk] 55)=w1 at*
 rcases hr.part with⟨rfl,rfl,b2⟩|⟨rfl,y,z,rfl,b2⟩
 ·have B2:=dI B1 b2;have Ur:=Uq.below B2 Uq.lt;have K2:=K1.below b2 K1.lt;clear k1 k2;have⟨k1,k2⟩:=K2.rules;have⟨k3,k4⟩:=Ur.rules;go_wp2_with fail;refine(HX.out w2 B2).mono ?_;intro e w3 Us
  rcases Us.part with⟨rfl,rfl,b3⟩|⟨rfl,y,z,rfl,b3⟩
  ·go_wp2;go_end0;exact d9.ok (dI B2 b3)
  ·unfold dL;go_wp2;exact⟨rfl,d9.no (dI B2 b3)⟩
 ·unfold dL;go_wp2;exact⟨rfl,d9.no (dI B1 b2)⟩
theorem Su (hu:∀W',Below W.heap.size W W'->UOK W')(h13:fB S fl=13):MB (er S (dP S n) fl) n 361 [] W:=by
 intro W' Z x mv k deep B hm hO h0 h1 h2 hd;show Ua 361 #[fN x mv,aa deep] W' (d9 (er S (dP S n) fl x) W');have hp:er S (dP S n) fl x=((decide (x.1=0)&&yF x.2.2)&&Lib.validD x.2.1.data.toList):=by unfold er;rw[h13];rfl
 rw[hp];obtain⟨ma,mc,rfl⟩:=hm.form;have⟨B1,K1⟩:=dS W' #[.int .u64 x.1,ae x.2.1,.slice ma x.2.2.fs.length mc,ae x.2.2.unk] 55;have HN:=Fa (W'.alloc (ak #[.int .u64 x.1,ae x.2.1,.slice ma x.2.2.fs.length mc,ae x.2.2.unk] 55)) x ma mc;have HV:Hid (∀W2,Below W'.heap.size W' W2->Ua 325 #[ae x.2.1] W2 λe w'=>e= .returned (.bool (Lib.validD x.2.1.data.toList))/\Below W2.heap.size W2 w'):=λW2 h3=>AU W2 x.2.1 Ue (hu W2 (dI B h3))
 unfold fN at*;clear hp;generalize Lib.validD x.2.1.data.toList=r at*;generalize(decide (x.1=0)&&yF x.2.2)=s at*;have⟨k1,k2⟩:=K1.rules;go_enter func361,ntmps361;go_wp2_with fail;refine HN.mono ?_;intro e w2 hr;generalize W'.alloc (ak #[.int .u64 x.1,ae x.2.1,.slice ma x.2.2.fs.length mc,ae x.2.2.unk] 55)=w1 at*
 rcases hr.part with⟨rfl,rfl,b2⟩|⟨rfl,y,z,rfl,b2⟩
 ·have B2:=dI B1 b2;have K2:=K1.below b2 K1.lt;clear k1 k2;have⟨k1,k2⟩:=K2.rules;go_wp2_with fail;refine(HV.out w2 B2).mono ?_;rintro e w3 ⟨rfl,b3⟩
  cases r
  ·go_wp2_with (go_at_call 157;refine(Am _).mono ?_;rintro e w2 ⟨rfl,rfl⟩;unfold dL)
   exact⟨rfl,d9.no (dI B2 b3)⟩
  ·go_wp2_with (go_at_call 157;refine(Al _).mono ?_;rintro e w2 ⟨rfl,rfl⟩)
   go_end0;exact d9.ok (dI B2 b3)
 ·unfold dL;go_wp2;exact⟨rfl,d9.no (dI B1 b2)⟩
theorem Sv (h14:fB S fl=14):MB (er S (dP S n) fl) n 362 [] W:=by
 intro W' Z x mv k deep B hm hO h0 h1 h2 hd;show Ua 362 #[fN x mv,aa deep] W' (d9 (er S (dP S n) fl x) W');have hp:er S (dP S n) fl x=(decide (x.1=0)&&yF x.2.2):=by unfold er;rw[h14];rfl
 rw[hp];obtain⟨ma,mc,rfl⟩:=hm.form;have⟨B1,K1⟩:=dS W' #[.int .u64 x.1,ae x.2.1,.slice ma x.2.2.fs.length mc,ae x.2.2.unk] 55;have HN:=Fa (W'.alloc (ak #[.int .u64 x.1,ae x.2.1,.slice ma x.2.2.fs.length mc,ae x.2.2.unk] 55)) x ma mc;unfold fN at*;clear hp;generalize(decide (x.1=0)&&yF x.2.2)=s at*;have⟨k1,k2⟩:=K1.rules;go_enter func362,ntmps362;go_wp2_with fail;refine HN.mono ?_;intro e w2 hr
 rcases hr.part with⟨rfl,rfl,b2⟩|⟨rfl,y,z,rfl,b2⟩
 ·go_wp2;go_end0;exact d9.ok (dI B1 b2)
 ·unfold dL;go_wp2;exact⟨rfl,d9.no (dI B1 b2)⟩
theorem Sw (cb cf:Nat)(cut:Int->Int)(hb:dM W cb #[.func (.func cf) #[] #[]] 423)(hen:∀args w,(callFunc cf args).run prog w= .ok (.enter cf args) w)(hc:∀(W:an) (x:Int),0<=x->x<18446744073709551616->Ua cf #[.int .u64 x] W λe w'=>e= .returned (.int .u64 (cut x))/\W=w')
  (he:∀x,(cut x==x)=Cr (fB S fl) x) (h16:fB S fl≠16) (h13:fB S fl≠13) (h14:fB S fl≠14):MB (er S (dP S n) fl) n 364 [ag cb] W:=by
 intro W' Z x mv k deep B hm hO h0 h1 h2 hd;show Ua 364 #[fN x mv,aa deep,ag cb] W' (d9 (er S (dP S n) fl x) W');have hp:er S (dP S n) fl x=((om x.2.1&&yF x.2.2)&&Cr (fB S fl) x.1):=by unfold er;rw[dD h16,dD h13,dD h14]
 rw[hp];obtain⟨ma,mc,rfl⟩:=hm.form;have Uq:=hb.below B hb.lt;have⟨B1,K1⟩:=dS W' #[.int .u64 x.1,ae x.2.1,.slice ma x.2.2.fs.length mc,ae x.2.2.unk] 55;have HN:=DD (W'.alloc (ak #[.int .u64 x.1,ae x.2.1,.slice ma x.2.2.fs.length mc,ae x.2.2.unk] 55)) x ma mc;have HC:=λW=>hc W x.1 h0 h1
 have hx:=he x.1;unfold fN at*;clear hp hc he;generalize Cr (fB S fl) x.1=r at*;generalize cut x.1=cx at*;generalize(om x.2.1&&yF x.2.2)=s at*;have⟨k1,k2⟩:=K1.rules;go_enter func364,ntmps364;go_wp2_with fail;refine HN.mono ?_;intro e w2 hr;generalize W'.alloc (ak #[.int .u64 x.1,ae x.2.1,.slice ma x.2.2.fs.length mc,ae x.2.2.unk] 55)=w1 at*
 rcases hr.part with⟨rfl,rfl,b2⟩|⟨rfl,y,z,rfl,b2⟩
 ·have B2:=dI B1 b2;have Ur:=Uq.below B2 Uq.lt;have K2:=K1.below b2 K1.lt;have b0:aj w2 w2.drew:=(Below.refl _ _).drew;have B3:=dI B2 b0;clear k1 k2;have hW:w2.drew.cell? (ai cb 0)=some (.func (.func cf) #[] #[])/\w2.drew.cell? (ai W'.heap.size 0)=some (.int .u64 x.1):=⟨Ur.drew.cell 0,K2.drew.cell 0⟩;have Ut:=HC w2.drew;go_upto_region 2 with fail
  go_region_held2 (λW=>W.cell? (ai cb 0)=some (.func (.func cf) #[] #[])/\W.cell? (ai W'.heap.size 0)=some (.int .u64 x.1))
   (first|exact Uu|exact hW)
   (first
    |(
      go_at_call 157;refine(P4 r _).mono ?_;intro e w3 Us
      rcases Us.part with⟨rfl,rfl,b3⟩|⟨rfl,y,z,rfl,b3⟩
      rotate_left
      ·have B4:=dI B3 b3;unfold dL;go_wp2;exact⟨rfl,d9.no B4⟩
      have Uu:w3.cell? (ai cb 0)=some (.func (.func cf) #[] #[])/\w3.cell? (ai W'.heap.size 0)=some (.int .u64 x.1):=⟨(Ur.drew.below b3 Ur.drew.lt).cell 0,(K2.drew.below b3 K2.drew.lt).cell 0⟩)
    |(
      refine Ut.mono ?_
      rintro e w3 ⟨rfl,rfl⟩))
  all_goals
   go_wp2;go_end0;exact d9.ok (dI B3 b3)
 ·unfold dL;go_wp2;exact⟨rfl,d9.no (dI B1 b2)⟩
end
def Rr (w:an)(Q:ap)(b:Nat)(iq:aw)(v:Value):Prop:=
 ∃f cap,Kz v f cap/\∀(S:d8) (fl:eT) (n:Nat) (W:an),Kp Q w W->fB S fl=b->(∀W',Below W.heap.size W W'->UOK W')->(fB S fl=16->∃t,eV S fl=some t/\H9 S iq n t W)->MB (er S (dP S n) fl) n f cap W
def Ic (w:an)(Q:ap)(mp:am->Option Nat)(g:GF)(iq:aw)(v:Value):Prop:=
 ∃f cap,Kz v f cap/\∀(S:d8) (d:MT) (fl:eT) (n:Nat) (W:an),Kp Q w W->FG S mp d fl g->(∀W',Below W.heap.size W W'->UOK W')->(fB S fl=16->∃t,eV S fl=some t/\H9 S iq n t W)->ND (fy S (dP S n) fl) n f cap W
def Mv (w:an)(Q:ap)(w':an)(Q':ap):Prop:=∀b,Q b->b<w.heap.size->Q' b/\w'.heap[b]?=w.heap[b]?
theorem Mv.keep (hk:∀b,Q b->b<w.heap.size->w'.heap[b]?=w.heap[b]?):Mv w Q w' Q:=λb q l=>⟨q,hk b q l⟩
theorem Mv.mono (hk:∀b,Q b->b<w.heap.size->Q' b):Mv w Q w Q':=λb q l=>⟨hk b q l,rfl⟩
theorem Mv.lt (h:Mv w Q w' Q'){b:Nat}(q:Q b)(l:b<w.heap.size):b<w'.heap.size:=by
 have:=(h b q l).2;rw[bF l]at this;exact(bA.1 this).1
theorem Kp.mv {W:an}(hk:Kp Q' w' W)(h:Mv w Q w' Q'):Kp Q w W:=λb q l=>(hk b (h b q l).1 (h.lt q l)).trans (h b q l).2
theorem Ic.move {mp:am->Option Nat}{g:GF}{iq:aw}{v:Value}(hk:Mv w Q w' Q')(h:Ic w Q mp g iq v):Ic w' Q' mp g iq v:=by
 obtain⟨f,cap,h1,h2⟩:=h;exact⟨f,cap,h1,λS d fl n W q=>h2 S d fl n W (q.mv hk)⟩
end
section
variable {S:d8} {mp:am->Option Nat}
theorem vW {v:Int}(h0:0<=v)(h1:v<18446744073709551616):0<=Bu v/\Bu v<18446744073709551616:=by
 unfold Bu
 split<;>omega
def NE (S:d8)(mp:am->Option Nat)(B n:Nat):Prop:=
 ∀(w:an) (Z:ap) (v:Value) (m:PM) (d:MT) (mb:Nat) (gs:List GF) (nm:am) (k:Nat),sF w B S mp->iE w (λb=>b<B) mp mb nm gs->kG S mp d gs->MA d->iH k w Z v m->oT k m->dP S n d m=true->(ed S n d m).length<=140737488355328->
  Ua 102 #[ag mb,.agg #[v,ae m.unk]] w (gP (ed S n d m) w)
theorem NF {B n:Nat}(H:NE S mp B n)(hN:DH S)(w:an)(Z:ap)(mv:Value)(x:PV)(d:MT)(f:eT)(g:GF)(fb:Nat)(pv:Value)(k:Nat)(cx:sF w B S mp)(hf:eJ w (λb=>b<B) mp g fb)(fg:FG S mp d f g)(hM:iH k w Z mv x.2.2)(hO:oT k x.2.2)(h0:0<=x.1)(h1:x.1<18446744073709551616)
  (hpv:∃rv,dM w fb #[aa g.f.num,aa g.form,aa (eh mp g),pv,rv] 220) (hs:er S (dP S n) f x=true) (hl:(fS S (ed S n) f x).length<=140737488355328):
  Calls prog 317 #[.agg #[aa (eh mp g),pv],fN x mv] w (gP (fS S (ed S n) f x) w):=by
 obtain⟨ma,mc,rfl⟩:=hM.form;have Uy:=Kx fg;unfold fN;rw[fg.gb]
 by_cases h16:fB S f=16
 ·have⟨t,mb,gs,nm,rv,Ur,Uu,Uz,UA⟩:=Fe cx hf fg h16;obtain⟨rv2,Uv⟩:=hpv
  obtain rfl:pv=ag mb:=by
   have:=(dM.cell Uu 3).symm.trans (dM.cell Uv 3);simpa using this.symm
  have hb:fS S (ed S n) f x=eZ (ed S n t x.2.2):=by unfold fS;rw[dE h16,Ur]
  have hR:=uh hs h16 Ur;rw[hb]at hl;have Us:=aG (qr _) hl;rw[hb,h16];have⟨B0,KT,KV⟩:=gH w #[aa 16,ag mb] #[.int .u64 x.1,ae x.2.1,.slice ma x.2.2.fs.length mc,ae x.2.2.unk] 216 55;have HC:=H _ Z _ x.2.2 t mb gs nm k (cx.on (dV B0 cx.le)) (Uz.keep λb q _=>B0.block b (by have:=cx.le;omega)) UA (ui hN Ur) (hM.below B0 (ay _)) hO hR Us;have HL:=λW=>ug W (ed S n t x.2.2) Us
  unfold gP;generalize ed S n t x.2.2=y at*;have⟨k1,k2⟩:=KT.rules;have⟨k3,k4⟩:=KV.rules;clear Uu Uv H;go_in
  go_wp2_with fail;refine HC.mono ?_;rintro e w2 ⟨rfl,b2⟩;go_wp2_with fail;refine(HL w2).mono ?_;rintro e w3 ⟨rfl,rfl⟩;go_wp2;go_ret;exact⟨rfl,dI B0 b2⟩
 ·have⟨Uw,Ux⟩:=vW h0 h1;have HL:=λW=>ug W x.2.1.data.toList
  rw[show x.2.1.data.toList.length=x.2.1.size by simp]at HL;have HV:=λW=>nY W x.1 h0 h1
  have HZ:=λW=>sL W x.1 h0 h1
  have HY:=λW=>nY W (Bu x.1) Uw Ux
  have⟨B0,KT,KV⟩:=gH w #[aa (fB S f),pv] #[.int .u64 x.1,ae x.2.1,.slice ma x.2.2.fs.length mc,ae x.2.2.unk] 216 55;clear hs H hpv Uw Ux;unfold gP
  rcases Ah Uy with q|q|q|q|q|q|q|q|q|q|q|q|q|q|q|q|q
  case inr.inr.inr.inr.inr.inr.inr.inr.inr.inr.inr.inr.inr.inr.inr.inr=>exact absurd q h16
  all_goals
   rw[q]at B0 KT KV;have⟨k1,k2⟩:=KT.rules;have⟨k3,k4⟩:=KV.rules;clear h16;unfold fS at hl⊢;simp only[q,Nat.reduceEqDiff,if_false,if_true,or_self,or_true,or_false]at hl⊢
   try rw[ia]
   try (have Us:x.2.1.size<=140737488355328:=(show x.2.1.size=x.2.1.data.toList.length by simp)▸aG (qr _) hl)
   clear hl;go_in
   go_wp2_with (first|(go_at_call 243;refine(HL _ Us).mono ?_;rintro e w2 ⟨rfl,rfl⟩)|(go_at_call 321;refine(HZ _).mono ?_;rintro e w2 ⟨rfl,rfl⟩)|(go_at_call 328;(first|refine(HV _).mono ?_|refine(HY _).mono ?_);rintro e w2 ⟨rfl,rfl⟩))
   go_ret;exact⟨rfl,B0⟩
theorem DI {B n:Nat}(H:NE S mp B n)(hN:DH S)(w:an)(Z:ap)(v:Value)(l:List PV)(d:MT)(f:eT)(g:GF)(fb:Nat)(pv:Value)(k:Nat)(cx:sF w B S mp)(hf:eJ w (λb=>b<B) mp g fb)(fg:FG S mp d f g)(hv:pN (iH k w Z) w Z v l)(hO:OY k l)
  (hpv:∃rv,dM w fb #[aa g.f.num,aa g.form,aa (eh mp g),pv,rv] 220) (hs:∀x∈l,er S (dP S n) f x=true) (hl:(mG S (ed S n) f l).length<=140737488355328):
  Calls prog 233 #[.agg #[aa (eh mp g),pv],v] w (gP (mG S (ed S n) f l) w):=by
 obtain⟨a,c,rfl⟩:=hv.form;obtain⟨vcs,UB,UC⟩:=hv;have hll:=hO.1;have⟨B0,K0⟩:=dS w #[aa (eh mp g),pv] 216
 have HC:Hid (∀(W:an) (x:PV) (mv:Value),aj w W->x∈l->iH k w Z mv x.2.2->Ua 317 #[.agg #[aa (eh mp g),pv],fN x mv] W (gP (fS S (ed S n) f x) W)):=λW x mv hW hx hm=>
  NF H hN W Z mv x d f g fb pv k (cx.on (dV hW cx.le)) (hf.keep λb _ q=>hW.block b q) fg (hm.below hW (ay _)) (hO.2 x hx).2.2.2 (hO.2 x hx).1 (hO.2 x hx).2.1 (hpv.imp λ_ q=>q.below hW q.lt) (hs x hx) (aG (vV hx) hl)
 have HT:Hid (∀i,((l.take i).flatMap (fS S (ed S n) f)).length<=140737488355328):=λi=>aG (ip i) hl
 unfold mG at*;generalize fS S (ed S n) f=bv at*;generalize eh mp g=gb at*;clear hl hs hpv hO hf fg cx;go_in
 go_wp2;generalize w.alloc (ak #[aa gb,pv] 216)=w1 at*;go_loopw [5,7,10] (λsv _ jv wr=>∃j:Nat,jv=aa j/\j<=l.length/\sv=aa ((l.take j).flatMap bv).length/\aj w1 wr) (λ_ _ jv _=>l.length-(intOf jv).toNat)
 case atStart=>exact⟨0,rfl,aL _,rfl,Below.refl _ _⟩
 case round=>
  obtain⟨j,rfl,hj,rfl,Bw⟩:=hrel;have BW:=dI B0 Bw
  by_cases hlt:j<l.length
  ·have⟨x,hx⟩:=gx hlt;have⟨mv,p1,p2,p3,p4,p5⟩:=UC.get hx;obtain⟨ma,mc,rfl⟩:=p1.form;obtain⟨gv,rfl,hzgv,Ut,Uq⟩:=UB.at Ue;have t0:=Uq wr (BW.block _ Ut) _ _ p2;have t1:=kX (Uq wr (BW.block _ Ut) _ _ p3);have t2:=kX (Uq wr (BW.block _ Ut) _ _ p4);have t3:=kX (Uq wr (BW.block _ Ut) _ _ p5);have hlj:(j:Int)<(l.length:Int):=Ue;have⟨B1,K1⟩:=dS wr #[.int .u64 x.1,ae x.2.1,.slice ma x.2.2.fs.length mc,ae x.2.2.unk] 55;have HX:=HC.out _ x _ (dI BW B1) (aI hx) p1;unfold fN at HX;have KT:=K0.below (dI Bw B1) K0.lt;have hT:=HT.out (j+1);rw[fM hx,aH]at hT
   have HS:Hid (((l.take (j+1)).flatMap bv).length=((l.take j).flatMap bv).length+(bv x).length):=by
    show((l.take (j+1)).flatMap bv).length=_;rw[fM hx,aH]
   generalize((l.take j).flatMap bv).length=sz at*;have⟨k1,k2⟩:=KT.rules;have⟨k3,k4⟩:=K1.rules;clear Uq p2 p3 p4 p5 hx;go_wp2_with fail;refine HX.mono ?_;rintro e w3 ⟨rfl,b3⟩;generalize(bv x).length=yz at*;have hsum:(sz:Int)+(yz:Int)<=140737488355328:=Ue;go_wp2;go_roundw
   case rel=>exact⟨j+1,by go_num,Ue,by rw[HS.out];go_num,dI (dI Bw B1) b3⟩
   case measure=>simp[intOf];omega
  ·obtain rfl:j=l.length:=Ue;rw[bo];go_wp2;go_ret;exact⟨rfl,BW⟩
end
def Gy (S:d8)(R:MT->PM->List UInt8)(f:eT)(l:List PV):(mG S R f l).length<=(jU S R f l).length:=by
 unfold jU
 split
 ·have:=qr (mG S R f l);rw[aH];omega
 ·rw[sN];exact Nat.le_add_left _ _
def xS {c:Int}(h0:0<=c)(h1:c<=140737488355328):IntKind.i64.wrap c=c:=by
 simp[IntKind.wrap,IntKind.bits,IntKind.signed];omega
def NG (n k:Int):(eY n k).length<=10:=(m8 9 (n*8+k)).1
def NH {S:d8}{mp:am->Option Nat}{B n:Nat}(H:NE S mp B n)(hN:DH S)(w:an)(Z:ap)(v:Value)(l:List PV)(d:MT)(f:eT)(g:GF)(fb:Nat)(k:Nat)(cx:sF w B S mp)(hf:eJ w (λb=>b<B) mp g fb)(fg:FG S mp d f g)(hnm:0<=f.num/\f.num<=536870911)(hv:pN (iH k w Z) w Z v l)(hO:OY k l)
  (hs:∀x∈l,er S (dP S n) f x=true) (hl:(jU S (ed S n) f l).length<=140737488355328):
  Ua 162 #[ag fb,v] w (gP (jU S (ed S n) f l) w):=by
 obtain⟨a,c,rfl⟩:=hv.form;have⟨pv,rv,h1,_,Uu,Uz⟩:=hf.blk;obtain⟨pq,rfl⟩:=gq Uz;have Uw:=aG (Gy S (ed S n) f l) hl;have HT:=xM w _ mp g fb hf;rw[fg.eq,fg.tk]at HT;have Ut:0<=nZ S f/\nZ S f<8:=by rw[<-fg.tk];exact sM mp g
 have HZ:Hid (∀W,Ua 242 #[.agg #[aa f.num,aa (nZ S f)]] W λe w'=>e= .returned (aa (eY f.num (nZ S f)).length)/\Below W.heap.size W w'):=λW=>OW W f.num (nZ S f) hnm.1 hnm.2 Ut.1 Ut.2
 have HP:Hid (∀W,aj w W->Ua 209 #[ag fb] W λe w'=>e= .returned (.bool (ig S f))/\Below W.heap.size W w'):=λW hW=>by
  have:=lT W _ mp g fb (hf.keep λb _ q=>hW.block b q)
  rwa [fg.pk]at this
 have HV:Hid (∀W,aj w W->Ua 233 #[.agg #[aa (eh mp g),.pointer pq],.slice a l.length c] W (gP (mG S (ed S n) f l) W)):=λW hW=>
  DI H hN W Z _ l d f g fb (.pointer pq) k (cx.on (dV hW cx.le)) (hf.keep λb _ q=>hW.block b q) fg (pN.below hW (ay _) hv) hO ⟨rv,h1.below hW h1.lt⟩ hs Uw
 have HL:Hid (∀W,Ua 243 #[aa (mG S (ed S n) f l).length] W λe w'=>e= .returned (aa (eZ (mG S (ed S n) f l)).length)/\w'=W):=λW=>ug W _ Uw
 have htl:=NG f.num (nZ S f)
 have hlen:(jU S (ed S n) f l).length=if ig S f then(eY f.num (nZ S f)).length+(eZ (mG S (ed S n) f l)).length else(eY f.num (nZ S f)).length*l.length+(mG S (ed S n) f l).length:=by
  unfold jU
  split
  ·rw[aH]
  ·rw[sN];rfl
 unfold gP;rw[hlen]at hl⊢;clear hlen;clear Uz Uu hf Ut hs hO hv H cx hnm fg;generalize mG S (ed S n) f l=y at*;generalize nZ S f=tk at*
 cases hpk:ig S f with
 |true=>
  rw[hpk]at HP hl;rw[dE rfl]at hl⊢;generalize(eZ y).length=yl at*;generalize(eY f.num tk).length=tl at*;go_enter func162,ntmps162;go_wp2_with fail;refine HT.mono ?_;rintro e w2 ⟨rfl,b2⟩;go_wp2_with fail;refine(HZ.out w2).mono ?_;rintro e w3 ⟨rfl,b3⟩;have B3:=dI b2 b3;go_wp2_with fail;refine(HP.out w3 B3).mono ?_;rintro e w4 ⟨rfl,b4⟩;have B4:=dI B3 b4;have h4:=h1.below B4 h1.lt;have⟨k1,k2⟩:=h4.rules;go_wp2_with fail;refine(HV.out w4 B4).mono ?_;rintro e w5 ⟨rfl,b5⟩;go_wp2_with fail;refine(HL.out w5).mono ?_;rintro e w6 ⟨rfl,rfl⟩;have Us:(tl:Int)+(yl:Int)<=140737488355328:=Ue;go_wp2;go_ret;exact⟨by rw[dw];rfl,dI B4 b5⟩
 |false=>
  rw[hpk]at HP hl;rw[dD Uf]at hl⊢;generalize(eY f.num tk).length=tl at*;have hmul:(tl:Int)*(l.length:Int)=((tl*l.length:Nat):Int):=by rw[Int.natCast_mul]
  generalize tl*l.length=pl at*;go_enter func162,ntmps162;go_wp2_with fail;refine HT.mono ?_;rintro e w2 ⟨rfl,b2⟩;go_wp2_with fail;refine(HZ.out w2).mono ?_;rintro e w3 ⟨rfl,b3⟩;have B3:=dI b2 b3;go_wp2_with fail;refine(HP.out w3 B3).mono ?_;rintro e w4 ⟨rfl,b4⟩;have B4:=dI B3 b4;have h4:=h1.below B4 h1.lt;have⟨k1,k2⟩:=h4.rules;go_wp2_with fail;refine(HV.out w4 B4).mono ?_;rintro e w5 ⟨rfl,b5⟩;have Us:(pl:Int)+(y.length:Int)<=140737488355328:=Ue;go_wp2;go_ret;exact⟨by rw[dw];rfl,dI B4 b5⟩
def uj {S:d8}{mp:am->Option Nat}{B:Nat}(hN:DH S):∀n,NE S mp B n:=by
 intro n
 induction n with
 |zero=>
  intro w Z v m d mb gs nm k cx hm hG UA hM hO hs
  cases hs
 |succ n ih=>
  intro w Z v m d mb gs nm k cx hm hG UA hM hO hs hl
  cases k with
  |zero=>exact hM.elim
  |succ k=>
  obtain⟨cs,hr,UD⟩:=hM;obtain⟨a,c,rfl⟩:=hr.form;obtain⟨ho1,ho2,UE⟩:=hO;rw[dP,aJ]at hs;have hX:=λx hx=>xN (x:=x) hs.1 hx
  have⟨B0,K1⟩:=dS w #[.slice a m.fs.length c,ae m.unk] 49;rw[ed]at hl;unfold gP;rw[ed];rw[aH]at hl⊢;rw[show m.unk.data.toList.length=m.unk.size by simp]at hl⊢
  have HC:Hid (∀(W:an) (x:PF) (f:eT) (g:GF) (fb:Nat) (v:Value),aj w W->x∈m.fs->dR d.fs x.1=some f->FG S mp d f g->eJ W (λb=>b<B) mp g fb->pN (iH k w Z) w Z v x.2->Ua 162 #[ag fb,v] W (gP (jE S (ed S n) d x) W)):=λW x f g fb v hW hx Ur fg Uv hv=>by
   have⟨f',q1,q2⟩:=hX x hx;obtain rfl:f=f':=by rw[Ur]at q1;exact Option.some.inj q1
   have hb:jE S (ed S n) d x=jU S (ed S n) f x.2:=by unfold jE;rw[Ur]
   have Ux:(jE S (ed S n) d x).length<=140737488355328:=aG (vV hx) Ue;rw[hb]at Ux⊢;exact NH ih hN W Z v x.2 d f g fb k (cx.on (dV hW cx.le)) Uv fg (UA _ _ Ur) (pN.below hW (ay _) hv) (UE x hx) (λv hv=>xO q2 hv) Ux
  have HT:Hid (∀i,((m.fs.take i).flatMap (jE S (ed S n) d)).length+m.unk.size<=140737488355328):=λi=>by
   have:=ip (g:=jE S (ed S n) d) (l:=m.fs) i;show _<=_;omega
  generalize jE S (ed S n) d=bx at*;clear hl hs;have⟨k1,k2⟩:=K1.rules;go_enter func102,ntmps102;go_wp2;generalize w.alloc (ak #[.slice a m.fs.length c,ae m.unk] 49)=w1 at*;go_loopw [5,7,14] (λsv _ iv wr=>∃i:Nat,iv=aa i/\i<=m.fs.length/\sv=aa (((m.fs.take i).flatMap bx).length+m.unk.size:Nat)/\aj w1 wr) (λ_ _ iv _=>m.fs.length-(intOf iv).toNat)
  case atStart=>exact⟨0,rfl,aL _,Uf,Below.refl _ _⟩
  case round=>
   obtain⟨i,rfl,hi,rfl,Bw⟩:=hrel;clear k1 k2;have BW:=dI B0 Bw
   by_cases hlt:i<m.fs.length
   ·have⟨x,hx⟩:=gx hlt;have⟨vv,p1,p2,p3⟩:=UD.get hx;obtain⟨va,vc,rfl⟩:=p1.form;obtain⟨g0,rfl,hzg0,UB,Uq⟩:=hr.at Ue;have t0:=Uq wr (BW.block _ UB) _ _ p2;have t1:=kX (Uq wr (BW.block _ UB) _ _ p3);have⟨B1,K5⟩:=dS wr #[aa x.1,.slice va x.2.length vc] 58;have B2:=dI BW B1;have UC:=dI Bw B1;have⟨f,Ur,_⟩:=hX x (aI hx);have⟨g,hg,fg⟩:=hG.yes _ _ Ur;have HF:=qh _ (λb=>b<B) mp mb nm gs x.1 (hm.keep λb _ q=>B2.drew.block b q) hG.srt hG.len;rw[hg]at HF;have HZ:=λfb q=>HC.out _ x f g fb _ B2.drew (aI hx) Ur fg q p1
    have hT:=HT.out (i+1);rw[fM hx,aH]at hT
    have HS:Hid (((m.fs.take (i+1)).flatMap bx).length+m.unk.size=((m.fs.take i).flatMap bx).length+m.unk.size+(bx x).length):=by
     show((m.fs.take (i+1)).flatMap bx).length+m.unk.size=_;rw[fM hx,aH];omega
    have hT2:((m.fs.take i).flatMap bx).length+m.unk.size+(bx x).length<=140737488355328:=Ue;generalize((m.fs.take i).flatMap bx).length+m.unk.size=sz at*;have hij:(i:Int)<(m.fs.length:Int):=Ue;have Us:IntKind.i64.wrap ((sz:Int)+((bx x).length:Int))=(sz:Int)+((bx x).length:Int):=xS Ue Ue;clear Uq p2 p3 B1 hx hg Ur hT;go_upto_region 5 with fail
    generalize wr.alloc (ak #[aa x.1,.slice va x.2.length vc] 58)=w2 at*;generalize wr.heap.size=vb at*;have hW:w2.drew.cell? (ai vb 0)=some (aa x.1)/\w2.drew.cell? (ai vb 1)=some (.slice va x.2.length vc):=⟨K5.drew.cell 0,K5.drew.cell 1⟩
    go_region_held2 (λW=>W.cell? (ai vb 0)=some (aa x.1)/\W.cell? (ai vb 1)=some (.slice va x.2.length vc))
     (first|exact hW|exact⟨Uy.cell 0,Uy.cell 1⟩)
     (first
      |(
        go_at_call 153;refine HF.mono ?_
        rintro e w3 ⟨⟨fb,rfl,Uv⟩,rfl⟩)
      |(
        go_at_call 162;refine(HZ _ Uv).mono ?_;rintro e w3 ⟨rfl,b3⟩
        have Uy:=K5.below (w:=w2.drew) b3 K5.lt))
    go_wp2;go_roundw
    case rel=>exact⟨i+1,by go_num,Ue,by rw[HS.out,dw],dI UC.drew b3⟩
    case measure=>simp[intOf];omega
   ·obtain rfl:i=m.fs.length:=Ue;rw[bo];go_wp2;go_ret;exact⟨rfl,BW⟩
def OZ (c:PV->List UInt8)(p:PV->Bool)(N f:Nat)(cap:aq)(W:an):Prop:=
 ∀(W':an) (Z:ap) (x:PV) (mv:Value) (k:Nat),Below N W W'->iH k W' Z mv x.2.2->oT k x.2.2->0<=x.1->x.1<18446744073709551616->p x=true->(c x).length<=140737488355328->
  Ua f (fN x mv::cap).toArray W' (gP (c x) W')
def NI (c:List PV->List UInt8)(p:PV->Bool)(N f:Nat)(cap:aq)(W:an):Prop:=
 ∀(W':an) (Z:ap) (vv:Value) (l:List PV) (k:Nat),Below N W W'->pN (iH k W' Z) W' Z vv l->OY k l->(∀x∈l,p x=true)->(c l).length<=140737488355328->
  Ua f (vv::cap).toArray W' (gP (c l) W')
def Ff (S:d8)(iq:aw)(n:Nat)(t:MT)(N:Nat)(W:an):Prop:=
 ∀(W':an) (Z:ap) (v:Value) (m:PM) (k:Nat),Below N W W'->iH k W' Z v m->oT k m->dP S n t m=true->(ed S n t m).length<=140737488355328->
  Ua 104 #[.pointer iq,.agg #[v,ae m.unk]] W' (gP (ed S n t m) W')
def xT {N:Nat}{a b c:an}(h:Below N a b)(k:Below b.heap.size b c)(hN:N<=a.heap.size):Below N a c:=h.trans (dV k (aG hN h.size))
section
variable {S:d8} {fl:eT} {n N:Nat} {W:an}
def Gz {R:MT->PM->List UInt8}{x:PV}{t:MT}(h:fB S fl=16)(hs:eV S fl=some t):fS S R fl x=eZ (R t x.2.2):=by unfold fS;rw[dE h,hs]
def Sx (ib:Nat)(iq:aw)(t:MT)(hN:N<=W.heap.size)(hb:dM W ib #[.pointer iq] 116)(hi:ib<N)(H:Ff S iq n t N W)(h16:fB S fl=16)(hsub:eV S fl=some t):
  OZ (fS S (ed S n) fl) (er S (dP S n) fl) N 412 [ag ib] W:=by
 intro W' Z x mv k B hm hO h0 h1 hp hl;show Ua 412 #[fN x mv,ag ib] W' _;rw[Gz h16 hsub]at hl⊢;have hR:=uh hp h16 hsub;have Ut:=aG (qr _) hl;obtain⟨ma,mc,rfl⟩:=hm.form;have⟨B1,K1⟩:=dS W' #[.int .u64 x.1,ae x.2.1,.slice ma x.2.2.fs.length mc,ae x.2.2.unk] 55;have B2:=xT B B1 hN;have Uv:=hb.below B2 hi;have HC:=H _ Z _ x.2.2 k B2 (hm.below B1 (ay _)) hO hR Ut;have HL:=λW=>ug W (ed S n t x.2.2) Ut
 unfold gP fN;generalize ed S n t x.2.2=y at*;have⟨k1,k2⟩:=K1.rules;have⟨k3,k4⟩:=Uv.rules;go_enter func412,ntmps412;go_wp2_with fail;refine HC.mono ?_;rintro e w2 ⟨rfl,b2⟩;go_wp2_with fail;refine(HL w2).mono ?_;rintro e w3 ⟨rfl,rfl⟩;go_wp2;go_ret;exact⟨rfl,dI B1 b2⟩
def Sy (hk:fB S fl=13\/fB S fl=14):OZ (fS S (ed S n) fl) (er S (dP S n) fl) N 413 [] W:=by
 intro W' Z x mv k B hm hO h0 h1 hp hl;show Ua 413 #[fN x mv] W' _;have hb:fS S (ed S n) fl x=eZ x.2.1.data.toList:=by unfold fS;rw[dD Ue,dE hk]
 rw[hb]at hl⊢;have Ut:=aG (qr _) hl;obtain⟨ma,mc,rfl⟩:=hm.form;have⟨B1,K1⟩:=dS W' #[.int .u64 x.1,ae x.2.1,.slice ma x.2.2.fs.length mc,ae x.2.2.unk] 55;have HL:=λW=>ug W x.2.1.data.toList Ut
 rw[show x.2.1.data.toList.length=x.2.1.size by simp]at HL;unfold gP fN;have⟨k1,k2⟩:=K1.rules;go_enter func413,ntmps413;go_wp2_with fail;refine(HL _).mono ?_;rintro e w3 ⟨rfl,rfl⟩;go_wp2;go_ret;exact⟨rfl,B1⟩
def Sz (hk:fB S fl=4\/fB S fl=5):OZ (fS S (ed S n) fl) (er S (dP S n) fl) N 414 [] W:=by
 intro W' Z x mv k B hm hO h0 h1 hp hl;show Ua 414 #[fN x mv] W' _;have hb:fS S (ed S n) fl x=vi (Bu x.1):=by unfold fS;rw[dD Ue,dD Ue,dD Ue,dD Ue,dE hk]
 rw[hb];have⟨Uz,UA⟩:=vW h0 h1;obtain⟨ma,mc,rfl⟩:=hm.form;have⟨B1,K1⟩:=dS W' #[.int .u64 x.1,ae x.2.1,.slice ma x.2.2.fs.length mc,ae x.2.2.unk] 55;have HZ:=λW=>sL W x.1 h0 h1
 have HY:=λW=>nY W (Bu x.1) Uz UA
 unfold gP fN;have⟨k1,k2⟩:=K1.rules;go_enter func414,ntmps414;go_wp2_with fail;refine(HZ _).mono ?_;rintro e w2 ⟨rfl,rfl⟩;go_wp2_with fail;refine(HY _).mono ?_;rintro e w3 ⟨rfl,rfl⟩;go_wp2;go_ret;exact⟨rfl,B1⟩
def SA (hk:fB S fl=7\/fB S fl=9\/fB S fl=11):OZ (fS S (ed S n) fl) (er S (dP S n) fl) N 415 [] W:=by
 intro W' Z x mv k B hm hO h0 h1 hp hl;show Ua 415 #[fN x mv] W' _;have hb:fS S (ed S n) fl x=ol 4 x.1:=by unfold fS;rw[dD Ue,dD Ue,dE hk]
 obtain⟨ma,mc,rfl⟩:=hm.form;have B1:=(dS W' #[.int .u64 x.1,ae x.2.1,.slice ma x.2.2.fs.length mc,ae x.2.2.unk] 55).1;unfold gP fN;rw[hb,ia];go_enter func415,ntmps415;go_wp2;go_ret;exact⟨rfl,B1⟩
def SB (hk:fB S fl=8\/fB S fl=10\/fB S fl=12):OZ (fS S (ed S n) fl) (er S (dP S n) fl) N 416 [] W:=by
 intro W' Z x mv k B hm hO h0 h1 hp hl;show Ua 416 #[fN x mv] W' _;have hb:fS S (ed S n) fl x=ol 8 x.1:=by unfold fS;rw[dD Ue,dD Ue,dD Ue,dE hk]
 obtain⟨ma,mc,rfl⟩:=hm.form;have B1:=(dS W' #[.int .u64 x.1,ae x.2.1,.slice ma x.2.2.fs.length mc,ae x.2.2.unk] 55).1;unfold gP fN;rw[hb,ia];go_enter func416,ntmps416;go_wp2;go_ret;exact⟨rfl,B1⟩
def SC (hk:fB S fl<4\/fB S fl=6\/fB S fl=15):OZ (fS S (ed S n) fl) (er S (dP S n) fl) N 417 [] W:=by
 intro W' Z x mv k B hm hO h0 h1 hp hl;show Ua 417 #[fN x mv] W' _;have hb:fS S (ed S n) fl x=vi x.1:=by unfold fS;rw[dD Ue,dD Ue,dD Ue,dD Ue,dD Ue]
 rw[hb];obtain⟨ma,mc,rfl⟩:=hm.form;have⟨B1,K1⟩:=dS W' #[.int .u64 x.1,ae x.2.1,.slice ma x.2.2.fs.length mc,ae x.2.2.unk] 55;have HY:=λW=>nY W x.1 h0 h1
 unfold gP fN;have⟨k1,k2⟩:=K1.rules;go_enter func417,ntmps417;go_wp2_with fail;refine(HY _).mono ?_;rintro e w3 ⟨rfl,rfl⟩;go_wp2;go_ret;exact⟨rfl,B1⟩
end
section
variable {bv:PV->List UInt8} {p:PV->Bool} {N:Nat} {W:an}
def Rs (vb vf:Nat)(vcap:aq)(hN:N<=W.heap.size)(hb:dM W vb #[.func (.func vf) #[] vcap.toArray] 447)(hi:vb<N)(hen:∀args w,(callFunc vf args).run prog w= .ok (.enter vf args) w)(H:OZ bv p N vf vcap W):
  NI (λl=>l.flatMap bv) p N 369 [ag vb] W:=by
 intro W' Z vv l k B hv hO hp hl;show Ua 369 #[vv,ag vb] W' (gP (l.flatMap bv) W');obtain⟨a,c,rfl⟩:=hv.form;obtain⟨vcs,UB,UC⟩:=hv;have Uv:=hb.below B hi;have hll:=hO.1
 have HC:Hid (∀(W2:an) (x:PV) (mv:Value),Below W'.heap.size W' W2->x∈l->iH k W' Z mv x.2.2->Ua vf (fN x mv::vcap).toArray W2 (gP (bv x) W2)):=λW2 x mv h2 hx hm=>
  H W2 Z x mv k (xT B h2 hN) (hm.below h2 (ay _)) (hO.2 x hx).2.2.2 (hO.2 x hx).1 (hO.2 x hx).2.1 (hp x hx) (aG (vV hx) hl)
 have HT:Hid (∀i,((l.take i).flatMap bv).length<=140737488355328):=λi=>aG (ip i) hl
 clear hl hp hO H;go_enter func369,ntmps369;go_wp2;go_loopw [4,6,9] (λsv _ jv wr=>∃j:Nat,jv=aa j/\j<=l.length/\sv=aa ((l.take j).flatMap bv).length/\Below W'.heap.size W' wr) (λ_ _ jv _=>l.length-(intOf jv).toNat)
 case atStart=>exact⟨0,rfl,aL _,rfl,Below.refl _ _⟩
 case round=>
  obtain⟨j,rfl,hj,rfl,BW⟩:=hrel
  by_cases hlt:j<l.length
  ·have⟨x,hx⟩:=gx hlt;have⟨mv,p1,p2,p3,p4,p5⟩:=UC.get hx;obtain⟨ma,mc,rfl⟩:=p1.form;obtain⟨gv,rfl,hzgv,Uw,Uq⟩:=UB.at Ue;have t0:=Uq wr (BW.block _ Uw) _ _ p2;have t1:=kX (Uq wr (BW.block _ Uw) _ _ p3);have t2:=kX (Uq wr (BW.block _ Uw) _ _ p4);have t3:=kX (Uq wr (BW.block _ Uw) _ _ p5);have hlj:(j:Int)<(l.length:Int):=Ue;have⟨B1,K1⟩:=dS wr #[.int .u64 x.1,ae x.2.1,.slice ma x.2.2.fs.length mc,ae x.2.2.unk] 55;have B2:=dI BW B1;have HX:=HC.out _ x _ B2 (aI hx) p1;unfold fN at HX;have KT:=Uv.below B2 Uv.lt;have hT:=HT.out (j+1);rw[fM hx,aH]at hT
   have HS:Hid (((l.take (j+1)).flatMap bv).length=((l.take j).flatMap bv).length+(bv x).length):=by
    show((l.take (j+1)).flatMap bv).length=_;rw[fM hx,aH]
   generalize((l.take j).flatMap bv).length=sz at*;have⟨k1,k2⟩:=KT.rules;have⟨k3,k4⟩:=K1.rules;clear Uq p2 p3 p4 p5 hx;go_wp2_with fail;refine HX.mono ?_;rintro e w3 ⟨rfl,b3⟩;generalize(bv x).length=yz at*;have Uu:(sz:Int)+(yz:Int)<=140737488355328:=Ue;go_wp2;go_roundw
   case rel=>exact⟨j+1,by go_num,Ue,by rw[HS.out];go_num,dI B2 b3⟩
   case measure=>simp[intOf];omega
  ·obtain rfl:j=l.length:=Ue;rw[bo];go_wp2;go_ret;exact⟨rfl,BW⟩
def KL {c:List PV->List UInt8}(tb ab af:Nat)(acap:aq)(tg:List UInt8)(ht:dM W tb #[aa tg.length] 3)(ha:dM W ab #[.func (.func af) #[] acap.toArray] 262)(hi:tb<N)(hj:ab<N)(hen:∀args w,(callFunc af args).run prog w= .ok (.enter af args) w)(H:NI c p N af acap W):
  NI (λl=>tg++eZ (c l)) p N 290 [ag tb,ag ab] W:=by
 intro W' Z vv l k B hv hO hp hl;show Ua 290 #[vv,ag tb,ag ab] W' (gP (tg++eZ (c l)) W')
 have Uy:tg.length+(eZ (c l)).length<=140737488355328:=by
  grind
 have Ut:=qr (c l);obtain⟨va,vc,rfl⟩:=hv.form;have b0:Below W'.heap.size W' W'.drew:=(Below.refl _ _).drew;have Ur:=ht.below B hi;have Us:=ha.below B hj;have HX:=H W'.drew Z _ l k B.drew (pN.below b0 (ay _) hv) hO hp Ue;have HL:=λW=>ug W (c l) Ue
 unfold gP;rw[aH];have Uu:IntKind.i64.wrap ((tg.length:Int)+((eZ (c l)).length:Int))=(tg.length:Int)+((eZ (c l)).length:Int):=xS Ue Ue;have hW:W'.drew.cell? (ai tb 0)=some (aa tg.length)/\W'.drew.cell? (ai ab 0)=some (.func (.func af) #[] acap.toArray):=⟨Ur.drew.cell 0,Us.drew.cell 0⟩;generalize tg.length=tl at*;generalize eZ (c l)=y at*;go_enter func290,ntmps290;go_upto_region 1 with fail
 go_region_held2 (λW=>W.cell? (ai tb 0)=some (aa tl)/\W.cell? (ai ab 0)=some (.func (.func af) #[] acap.toArray))
  (first|exact Ux|exact hW)
  (first
   |(
     go_at_call 243;refine(HL _).mono ?_
     rintro e w4 ⟨rfl,rfl⟩)
   |(
     refine HX.mono ?_;rintro e w3 ⟨rfl,b3⟩
     have Ux:w3.cell? (ai tb 0)=some (aa tl)/\w3.cell? (ai ab 0)=some (.func (.func af) #[] acap.toArray):=⟨(Ur.drew.below b3 Ur.drew.lt).cell 0,(Us.drew.below b3 Us.drew.lt).cell 0⟩))
 all_goals
  go_wp2;go_ret;exact⟨Uk,dI b0 b3⟩
def NJ (tb ab af:Nat)(acap:aq)(tg:List UInt8)(ht:dM W tb #[aa tg.length] 3)(ha:dM W ab #[.func (.func af) #[] acap.toArray] 262)(hi:tb<N)(hj:ab<N)(hen:∀args w,(callFunc af args).run prog w= .ok (.enter af args) w)(H:NI (λl=>l.flatMap bv) p N af acap W):
  NI (λl=>l.flatMap λv=>tg++bv v) p N 291 [ag tb,ag ab] W:=by
 intro W' Z vv l k B hv hO hp hl;show Ua 291 #[vv,ag tb,ag ab] W' (gP (l.flatMap λv=>tg++bv v) W')
 have Uy:tg.length*l.length+(l.flatMap bv).length<=140737488355328:=by
  have:=hl;simp only at this
  rwa [sN]at this
 obtain⟨va,vc,rfl⟩:=hv.form;have b0:Below W'.heap.size W' W'.drew:=(Below.refl _ _).drew;have Ur:=ht.below B hi;have Us:=ha.below B hj;have HX:=H W'.drew Z _ l k B.drew (pN.below b0 (ay _) hv) hO hp (show(l.flatMap bv).length<=_ by omega);unfold gP;rw[sN];have hmul:(tg.length:Int)*(l.length:Int)=((tg.length*l.length:Nat):Int):=by rw[Int.natCast_mul]
 have hW:W'.drew.cell? (ai tb 0)=some (aa tg.length)/\W'.drew.cell? (ai ab 0)=some (.func (.func af) #[] acap.toArray):=⟨Ur.drew.cell 0,Us.drew.cell 0⟩;generalize tg.length*l.length=pl at*;generalize tg.length=tl at*;change Ua af _ _ (gP (l.flatMap bv) W'.drew)at HX;generalize l.flatMap bv=y at*;have hw1:IntKind.i64.wrap (pl:Int)=pl:=xS Ue Ue;have Uu:IntKind.i64.wrap ((pl:Int)+(y.length:Int))=(pl:Int)+(y.length:Int):=xS Ue Ue;go_enter func291,ntmps291;go_upto_region 1 with fail
 go_region_held2 (λW=>W.cell? (ai tb 0)=some (aa tl)/\W.cell? (ai ab 0)=some (.func (.func af) #[] acap.toArray))
  (first|exact Ux|exact hW)
  (first
   |(
     refine HX.mono ?_;rintro e w3 ⟨rfl,b3⟩
     have Ux:w3.cell? (ai tb 0)=some (aa tl)/\w3.cell? (ai ab 0)=some (.func (.func af) #[] acap.toArray):=⟨(Ur.drew.below b3 Ur.drew.lt).cell 0,(Us.drew.below b3 Us.drew.lt).cell 0⟩))
 all_goals
  go_wp2;go_ret;exact⟨Uk,dI b0 b3⟩
end
def Rt (w:an)(Q:ap)(b:Nat)(iq:aw)(v:Value):Prop:=
 ∃f cap,Kz v f cap/\∀(S:d8) (fl:eT) (n N:Nat) (W:an),Kp Q w W->(∀b,Q b->b<w.heap.size->b<N)->N<=W.heap.size->fB S fl=b->(fB S fl=16->∃t,eV S fl=some t/\Ff S iq n t N W)->OZ (fS S (ed S n) fl) (er S (dP S n) fl) N f cap W
def uU (w:an)(Q:ap)(b:Nat)(iq:aw)(v:Value):Prop:=
 ∃f cap,Kz v f cap/\∀(S:d8) (fl:eT) (n N:Nat) (W:an),Kp Q w W->(∀b,Q b->b<w.heap.size->b<N)->N<=W.heap.size->fB S fl=b->(fB S fl=16->∃t,eV S fl=some t/\Ff S iq n t N W)->NI (mG S (ed S n) fl) (er S (dP S n) fl) N f cap W
def Fg (w:an)(Q:ap)(mp:am->Option Nat)(g:GF)(iq:aw)(v:Value):Prop:=
 ∃f cap,Kz v f cap/\∀(S:d8) (d:MT) (fl:eT) (n N:Nat) (W:an),Kp Q w W->(∀b,Q b->b<w.heap.size->b<N)->N<=W.heap.size->FG S mp d fl g->(0<=fl.num/\fl.num<=536870911)->(fB S fl=16->∃t,eV S fl=some t/\Ff S iq n t N W)->NI (jU S (ed S n) fl) (er S (dP S n) fl) N f cap W
section
variable {w w':an} {Q Q':ap} {mp:am->Option Nat} {g:GF} {iq:aw} {v:Value} (hk:Mv w Q w' Q')
include hk
def uU.move {b:Nat}(h:uU w Q b iq v):uU w' Q' b iq v:=by
 obtain⟨f,cap,h1,h2⟩:=h;exact⟨f,cap,h1,λS fl n N W q hN=>h2 S fl n N W (q.mv hk) λb x l=>hN b (hk b x l).1 (hk.lt x l)⟩
def Fg.move (h:Fg w Q mp g iq v):Fg w' Q' mp g iq v:=by
 obtain⟨f,cap,h1,h2⟩:=h;exact⟨f,cap,h1,λS d fl n N W q hN=>h2 S d fl n N W (q.mv hk) λb x l=>hN b (hk b x l).1 (hk.lt x l)⟩
end
def iH.under {w w':an}{Z:ap}{N k:Nat}{v:Value}{m:PM}(h:iH k w Z v m)(hb:Below N w w')(hZ:∀i,Z i->i<N):iH k w' Z v m:=h.keep λb q _=>hb.block b (hZ b q)
def pN.under {w w':an}{Z:ap}{N k:Nat}{v:Value}{l:List PV}(h:pN (iH k w Z) w Z v l)(hb:Below N w w')(hZ:∀i,Z i->i<N):pN (iH k w' Z) w' Z v l:=
 h.keep (λ_ _ q=>q.under hb hZ) λb q _=>hb.block b (hZ b q)
def P5 (S:d8)(mp:am->Option Nat)(B n:Nat):Prop:=
 ∀(w:an) (Z:ap) (v:Value) (m:PM) (d:MT) (mb:Nat) (gs:List GF) (nm:am) (k N b:Nat) (l:List UInt8),sF w B S mp->iE w (λb=>b<B) mp mb nm gs->kG S mp d gs->MA d->iH k w Z v m->(∀i,Z i->i<N)->B<=N->N<=w.heap.size->oT k m->dP S n d m=true->fh w N b (d7 b) l->l.length+(ed S n d m).length<=140737488355328->
  Ua 97 #[ag mb,.agg #[v,ae m.unk],d7 b] w (iw N b l (ed S n d m) w)
def NK {S:d8}{mp:am->Option Nat}{B n:Nat}(H:P5 S mp B n)(hN:DH S)(w:an)(Z:ap)(mv:Value)(x:PV)(d:MT)(f:eT)(g:GF)(fb:Nat)(pv:Value)(k N b:Nat)(l:List UInt8)(cx:sF w B S mp)(hf:eJ w (λb=>b<B) mp g fb)(fg:FG S mp d f g)(hM:iH k w Z mv x.2.2)(hZ:∀i,Z i->i<N)(hBN:B<=N)(hNw:N<=w.heap.size)(hO:oT k x.2.2)(h0:0<=x.1)(h1:x.1<18446744073709551616)
  (hpv:∃rv,dM w fb #[aa g.f.num,aa g.form,aa (eh mp g),pv,rv] 220) (hs:er S (dP S n) f x=true) (hW:fh w N b (d7 b) l) (hl:l.length+(fS S (ed S n) f x).length<=140737488355328):
  Calls prog 234 #[.agg #[aa (eh mp g),pv],fN x mv,d7 b] w (iw N b l (fS S (ed S n) f x) w):=by
 obtain⟨ma,mc,rfl⟩:=hM.form;have Uz:=Kx fg;unfold fN;rw[fg.gb]
 by_cases h16:fB S f=16
 ·have⟨t,mb,gs,nm,rv,Uq,Uv,Uw,Ux⟩:=Fe cx hf fg h16;obtain⟨rv2,Uy⟩:=hpv
  obtain rfl:pv=ag mb:=by
   have:=(dM.cell Uv 3).symm.trans (dM.cell Uy 3);simpa using this.symm
  have hb:fS S (ed S n) f x=eZ (ed S n t x.2.2):=by unfold fS;rw[dE h16,Uq]
  have hR:=uh hs h16 Uq;rw[hb]at hl;unfold eZ at hl;rw[aH]at hl;rw[hb,h16];have⟨B0,KT,KV⟩:=gH w #[aa 16,ag mb] #[.int .u64 x.1,ae x.2.1,.slice ma x.2.2.fs.length mc,ae x.2.2.unk] 216 55;have HC:=uj hN n _ Z _ x.2.2 t mb gs nm k (cx.on (dV B0 cx.le)) (Uw.keep λb q _=>B0.block b (by have:=cx.le;omega)) Ux (ui hN Uq) (hM.below B0 (ay _)) hO hR Ue
  have HW:Hid (∀(W:an) (l2:List UInt8),Below N w W->fh W N b (d7 b) l2->l2.length+(ed S n t x.2.2).length<=140737488355328->Ua 97 #[ag mb,.agg #[.slice ma x.2.2.fs.length mc,ae x.2.2.unk],d7 b] W (iw N b l2 (ed S n t x.2.2) W)):=λW l2 Ut hw UC=>
   H W Z _ x.2.2 t mb gs nm k N b l2 (cx.on (dV Ut hBN)) (Uw.keep λb q _=>Ut.block b Ue) Ux (ui hN Uq) (hM.under Ut hZ) hZ hBN (by have:=Ut.size;omega) hO hR hw UC
  have Ur:=hW.on B0;generalize ed S n t x.2.2=y at*;have⟨k1,k2⟩:=KT.rules;have⟨k3,k4⟩:=KV.rules;clear Uv Uy H hb hR;go_in
  go_wp2_with fail;generalize(w.alloc (ak #[aa 16,ag mb] 216)).alloc (ak #[.int .u64 x.1,ae x.2.1,.slice ma x.2.2.fs.length mc,ae x.2.2.unk] 55)=w1 at*;refine HC.mono ?_;rintro e w2 ⟨rfl,b2⟩;have B2:=dI B0 b2;have hs2:=B2.size;go_wp2_with fail;refine(pM y.length (Ur.on b2) Ue Ue Ue).mono ?_;rintro e w3 ⟨rfl,q1,q2⟩;have UA:=q2.fr _ _ _ Uh Uh (KT.below b2 KT.lt);have UB:=q2.fr _ _ _ Uh Uh (KV.below b2 KV.lt);have Q:=(Wr.of B2 hNw).trans q2;clear k1 k2 k3 k4;have⟨k1,k2⟩:=UA.rules;have⟨k3,k4⟩:=UB.rules;go_wp2_with fail;refine(HW.out w3 _ Q.bel q1 (by rw[aH];omega)).mono ?_;rintro e w4 ⟨rfl,r1,r2⟩;go_wp2;go_end0;exact⟨rfl,by rw[aZ]at r1;exact r1,Q.trans r2⟩
 ·have⟨UD,UE⟩:=vW h0 h1;have⟨B0,KT,KV⟩:=gH w #[aa (fB S f),pv] #[.int .u64 x.1,ae x.2.1,.slice ma x.2.2.fs.length mc,ae x.2.2.unk] 216 55;have Ur:=hW.on B0;have Uu:=B0.size;have Us:=aG hNw Uu;have HZ:=λW=>sL W x.1 h0 h1
  clear hs H hpv Uu
  rcases Ah Uz with q|q|q|q|q|q|q|q|q|q|q|q|q|q|q|q|q
  case inr.inr.inr.inr.inr.inr.inr.inr.inr.inr.inr.inr.inr.inr.inr.inr=>exact absurd q h16
  all_goals
   rw[q]at B0 KT KV Ur Us;have⟨k1,k2⟩:=KT.rules;have⟨k3,k4⟩:=KV.rules;clear h16;unfold fS at hl⊢;simp only[q,Nat.reduceEqDiff,if_false,if_true,or_self,or_true,or_false]at hl⊢;go_in
   go_wp2_with (first|(go_at_call 318;refine(Gs _ Ur hl Us).mono ?_;rintro e w2 ⟨rfl,q1,q2⟩)|(go_at_call 319;refine(Kq _ Ur h0 h1 hl Us).mono ?_;rintro e w2 ⟨rfl,q1,q2⟩)|(go_at_call 320;refine(Gr _ Ur h0 h1 hl Us).mono ?_;rintro e w2 ⟨rfl,q1,q2⟩)|(go_at_call 321;refine(HZ _).mono ?_;rintro e w2 ⟨rfl,rfl⟩)|(go_at_call 315;(first|refine(nX _ Ur h0 h1 hl Us).mono ?_|refine(nX _ Ur UD UE hl Us).mono ?_);rintro e w2 ⟨rfl,q1,q2⟩))
   go_end0;exact⟨rfl,q1,(Wr.of B0 hNw).trans q2⟩
section
variable {S:d8} {mp:am->Option Nat} {B:Nat}
def Sa (S:d8)(R:MT->PM->List UInt8)(f:eT)(l:List PV):List UInt8:=if ig S f then eY f.num (nZ S f)++vi (mG S R f l).length else []
def Sb (S:d8)(f:eT):List UInt8:=if ig S f then []else eY f.num (nZ S f)
theorem NL (S:d8)(R:MT->PM->List UInt8)(f:eT)(l:List PV):jU S R f l=Sa S R f l++l.flatMap λv=>Sb S f++fS S R f v:=by
 unfold jU Sa Sb
 split
 ·simp only[aS];rw[eZ,aZ];rfl
 ·rfl
theorem NM {n:Nat}(H:P5 S mp B n)(hN:DH S)(w:an)(Z:ap)(v:Value)(l:List PV)(d:MT)(f:eT)(g:GF)(fb k N b:Nat)(l0:List UInt8)(cx:sF w B S mp)(hf:eJ w (λb=>b<B) mp g fb)(fg:FG S mp d f g)(hnm:0<=f.num/\f.num<=536870911)(hv:pN (iH k w Z) w Z v l)(hZ:∀i,Z i->i<N)(Uw:B<=N)(Uy:N<=w.heap.size)(hO:OY k l)
  (hs:∀x∈l,er S (dP S n) f x=true) (hW:fh w N b (d7 b) l0) (hl:l0.length+(jU S (ed S n) f l).length<=140737488355328):
  Ua 152 #[ag fb,v,d7 b] w (iw N b l0 (jU S (ed S n) f l) w):=by
 obtain⟨a,c,rfl⟩:=hv.form;have⟨pv,rv,h1,hfB,UG,UN⟩:=hf.blk;obtain⟨pq,rfl⟩:=gq UN;have UK:(mG S (ed S n) f l).length<=140737488355328:=by have:=Gy S (ed S n) f l;omega
 have UD:0<=nZ S f/\nZ S f<8:=by rw[<-fg.tk];exact sM mp g
 have hk:∀{W},Below N w W->eJ W (λb=>b<B) mp g fb:=λhW=>hf.keep λb q _=>hW.block b Ue
 have HT:Hid (∀W,Below N w W->Ua 231 #[ag fb] W λe w'=>e= .returned (.agg #[aa f.num,aa (nZ S f)])/\Below W.heap.size W w'):=λW hW=>by
  have:=xM W _ mp g fb (hk hW)
  rwa [fg.eq,fg.tk]at this
 have HE:Hid (∀(W:an) (l2:List UInt8),Below N w W->fh W N b (d7 b) l2->l2.length+(eY f.num (nZ S f)).length<=140737488355328->Ua 230 #[d7 b,.agg #[aa f.num,aa (nZ S f)]] W (iw N b l2 (eY f.num (nZ S f)) W)):=λW l2 Us hw Ux=>
  Kt f.num (nZ S f) hnm.1 hnm.2 UD.1 UD.2 hw Ux (by have:=Us.size;omega)
 have HP:Hid (∀W,Below N w W->Ua 209 #[ag fb] W λe w'=>e= .returned (.bool (ig S f))/\Below W.heap.size W w'):=λW hW=>by
  have:=lT W _ mp g fb (hk hW)
  rwa [fg.pk]at this
 have HV:Hid (∀W,Below N w W->Ua 233 #[.agg #[aa (eh mp g),.pointer pq],.slice a l.length c] W (gP (mG S (ed S n) f l) W)):=λW hW=>
  DI (uj hN n) hN W Z _ l d f g fb (.pointer pq) k (cx.on (dV hW Uw)) (hk hW) fg (hv.under hW hZ) hO ⟨rv,(hW.block fb Ue).trans h1⟩ hs UK
 have HX:Hid (∀(W:an) (x:PV) (mv:Value) (l2:List UInt8),Below N w W->x∈l->iH k w Z mv x.2.2->fh W N b (d7 b) l2->l2.length+(fS S (ed S n) f x).length<=140737488355328->Ua 234 #[.agg #[aa (eh mp g),.pointer pq],fN x mv,d7 b] W (iw N b l2 (fS S (ed S n) f x) W)):=λW x mv l2 Us hx hm hw Ux=>
  NK H hN W Z mv x d f g fb (.pointer pq) k N b l2 (cx.on (dV Us Uw)) (hk Us) fg (hm.under Us hZ) hZ Uw (by have:=Us.size;omega) (hO.2 x hx).2.2.2 (hO.2 x hx).1 (hO.2 x hx).2.1 ⟨rv,(Us.block fb Ue).trans h1⟩ (hs x hx) hw Ux
 obtain⟨vcs,UO,UP⟩:=hv;have hll:=hO.1;rw[NL]at hl⊢;have HD:Hid (Sa S (ed S n) f l=if ig S f then eY f.num (nZ S f)++vi (mG S (ed S n) f l).length else []):=rfl;have HG:Hid (Sb S f=if ig S f then []else eY f.num (nZ S f)):=rfl;generalize Sa S (ed S n) f l=hd at*;generalize Sb S f=tg at*;generalize mG S (ed S n) f l=y at*;generalize fS S (ed S n) f=bv at*;generalize eY f.num (nZ S f)=tb at*;generalize nZ S f=tk at*;generalize ig S f=pk at*;generalize eh mp g=gb at*;obtain⟨bd,UH⟩:∃bd:PV->List UInt8,bd=λx=>tg++bv x:=⟨_,rfl⟩
 have HB:Hid (∀x,bd x=tg++bv x):=λx=>by rw[UH]
 rw[<-UH]at hl⊢;rw[aH]at hl
 have HA:Hid (∀j,l0.length+hd.length+((l.take j).flatMap bd).length<=140737488355328):=λj=>by
  have:=ip (g:=bd) (l:=l) j;omega
 clear UH UN UG hf UD hs hO H cx hnm fg hk hl;have P1:=HP.out w (Below.refl _ _)
 cases pk with
 |false=>
  have UA:Hid (hd= []):=HD.out;obtain rfl:tg=tb:=HG.out;go_enter func152,ntmps152;go_wp2_with fail;refine P1.mono ?_;rintro e w1 ⟨rfl,b1⟩;have W1:=Wr.of b1 Uy;have US:=hW.on b1;go_wp2;go_loopw [7,24] (λ_ jv wr=>∃j:Nat,jv=aa j/\j<=l.length/\fh wr N b (d7 b) (l0++(l.take j).flatMap bd)/\Wr N w wr) (λ_ jv _=>l.length-(intOf jv).toNat)
  case atStart=>grind
  case round=>
   obtain⟨j,rfl,hj,Ut,Wj⟩:=hrel;have hsz:=Wj.bel.size
   by_cases hlt:j<l.length
   ·have⟨x,hx⟩:=gx hlt;have⟨mv,p1,p2,p3,p4,p5⟩:=UP.get hx;obtain⟨ma,mc,rfl⟩:=p1.form;obtain⟨gv,rfl,Uv,UQ,Uq⟩:=UO.at Ue;have Ur:=Wj.bel.block _ (hZ _ Uv);have t0:=Uq wr Ur _ _ p2;have t1:=kX (Uq wr Ur _ _ p3);have t2:=kX (Uq wr Ur _ _ p4);have t3:=kX (Uq wr Ur _ _ p5);have UT:(j:Int)<(l.length:Int):=Ue;have⟨B1,K1⟩:=dS wr #[.int .u64 x.1,ae x.2.1,.slice ma x.2.2.fs.length mc,ae x.2.2.unk] 55;have W2:=Wj.trans (Wr.of B1 Ue);have UB:=Ut.on B1;have hA:=HA.out (j+1);rw[fM hx,HB.out]at hA
    have HL:Hid (l0++(l.take (j+1)).flatMap bd=l0++(l.take j).flatMap bd++tg++bv x):=by
     show l0++(l.take (j+1)).flatMap bd=_;rw[fM hx,HB.out]
     grind
    have UU:(l0++(l.take j).flatMap bd).length+tg.length+(bv x).length<=140737488355328:=by
     grind
    have Uu:=aI hx;generalize l0++(l.take j).flatMap bd=lj at*;clear Uq p2 p3 p4 p5 hx hA Ur;have UV:=W2.bel.size;have P2:=HP.out _ W2.bel;go_wp2_with fail;generalize wr.alloc (ak #[.int .u64 x.1,ae x.2.1,.slice ma x.2.2.fs.length mc,ae x.2.2.unk] 55)=w2 at*;refine P2.mono ?_;rintro e w3 ⟨rfl,b3⟩;have W3:=W2.trans (Wr.of b3 Ue);go_wp2_with fail;refine(HT.out w3 W3.bel).mono ?_;rintro e w4 ⟨rfl,b4⟩;have B4:=dI b3 b4;have W4:=W2.trans (Wr.of B4 Ue);go_wp2_with fail;refine(HE.out w4 lj W4.bel (UB.on B4) Ue).mono ?_;rintro e wc ⟨rfl,UE,q2⟩;have Wc:=W4.trans q2;have Kc:=q2.fr _ _ _ Uh Uh (K1.below B4 K1.lt);have h3:dM wc fb _ _:=(Wc.bel.block fb Ue).trans h1;have UC:=HX.out wc.drew x _ (lj++tg) Wc.bel.drew Uu p1 (UE.on (Uc wc).drew) (by rw[aH];omega);unfold fN at UC;go_upto_region 8 with fail
    generalize wr.heap.size=vb at*
    have hC:wc.drew.cell? (ai fb 2)=some (aa gb)/\wc.drew.cell? (ai fb 3)=some (.pointer pq)/\wc.drew.cell? (ai vb 0)=some (.int .u64 x.1)/\wc.drew.cell? (ai vb 1)=some (ae x.2.1)/\wc.drew.cell? (ai vb 2)=some (.slice ma x.2.2.fs.length mc)/\wc.drew.cell? (ai vb 3)=some (ae x.2.2.unk):=
     ⟨h3.drew.cell 2,h3.drew.cell 3,Kc.drew.cell 0,Kc.drew.cell 1,Kc.drew.cell 2,Kc.drew.cell 3⟩
    go_region_held2 (λW=>W.cell? (ai fb 2)=some (aa gb)/\W.cell? (ai fb 3)=some (.pointer pq)/\W.cell? (ai vb 0)=some (.int .u64 x.1)/\W.cell? (ai vb 1)=some (ae x.2.1)/\W.cell? (ai vb 2)=some (.slice ma x.2.2.fs.length mc)/\W.cell? (ai vb 3)=some (ae x.2.2.unk))
     (first|exact hC|exact⟨h4.cell 2,h4.cell 3,K4.cell 0,K4.cell 1,K4.cell 2,K4.cell 3⟩)
     (first
      |(
        go_at_call 234;refine UC.mono ?_;rintro e w4 ⟨rfl,q1,q3⟩;have W4:Wr N w w4:=⟨Wc.bel.drew.trans q3.bel,λi cs T h1 h2 h=>q3.fr i cs T h1 h2 (Wc.fr i cs T h1 h2 h)⟩;have h4:dM w4 fb _ _:=(W4.bel.block fb Ue).trans h1
        have K4:=q3.fr _ _ _ Uh Uh Kc))
    go_wp2;go_roundw
    case rel=>exact⟨j+1,by go_num,Ue,by rw[HL.out];exact q1,W4⟩
    case measure=>simp[intOf];omega
   ·obtain rfl:j=l.length:=Ue;rw[bo]at Ut;go_wp2;go_end0;exact⟨rfl,by rw[UA.out,aS];omega,Wj⟩
 |true=>
  have UA:Hid (hd=tb++vi y.length):=HD.out;have UW:Hid (tg= []):=HG.out;have hA:=HA.out 0;rw[UA.out]at hA;simp only[aH]at hA;go_enter func152,ntmps152;go_wp2_with fail;refine P1.mono ?_;rintro e w2 ⟨rfl,b2⟩;have W2:=Wr.of b2 Uy;go_wp2_with fail;refine(HT.out w2 W2.bel).mono ?_;rintro e w3 ⟨rfl,b3⟩;have B3:=dI b2 b3;have W3:=Wr.of B3 Uy;go_wp2_with fail;refine(HE.out w3 l0 W3.bel (hW.on B3) Ue).mono ?_;rintro e w4 ⟨rfl,q1,q2⟩;have W4:=W3.trans q2;have h4:=(W4.bel.block fb Ue).trans h1;have⟨k1,k2⟩:=dM.rules h4;go_wp2_with fail;refine(HV.out w4 W4.bel).mono ?_;rintro e w5 ⟨rfl,b5⟩;have UX:=W4.bel.size;have UY:=b5.size;go_wp2_with fail;refine(pM y.length (q1.on b5) UK (by grind) Ue).mono ?_;rintro e w1 ⟨rfl,r1,r2⟩;have W1:=(W4.trans (Wr.of b5 Ue)).trans r2;have US:fh w1 N b (d7 b) (l0++hd):=by rw[UA.out,<-aZ];exact r1
  clear k1 k2 h4 UA q1 q2 b5 r1 r2 W4 W3 W2 B3 b2 b3 UX UY hA;go_wp2;go_loopw [7,24] (λ_ jv wr=>∃j:Nat,jv=aa j/\j<=l.length/\fh wr N b (d7 b) (l0++hd++(l.take j).flatMap bd)/\Wr N w wr) (λ_ jv _=>l.length-(intOf jv).toNat)
  case atStart=>grind
  case round=>
   obtain⟨j,rfl,hj,Ut,Wj⟩:=hrel;have hsz:=Wj.bel.size
   by_cases hlt:j<l.length
   ·have⟨x,hx⟩:=gx hlt;have⟨mv,p1,p2,p3,p4,p5⟩:=UP.get hx;obtain⟨ma,mc,rfl⟩:=p1.form;obtain⟨gv,rfl,Uv,UQ,Uq⟩:=UO.at Ue;have Ur:=Wj.bel.block _ (hZ _ Uv);have t0:=Uq wr Ur _ _ p2;have t1:=kX (Uq wr Ur _ _ p3);have t2:=kX (Uq wr Ur _ _ p4);have t3:=kX (Uq wr Ur _ _ p5);have UT:(j:Int)<(l.length:Int):=Ue;have⟨B1,K1⟩:=dS wr #[.int .u64 x.1,ae x.2.1,.slice ma x.2.2.fs.length mc,ae x.2.2.unk] 55;have W2:=Wj.trans (Wr.of B1 Ue);have UB:=Ut.on B1;have hA:=HA.out (j+1);rw[fM hx,HB.out]at hA
    have HL:Hid (l0++hd++(l.take (j+1)).flatMap bd=l0++hd++(l.take j).flatMap bd++tg++bv x):=by
     show l0++hd++(l.take (j+1)).flatMap bd=_;rw[fM hx,HB.out]
     grind
    have UU:(l0++hd++(l.take j).flatMap bd).length+tg.length+(bv x).length<=140737488355328:=by
     grind
    have Uu:=aI hx;generalize l0++hd++(l.take j).flatMap bd=lj at*;clear Uq p2 p3 p4 p5 hx hA Ur;have UV:=W2.bel.size;have P2:=HP.out _ W2.bel;go_wp2_with fail;generalize wr.alloc (ak #[.int .u64 x.1,ae x.2.1,.slice ma x.2.2.fs.length mc,ae x.2.2.unk] 55)=w2 at*;refine P2.mono ?_;rintro e wc ⟨rfl,b3⟩;have UE:fh wc N b (d7 b) (lj++tg):=by rw[UW.out,bN];exact UB.on b3
    have Wc:=W2.trans (Wr.of b3 Ue);have Kc:=K1.below b3 K1.lt;have h3:dM wc fb _ _:=(Wc.bel.block fb Ue).trans h1;have UC:=HX.out wc.drew x _ (lj++tg) Wc.bel.drew Uu p1 (UE.on (Uc wc).drew) (by rw[aH];omega);unfold fN at UC;go_upto_region 8 with fail
    generalize wr.heap.size=vb at*
    have hC:wc.drew.cell? (ai fb 2)=some (aa gb)/\wc.drew.cell? (ai fb 3)=some (.pointer pq)/\wc.drew.cell? (ai vb 0)=some (.int .u64 x.1)/\wc.drew.cell? (ai vb 1)=some (ae x.2.1)/\wc.drew.cell? (ai vb 2)=some (.slice ma x.2.2.fs.length mc)/\wc.drew.cell? (ai vb 3)=some (ae x.2.2.unk):=
     ⟨h3.drew.cell 2,h3.drew.cell 3,Kc.drew.cell 0,Kc.drew.cell 1,Kc.drew.cell 2,Kc.drew.cell 3⟩
    go_region_held2 (λW=>W.cell? (ai fb 2)=some (aa gb)/\W.cell? (ai fb 3)=some (.pointer pq)/\W.cell? (ai vb 0)=some (.int .u64 x.1)/\W.cell? (ai vb 1)=some (ae x.2.1)/\W.cell? (ai vb 2)=some (.slice ma x.2.2.fs.length mc)/\W.cell? (ai vb 3)=some (ae x.2.2.unk))
     (first|exact hC|exact⟨h4.cell 2,h4.cell 3,K4.cell 0,K4.cell 1,K4.cell 2,K4.cell 3⟩)
     (first
      |(
        go_at_call 234;refine UC.mono ?_;rintro e w4 ⟨rfl,q1,q3⟩;have W4:Wr N w w4:=⟨Wc.bel.drew.trans q3.bel,λi cs T h1 h2 h=>q3.fr i cs T h1 h2 (Wc.fr i cs T h1 h2 h)⟩;have h4:dM w4 fb _ _:=(W4.bel.block fb Ue).trans h1
        have K4:=q3.fr _ _ _ Uh Uh Kc))
    go_wp2;go_roundw
    case rel=>exact⟨j+1,by go_num,Ue,by rw[HL.out];exact q1,W4⟩
    case measure=>simp[intOf];omega
   ·obtain rfl:j=l.length:=Ue;rw[bo]at Ut;go_wp2;go_end0;exact⟨rfl,by grind,Wj⟩
theorem Id (hN:DH S):∀n,P5 S mp B n:=by
 intro n
 induction n with
 |zero=>
  intro w Z v m d mb gs nm k N b l cx hm hG UR hM hZ Uw Uy hO hs
  cases hs
 |succ n ih=>
  intro w Z v m d mb gs nm k N b l cx hm hG UR hM hZ Uw Uy hO hs hW hl
  cases k with
  |zero=>exact hM.elim
  |succ k=>
  obtain⟨cs,hr,U1⟩:=hM;obtain⟨a,c,rfl⟩:=hr.form;obtain⟨ho1,ho2,U2⟩:=hO;rw[dP,aJ]at hs;have hX:=λx hx=>xN (x:=x) hs.1 hx
  have⟨B0,K1⟩:=dS w #[.slice a m.fs.length c,ae m.unk] 49;have W0:=Wr.of B0 Uy;have hW0:=hW.on B0;rw[ed]at hl⊢;rw[aH]at hl
  have HC:Hid (∀(W:an) (x:PF) (f:eT) (g:GF) (fb:Nat) (v:Value) (l2:List UInt8),Below N w W->x∈m.fs->dR d.fs x.1=some f->FG S mp d f g->eJ W (λb=>b<B) mp g fb->pN (iH k w Z) w Z v x.2->fh W N b (d7 b) l2->l2.length+(jE S (ed S n) d x).length<=140737488355328->Ua 152 #[ag fb,v,d7 b] W (iw N b l2 (jE S (ed S n) d x) W)):=λW x f g fb v l2 Us hx Uz fg UI hv hw Ux=>by
   have⟨f',q1,q2⟩:=hX x hx;obtain rfl:f=f':=by grind
   have hb:jE S (ed S n) d x=jU S (ed S n) f x.2:=by unfold jE;rw[Uz]
   rw[hb]at Ux⊢;exact NM ih hN W Z v x.2 d f g fb k N b l2 (cx.on (dV Us Uw)) UI fg (UR _ _ Uz) (hv.under Us hZ) hZ Uw (by have:=Us.size;omega) (U2 x hx) (λv hv=>xO q2 hv) hw Ux
  have HT:Hid (∀i,l.length+((m.fs.take i).flatMap (jE S (ed S n) d)).length+m.unk.data.toList.length<=140737488355328):=λi=>by
   have:=ip (g:=jE S (ed S n) d) (l:=m.fs) i;omega
  generalize jE S (ed S n) d=bx at*;clear hl hs;have⟨k1,k2⟩:=K1.rules;go_enter func97,ntmps97;go_wp2;generalize w.alloc (ak #[.slice a m.fs.length c,ae m.unk] 49)=w1 at*;go_loopw [7,11] (λ_ iv wr=>∃i:Nat,iv=aa i/\i<=m.fs.length/\fh wr N b (d7 b) (l++(m.fs.take i).flatMap bx)/\Wr N w1 wr) (λ_ iv _=>m.fs.length-(intOf iv).toNat)
  case atStart=>exact⟨0,rfl,aL _,by grind,Wr.refl _ _⟩
  case round=>
   obtain⟨i,rfl,hi,Ut,Wi⟩:=hrel;clear k1 k2;have WI:=W0.trans Wi;have hsz:=WI.bel.size
   by_cases hlt:i<m.fs.length
   ·have⟨x,hx⟩:=gx hlt;have⟨vv,p1,p2,p3⟩:=U1.get hx;obtain⟨va,vc,rfl⟩:=p1.form;obtain⟨g0,rfl,UJ,UQ,Uq⟩:=hr.at Ue;have Ur:=WI.bel.block _ (hZ _ UJ);have t0:=Uq wr Ur _ _ p2;have t1:=kX (Uq wr Ur _ _ p3);have⟨B1,K5⟩:=dS wr #[aa x.1,.slice va x.2.length vc] 58;have UF:=Wi.trans (Wr.of B1 Ue);have UL:=W0.trans UF;have UB:=Ut.on B1.drew;have⟨f,Uz,_⟩:=hX x (aI hx);have⟨g,hg,fg⟩:=hG.yes _ _ Uz;have HF:=qh _ (λb=>b<B) mp mb nm gs x.1 (hm.keep λb q _=>UL.bel.drew.block b Ue) hG.srt hG.len;rw[hg]at HF;have hT:=HT.out (i+1);rw[fM hx,aH]at hT;have UZ:(l++(m.fs.take i).flatMap bx).length+(bx x).length<=140737488355328:=by grind
    have HZ:=λfb q=>HC.out _ x f g fb _ _ UL.bel.drew (aI hx) Uz fg q p1 UB UZ
    have HS:Hid (l++(m.fs.take (i+1)).flatMap bx=l++(m.fs.take i).flatMap bx++bx x):=by
     show l++(m.fs.take (i+1)).flatMap bx=_;rw[fM hx,aZ]
    generalize l++(m.fs.take i).flatMap bx=li at*;have hij:(i:Int)<(m.fs.length:Int):=Ue;clear Uq p2 p3 hx hg Uz hT Ur;go_upto_region 4 with fail
    generalize wr.alloc (ak #[aa x.1,.slice va x.2.length vc] 58)=w2 at*;generalize wr.heap.size=vb at*;have hC:w2.drew.cell? (ai vb 0)=some (aa x.1)/\w2.drew.cell? (ai vb 1)=some (.slice va x.2.length vc):=⟨K5.drew.cell 0,K5.drew.cell 1⟩
    go_region_held2 (λW=>W.cell? (ai vb 0)=some (aa x.1)/\W.cell? (ai vb 1)=some (.slice va x.2.length vc))
     (first|exact hC|exact⟨UM.cell 0,UM.cell 1⟩)
     (first
      |(
        go_at_call 153;refine HF.mono ?_
        rintro e w3 ⟨⟨fb,rfl,UI⟩,rfl⟩)
      |(
        go_at_call 152;refine(HZ _ UI).mono ?_;rintro e w3 ⟨rfl,q1,q2⟩;have UM:=q2.fr _ _ _ Uh Uh K5.drew
        have U0:Wr N w1 w3:=⟨UF.bel.drew.trans q2.bel,λi cs T h1 h2 h=>q2.fr i cs T h1 h2 (UF.fr i cs T h1 h2 h)⟩))
    go_wp2;go_roundw
    case rel=>exact⟨i+1,by go_num,Ue,by rw[HS.out];exact q1,U0⟩
    case measure=>simp[intOf];omega
   ·obtain rfl:i=m.fs.length:=Ue;have hT:=HT.out m.fs.length;rw[bo]at Ut hT;have K2:=Wi.fr _ _ _ Uh Uh K1;have⟨k3,k4⟩:=K2.rules;have HR:=ue m.unk Ut (by grind) Ue;go_wp2_with fail;refine HR.mono ?_;rintro e w3 ⟨rfl,q1,q2⟩;go_wp2;go_end0;exact⟨rfl,by grind,WI.trans q2⟩
end
def NO (c:PV->List UInt8)(p:PV->Bool)(N f:Nat)(cap:aq)(W:an):Prop:=
 ∀(W':an) (Z:ap) (x:PV) (mv:Value) (k b:Nat) (l0:List UInt8),Below N W W'->iH k W' Z mv x.2.2->(∀i,Z i->i<N)->oT k x.2.2->0<=x.1->x.1<18446744073709551616->p x=true->fh W' N b (d7 b) l0->l0.length+(c x).length<=140737488355328->
  Ua f (fN x mv::d7 b::cap).toArray W' (iw N b l0 (c x) W')
def Sc (c:List PV->List UInt8)(p:PV->Bool)(N f:Nat)(cap:aq)(W:an):Prop:=
 ∀(W':an) (Z:ap) (vv:Value) (l:List PV) (k b:Nat) (l0:List UInt8),Below N W W'->pN (iH k W' Z) W' Z vv l->(∀i,Z i->i<N)->OY k l->(∀x∈l,p x=true)->fh W' N b (d7 b) l0->l0.length+(c l).length<=140737488355328->
  Ua f (vv::d7 b::cap).toArray W' (iw N b l0 (c l) W')
def P6 (S:d8)(iq:aw)(n:Nat)(t:MT)(N:Nat)(W:an):Prop:=
 ∀(W':an) (Z:ap) (v:Value) (m:PM) (k b:Nat) (l0:List UInt8),Below N W W'->iH k W' Z v m->(∀i,Z i->i<N)->oT k m->dP S n t m=true->fh W' N b (d7 b) l0->l0.length+(ed S n t m).length<=140737488355328->
  Ua 99 #[.pointer iq,.agg #[v,ae m.unk],d7 b] W' (iw N b l0 (ed S n t m) W')
section
variable {S:d8} {fl:eT} {n N:Nat} {W:an}
def SD (ib:Nat)(iq:aw)(t:MT)(hN:N<=W.heap.size)(hb:dM W ib #[.pointer iq] 116)(hi:ib<N)(H:Ff S iq n t N W)(H2:P6 S iq n t N W)(h16:fB S fl=16)(hsub:eV S fl=some t):
  NO (fS S (ed S n) fl) (er S (dP S n) fl) N 371 [ag ib] W:=by
 intro W' Z x mv k b l0 B hm hZ hO h0 h1 hp hW hl;show Ua 371 #[fN x mv,d7 b,ag ib] W' _;rw[Gz h16 hsub]at hl⊢;have hR:=uh hp h16 hsub;unfold eZ at hl;rw[aH]at hl;obtain⟨ma,mc,rfl⟩:=hm.form;have⟨B1,K1⟩:=dS W' #[.int .u64 x.1,ae x.2.1,.slice ma x.2.2.fs.length mc,ae x.2.2.unk] 55;have Ur:=aG hN B.size;have B2:=xT B B1 hN;have Ux:=hb.below B2 hi;have HC:=H _ Z _ x.2.2 k B2 (hm.below B1 (ay _)) hO hR Ue
 have HW:Hid (∀(W2:an) (l2:List UInt8),Below N W' W2->fh W2 N b (d7 b) l2->l2.length+(ed S n t x.2.2).length<=140737488355328->Ua 99 #[.pointer iq,.agg #[.slice ma x.2.2.fs.length mc,ae x.2.2.unk],d7 b] W2 (iw N b l2 (ed S n t x.2.2) W2)):=λW2 l2 h3 hw Ut=>
  H2 W2 Z _ x.2.2 k b l2 (B.trans h3) (hm.under h3 hZ) hZ hO hR hw Ut
 have UG:=hW.on B1;unfold fN;generalize ed S n t x.2.2=y at*;have⟨k1,k2⟩:=K1.rules;have⟨k3,k4⟩:=Ux.rules;clear hR;go_enter func371,ntmps371;go_wp2_with fail;generalize W'.alloc (ak #[.int .u64 x.1,ae x.2.1,.slice ma x.2.2.fs.length mc,ae x.2.2.unk] 55)=w1 at*;refine HC.mono ?_;rintro e w2 ⟨rfl,b2⟩;have B3:=dI B1 b2;have UE:=B3.size;go_wp2_with fail;refine(pM y.length (UG.on b2) Ue Ue Ue).mono ?_;rintro e w3 ⟨rfl,q1,q2⟩;have UH:=q2.fr _ _ _ Uh Uh (K1.below b2 K1.lt);have UI:=q2.fr _ _ _ Uh Uh (Ux.below b2 Ux.lt);have Q:=(Wr.of B3 Ur).trans q2;clear k1 k2 k3 k4;have⟨k1,k2⟩:=UH.rules;have⟨k3,k4⟩:=UI.rules;go_wp2_with fail;refine(HW.out w3 _ Q.bel q1 (by grind)).mono ?_;rintro e w4 ⟨rfl,r1,r2⟩;go_wp2;go_end0;exact⟨rfl,by rw[aZ]at r1;exact r1,Q.trans r2⟩
def SE (hN:N<=W.heap.size)(hk:fB S fl=13\/fB S fl=14):NO (fS S (ed S n) fl) (er S (dP S n) fl) N 372 [] W:=by
 intro W' Z x mv k b l0 B hm hZ hO h0 h1 hp hW hl;show Ua 372 #[fN x mv,d7 b] W' _;have hb:fS S (ed S n) fl x=eZ x.2.1.data.toList:=by unfold fS;rw[dD Ue,dE hk]
 rw[hb]at hl⊢;obtain⟨ma,mc,rfl⟩:=hm.form;have⟨B1,K1⟩:=dS W' #[.int .u64 x.1,ae x.2.1,.slice ma x.2.2.fs.length mc,ae x.2.2.unk] 55;have Ur:=aG hN B.size;have HE:=Gs _ (hW.on B1) hl (aG Ur B1.size);unfold fN;have⟨k1,k2⟩:=K1.rules;go_enter func372,ntmps372;go_wp2_with fail;refine HE.mono ?_;rintro e w2 ⟨rfl,q1,q2⟩;go_wp2;go_end0;exact⟨rfl,q1,(Wr.of B1 Ur).trans q2⟩
def SF (hN:N<=W.heap.size)(hk:fB S fl=4\/fB S fl=5):NO (fS S (ed S n) fl) (er S (dP S n) fl) N 373 [] W:=by
 intro W' Z x mv k b l0 B hm hZ hO h0 h1 hp hW hl;show Ua 373 #[fN x mv,d7 b] W' _;have hb:fS S (ed S n) fl x=vi (Bu x.1):=by unfold fS;rw[dD Ue,dD Ue,dD Ue,dD Ue,dE hk]
 rw[hb]at hl⊢;have⟨UO,UP⟩:=vW h0 h1;obtain⟨ma,mc,rfl⟩:=hm.form;have⟨B1,K1⟩:=dS W' #[.int .u64 x.1,ae x.2.1,.slice ma x.2.2.fs.length mc,ae x.2.2.unk] 55;have Ur:=aG hN B.size;have HZ:=λW=>sL W x.1 h0 h1
 have HE:=nX _ (hW.on B1) UO UP hl (aG Ur B1.size);unfold fN;have⟨k1,k2⟩:=K1.rules;go_enter func373,ntmps373;go_wp2_with fail;refine(HZ _).mono ?_;rintro e w2 ⟨rfl,rfl⟩;go_wp2_with fail;refine HE.mono ?_;rintro e w2 ⟨rfl,q1,q2⟩;go_wp2;go_end0;exact⟨rfl,q1,(Wr.of B1 Ur).trans q2⟩
def SG (hN:N<=W.heap.size)(hk:fB S fl=7\/fB S fl=9\/fB S fl=11):NO (fS S (ed S n) fl) (er S (dP S n) fl) N 374 [] W:=by
 intro W' Z x mv k b l0 B hm hZ hO h0 h1 hp hW hl;show Ua 374 #[fN x mv,d7 b] W' _;have hb:fS S (ed S n) fl x=ol 4 x.1:=by unfold fS;rw[dD Ue,dD Ue,dE hk]
 rw[hb]at hl⊢;obtain⟨ma,mc,rfl⟩:=hm.form;have⟨B1,K1⟩:=dS W' #[.int .u64 x.1,ae x.2.1,.slice ma x.2.2.fs.length mc,ae x.2.2.unk] 55;have Ur:=aG hN B.size;have HE:=Kq _ (hW.on B1) h0 h1 hl (aG Ur B1.size);unfold fN;have⟨k1,k2⟩:=K1.rules;go_enter func374,ntmps374;go_wp2_with fail;refine HE.mono ?_;rintro e w2 ⟨rfl,q1,q2⟩;go_wp2;go_end0;exact⟨rfl,q1,(Wr.of B1 Ur).trans q2⟩
def SH (hN:N<=W.heap.size)(hk:fB S fl=8\/fB S fl=10\/fB S fl=12):NO (fS S (ed S n) fl) (er S (dP S n) fl) N 375 [] W:=by
 intro W' Z x mv k b l0 B hm hZ hO h0 h1 hp hW hl;show Ua 375 #[fN x mv,d7 b] W' _;have hb:fS S (ed S n) fl x=ol 8 x.1:=by unfold fS;rw[dD Ue,dD Ue,dD Ue,dE hk]
 rw[hb]at hl⊢;obtain⟨ma,mc,rfl⟩:=hm.form;have⟨B1,K1⟩:=dS W' #[.int .u64 x.1,ae x.2.1,.slice ma x.2.2.fs.length mc,ae x.2.2.unk] 55;have Ur:=aG hN B.size;have HE:=Gr _ (hW.on B1) h0 h1 hl (aG Ur B1.size);unfold fN;have⟨k1,k2⟩:=K1.rules;go_enter func375,ntmps375;go_wp2_with fail;refine HE.mono ?_;rintro e w2 ⟨rfl,q1,q2⟩;go_wp2;go_end0;exact⟨rfl,q1,(Wr.of B1 Ur).trans q2⟩
def SI (hN:N<=W.heap.size)(hk:fB S fl<4\/fB S fl=6\/fB S fl=15):NO (fS S (ed S n) fl) (er S (dP S n) fl) N 376 [] W:=by
 intro W' Z x mv k b l0 B hm hZ hO h0 h1 hp hW hl;show Ua 376 #[fN x mv,d7 b] W' _;have hb:fS S (ed S n) fl x=vi x.1:=by unfold fS;rw[dD Ue,dD Ue,dD Ue,dD Ue,dD Ue]
 rw[hb]at hl⊢;obtain⟨ma,mc,rfl⟩:=hm.form;have⟨B1,K1⟩:=dS W' #[.int .u64 x.1,ae x.2.1,.slice ma x.2.2.fs.length mc,ae x.2.2.unk] 55;have Ur:=aG hN B.size;have HE:=nX _ (hW.on B1) h0 h1 hl (aG Ur B1.size);unfold fN;have⟨k1,k2⟩:=K1.rules;go_enter func376,ntmps376;go_wp2_with fail;refine HE.mono ?_;rintro e w2 ⟨rfl,q1,q2⟩;go_wp2;go_end0;exact⟨rfl,q1,(Wr.of B1 Ur).trans q2⟩
end
section
variable {bv:PV->List UInt8} {p:PV->Bool} {N:Nat} {W:an}
def NP (tb vb vf:Nat)(vcap:aq)(nu kd:Int)(hN:N<=W.heap.size)(ht:dM W tb #[aa nu,aa kd] 237)(hv0:dM W vb #[.func (.func vf) #[] vcap.toArray] 404)(hi:tb<N)(hj:vb<N)(hn:0<=nu/\nu<=536870911)(hkd:0<=kd/\kd<8)(hen:∀args w,(callFunc vf args).run prog w= .ok (.enter vf args) w)(H:NO bv p N vf vcap W):
  Sc (λl=>l.flatMap λv=>eY nu kd++bv v) p N 294 [ag tb,ag vb] W:=by
 intro W' Z vv l k b l0 B hv hZ hO hp hW hl;show Ua 294 #[vv,d7 b,ag tb,ag vb] W' (iw N b l0 (l.flatMap λv=>eY nu kd++bv v) W');obtain⟨a,c,rfl⟩:=hv.form;obtain⟨UQ,UB,UC⟩:=hv;have Ur:=aG hN B.size;have Uy:=ht.below B hi;have Uz:=hv0.below B hj;have UJ:=hO.1;obtain⟨bd,UD⟩:∃bd:PV->List UInt8,bd=λx=>eY nu kd++bv x:=⟨_,rfl⟩
 have HB:Hid (∀x,bd x=eY nu kd++bv x):=λx=>by rw[UD]
 change l0.length+(l.flatMap λv=>eY nu kd++bv v).length<=_ at hl;rw[<-UD]at hl⊢
 have HA:Hid (∀j,l0.length+((l.take j).flatMap bd).length<=140737488355328):=λj=>by
  have:=ip (g:=bd) (l:=l) j;omega
 have HE:Hid (∀(W2:an) (l2:List UInt8),fh W2 N b (d7 b) l2->l2.length+(eY nu kd).length<=140737488355328->N<=W2.heap.size->Ua 230 #[d7 b,.agg #[aa nu,aa kd]] W2 (iw N b l2 (eY nu kd) W2)):=λW2 l2 hw Ut h2=>Kt nu kd hn.1 hn.2 hkd.1 hkd.2 hw Ut h2
 have HX:Hid (∀(W2:an) (x:PV) (mv:Value) (l2:List UInt8),Below N W' W2->x∈l->iH k W' Z mv x.2.2->fh W2 N b (d7 b) l2->l2.length+(bv x).length<=140737488355328->Ua vf (fN x mv::d7 b::vcap).toArray W2 (iw N b l2 (bv x) W2)):=λW2 x mv l2 h2 hx hm hw Ut=>
  H W2 Z x mv k b l2 (B.trans h2) (hm.under h2 hZ) hZ (hO.2 x hx).2.2.2 (hO.2 x hx).1 (hO.2 x hx).2.1 (hp x hx) hw Ut
 generalize eY nu kd=tg at*;clear UD hl hp H hO hn hkd;go_enter func294,ntmps294;go_wp2;go_loopw [7,10] (λ_ jv wr=>∃j:Nat,jv=aa j/\j<=l.length/\fh wr N b (d7 b) (l0++(l.take j).flatMap bd)/\Wr N W' wr) (λ_ jv _=>l.length-(intOf jv).toNat)
 case atStart=>exact⟨0,rfl,aL _,by grind,Wr.refl _ _⟩
 case round=>
  obtain⟨j,rfl,hj,Uv,Wj⟩:=hrel;have hsz:=Wj.bel.size
  by_cases hlt:j<l.length
  ·have⟨x,hx⟩:=gx hlt;have⟨mv,p1,p2,p3,p4,p5⟩:=UC.get hx;obtain⟨ma,mc,rfl⟩:=p1.form;obtain⟨gv,rfl,Uu,UR,Uq⟩:=UB.at Ue;have Us:=Wj.bel.block _ (hZ _ Uu);have t0:=Uq wr Us _ _ p2;have t1:=kX (Uq wr Us _ _ p3);have t2:=kX (Uq wr Us _ _ p4);have t3:=kX (Uq wr Us _ _ p5);have UK:(j:Int)<(l.length:Int):=Ue;have⟨B1,K1⟩:=dS wr #[.int .u64 x.1,ae x.2.1,.slice ma x.2.2.fs.length mc,ae x.2.2.unk] 55;have W2:=Wj.trans (Wr.of B1 Ue);have UL:=Uv.on B1;have hA:=HA.out (j+1);rw[fM hx,HB.out]at hA
   have HL:Hid (l0++(l.take (j+1)).flatMap bd=l0++(l.take j).flatMap bd++tg++bv x):=by
    show l0++(l.take (j+1)).flatMap bd=_;rw[fM hx,HB.out]
    grind
   have UF:(l0++(l.take j).flatMap bd).length+tg.length+(bv x).length<=140737488355328:=by
    grind
   have UA:=aI hx;have UE:=W2.bel.size;have UM:=HE.out _ _ UL Ue Ue;have T2:=W2.fr _ _ _ Uh Uh Uy;generalize l0++(l.take j).flatMap bd=lj at*;have⟨k1,k2⟩:=T2.rules;clear Uq p2 p3 p4 p5 hx hA Us;go_wp2_with fail;generalize wr.alloc (ak #[.int .u64 x.1,ae x.2.1,.slice ma x.2.2.fs.length mc,ae x.2.2.unk] 55)=w2 at*;refine UM.mono ?_;rintro e w3 ⟨rfl,q1,q2⟩;have W3:=W2.trans q2;have K3:=q2.fr _ _ _ Uh Uh K1;have V3:=W3.fr _ _ _ Uh Uh Uz;have Uw:=HX.out w3 x _ _ W3.bel UA p1 q1 (by grind);unfold fN at Uw;clear k1 k2;have⟨k1,k2⟩:=K3.rules;have⟨k3,k4⟩:=V3.rules;go_wp2_with fail;refine Uw.mono ?_;rintro e w4 ⟨rfl,r1,r2⟩;go_wp2;go_roundw
   case rel=>exact⟨j+1,by go_num,Ue,by rw[HL.out];exact r1,W3.trans r2⟩
   case measure=>simp[intOf];omega
  ·obtain rfl:j=l.length:=Ue;rw[bo]at Uv;go_wp2;go_end0;exact⟨rfl,Uv,Wj⟩
def KU (tb ab af vb vf:Nat)(acap vcap:aq)(nu kd:Int)(hN:N<=W.heap.size)(ht:dM W tb #[aa nu,aa kd] 237)(ha0:dM W ab #[.func (.func af) #[] acap.toArray] 262)(hv0:dM W vb #[.func (.func vf) #[] vcap.toArray] 404)(hi:tb<N)(hi2:ab<N)(hj:vb<N)(hn:0<=nu/\nu<=536870911)(hkd:0<=kd/\kd<8)
  (hen:∀args w,(callFunc vf args).run prog w= .ok (.enter vf args) w) (hea:∀args w,(callFunc af args).run prog w= .ok (.enter af args) w) (H:NO bv p N vf vcap W) (HA0:NI (λl=>l.flatMap bv) p N af acap W):
  Sc (λl=>eY nu kd++eZ (l.flatMap bv)) p N 370 [ag tb,ag ab,ag vb] W:=by
 intro W' Z vv l k b l0 B hv hZ hO hp hW hl;show Ua 370 #[vv,d7 b,ag tb,ag ab,ag vb] W' (iw N b l0 (eY nu kd++eZ (l.flatMap bv)) W');change l0.length+(eY nu kd++eZ (l.flatMap bv)).length<=_ at hl;obtain⟨a,c,rfl⟩:=hv.form;have Ur:=aG hN B.size;have Uy:=ht.below B hi;have UN:=ha0.below B hi2;have Uz:=hv0.below B hj;have UJ:=hO.1;unfold eZ at hl⊢;simp only[aH]at hl;have HA:Hid (∀j,((l.take j).flatMap bv).length<=(l.flatMap bv).length):=λj=>ip (g:=bv) (l:=l) j
 have HE:=Kt nu kd hn.1 hn.2 hkd.1 hkd.2 hW Ue Ur
 have HM:Hid (∀W2,Below N W' W2->Ua af (.slice a l.length c::acap).toArray W2 (gP (l.flatMap bv) W2)):=λW2 h2=>
  HA0 W2 Z _ l k (B.trans h2) (hv.under h2 hZ) hO hp (show(l.flatMap bv).length<=_ by omega)
 have HX:Hid (∀(W2:an) (x:PV) (mv:Value) (l2:List UInt8),Below N W' W2->x∈l->iH k W' Z mv x.2.2->fh W2 N b (d7 b) l2->l2.length+(bv x).length<=140737488355328->Ua vf (fN x mv::d7 b::vcap).toArray W2 (iw N b l2 (bv x) W2)):=λW2 x mv l2 h2 hx hm hw Ut=>
  H W2 Z x mv k b l2 (B.trans h2) (hm.under h2 hZ) hZ (hO.2 x hx).2.2.2 (hO.2 x hx).1 (hO.2 x hx).2.1 (hp x hx) hw Ut
 obtain⟨UQ,UB,UC⟩:=hv;obtain⟨y,HY⟩:∃y,Hid (l.flatMap bv=y):=⟨_,rfl⟩;rw[HY.out]at hl HA HM⊢;generalize eY nu kd=tg at*;clear hp H HA0 hO hn hkd;have⟨k1,k2⟩:=Uy.rules;go_enter func370,ntmps370;go_wp2_with fail;refine HE.mono ?_;rintro e w1 ⟨rfl,q1,W1⟩;have A1:=W1.fr _ _ _ Uh Uh UN;clear k1 k2;have⟨k1,k2⟩:=A1.rules;go_wp2_with fail;refine(HM.out w1 W1.bel).mono ?_;rintro e w2 ⟨rfl,b2⟩;have hs1:=W1.bel.size;have UE:=b2.size;go_wp2_with fail;refine(pM y.length (q1.on b2) Ue (by grind) Ue).mono ?_;rintro e w3 ⟨rfl,r1,r2⟩;have W3:=(W1.trans (Wr.of b2 Ue)).trans r2
 have hlen:(l0++tg++vi (y.length)).length+y.length<=140737488355328:=by
  grind
 have HF:Hid (l0++(tg++(vi (y.length)++y))=l0++tg++vi (y.length)++y):=by
  show l0++(tg++(vi (y.length)++y))=_
  grind
 generalize l0++tg++vi (y.length)=lh at*;clear k1 k2 A1 q1 r2 W1 HE b2;go_wp2;go_loopw [8,19] (λ_ jv wr=>∃j:Nat,jv=aa j/\j<=l.length/\fh wr N b (d7 b) (lh++(l.take j).flatMap bv)/\Wr N W' wr) (λ_ jv _=>l.length-(intOf jv).toNat)
 case atStart=>grind
 case round=>
  obtain⟨j,rfl,hj,Uv,Wj⟩:=hrel;have hsz:=Wj.bel.size
  by_cases hlt:j<l.length
  ·have⟨x,hx⟩:=gx hlt;have⟨mv,p1,p2,p3,p4,p5⟩:=UC.get hx;obtain⟨ma,mc,rfl⟩:=p1.form;obtain⟨gv,rfl,Uu,UR,Uq⟩:=UB.at Ue;have Us:=Wj.bel.block _ (hZ _ Uu);have t0:=Uq wr Us _ _ p2;have t1:=kX (Uq wr Us _ _ p3);have t2:=kX (Uq wr Us _ _ p4);have t3:=kX (Uq wr Us _ _ p5);have UK:(j:Int)<(l.length:Int):=Ue;have⟨B1,K1⟩:=dS wr #[.int .u64 x.1,ae x.2.1,.slice ma x.2.2.fs.length mc,ae x.2.2.unk] 55;have W2:=Wj.trans (Wr.of B1 Ue);have hA:=HA.out (j+1);rw[fM hx,aH]at hA
   have HL:Hid (lh++(l.take (j+1)).flatMap bv=lh++(l.take j).flatMap bv++bv x):=by
    show lh++(l.take (j+1)).flatMap bv=_;rw[fM hx,aZ]
   have UF:(lh++(l.take j).flatMap bv).length+(bv x).length<=140737488355328:=by
    grind
   have Uw:=HX.out _ x _ _ W2.bel (aI hx) p1 (Uv.on B1) UF;unfold fN at Uw;have V2:=W2.fr _ _ _ Uh Uh Uz;generalize lh++(l.take j).flatMap bv=lj at*;have⟨k1,k2⟩:=K1.rules;have⟨k3,k4⟩:=V2.rules;clear Uq p2 p3 p4 p5 hx hA Us;go_wp2_with fail;refine Uw.mono ?_;rintro e w4 ⟨rfl,s1,s2⟩;go_wp2;go_roundw
   case rel=>exact⟨j+1,by go_num,Ue,by rw[HL.out];exact s1,W2.trans s2⟩
   case measure=>simp[intOf];omega
  ·obtain rfl:j=l.length:=Ue;rw[bo,HY.out]at Uv;go_wp2;go_end0;exact⟨rfl,by rw[HF.out];omega,Wj⟩
end
def uV (w:an)(Q:ap)(b:Nat)(iq:aw)(v:Value):Prop:=
 ∃f cap,Kz v f cap/\∀(S:d8) (fl:eT) (n N:Nat) (W:an),Kp Q w W->(∀b,Q b->b<w.heap.size->b<N)->N<=W.heap.size->fB S fl=b->(fB S fl=16->∃t,eV S fl=some t/\Ff S iq n t N W/\P6 S iq n t N W)->NO (fS S (ed S n) fl) (er S (dP S n) fl) N f cap W
def DJ (w:an)(Q:ap)(mp:am->Option Nat)(g:GF)(iq:aw)(v:Value):Prop:=
 ∃f cap,Kz v f cap/\∀(S:d8) (d:MT) (fl:eT) (n N:Nat) (W:an),Kp Q w W->(∀b,Q b->b<w.heap.size->b<N)->N<=W.heap.size->FG S mp d fl g->(0<=fl.num/\fl.num<=536870911)->(fB S fl=16->∃t,eV S fl=some t/\Ff S iq n t N W/\P6 S iq n t N W)->Sc (jU S (ed S n) fl) (er S (dP S n) fl) N f cap W
section
variable {w w':an} {Q Q':ap} {mp:am->Option Nat} {g:GF} {iq:aw} {v:Value} (hk:Mv w Q w' Q')
include hk
def uV.move {b:Nat}(h:uV w Q b iq v):uV w' Q' b iq v:=by
 obtain⟨f,cap,h1,h2⟩:=h;exact⟨f,cap,h1,λS fl n N W q hN=>h2 S fl n N W (q.mv hk) λb x l=>hN b (hk b x l).1 (hk.lt x l)⟩
def DJ.move (h:DJ w Q mp g iq v):DJ w' Q' mp g iq v:=by
 obtain⟨f,cap,h1,h2⟩:=h;exact⟨f,cap,h1,λS d fl n N W q hN=>h2 S d fl n N W (q.mv hk) λb x l=>hN b (hk b x l).1 (hk.lt x l)⟩
end
end
end Go.Proofs.YtfebdimolnobaaaGreatDoor
