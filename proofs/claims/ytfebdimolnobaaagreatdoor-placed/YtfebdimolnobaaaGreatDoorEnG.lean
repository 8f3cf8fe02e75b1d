import Derived.Test.YtfebdimolnobaaaGreatDoorEnD
set_option maxRecDepth 100000
set_option maxHeartbeats 8000000
set_option linter.all false
namespace Go.Proofs.YtfebdimolnobaaaGreatDoor
open Go.RowKit
section
open Go.Sort
attribute [local go_sem↓] Go.wp_at_zero Go.wp_at_succ
theorem Dv (w:an)(k:Nat)(os:Array Obj):aj w (grow (w.drewN k) os):=
 ⟨rfl,rfl,rfl,by show w.heap.size<=(w.heap++os).size;rw[Array.size_append];omega,fun j hj=>by show(w.heap++os)[j]?=_;rw[Array.getElem?_append,if_pos hj]⟩
theorem JS (x y:LV)(w:an):Calls Tryz.prog 275 #[.agg #[.int .u64 x.1,ae x.2],.agg #[.int .u64 y.1,ae y.2]] w fun e w'=>e= .returned (aa (tL x y))/\aj w w':=
 (tM x y w).mono fun _ _ ⟨h1,q,os,h2⟩=>⟨h1,by rw[h2];exact Dv w q os⟩
def zY (e:PV):Prop:=e.2.2.fs.length=2->∃n k r rest,e.2.2.fs=(n,k::r)::rest/\0<=k.1/\k.1<18446744073709551616
def Iu:Option LV->LV
 |none=>(0,⟨#[]⟩)
 |some k=>k
def we (last:Option LV)(k:LV):Bool:=
 match last with
 |none=>true
 |some l=>decide (tL l k<0)
theorem Bo (sg:Bool)(last:Option LV)(e:PV)(l:List PV):iB sg last (e::l)=(((e.2.2.fs.length==2)&&qS e.2.2.unk)&&we last (GX sg e)&&iB sg (some (GX sg e)) l):=by
 cases last<;>rfl
theorem wg {k:Nat}{Z:ap}(w:an)(v:Value)(l:List PV)(sg:Bool)(hv:mB (fR (k+1) w Z) w Z v l)(hE:∀e∈l,zY e)(hl:l.length<=1099511627776):
  Calls Tryz.prog 240 #[v,.bool sg] w (dA (iB sg none l) w):=by
 obtain⟨a,c,rfl⟩:=hv.form;obtain⟨P,HP⟩:∃P,Hid (iB sg none l=P):=⟨_,rfl⟩;rw[HP.out];obtain⟨cs,hr,hv⟩:=hv;obtain⟨B0,K0⟩:=di w #[.int .u64 0,ae ⟨#[]⟩] 386;go_enter Tryz.func240,Tryz.ntmps240
 go_wp2;go_loopw [5,6,7,10] (fun _ _ _ jv wr=>∃(j:Nat) (last:Option LV),jv=aa j/\j<=l.length/\(j=0<->last=none)/\Hid (iB sg last (l.drop j)=P)/\de wr w.heap.size #[.int .u64 (Iu last).1,ae (Iu last).2] 386/\aj w wr) (fun _ _ _ jv _=>l.length-(intOf jv).toNat)
 case atStart=>exact⟨0,none,rfl,aM _,by simp,HP,K0,B0⟩
 case round=>
  obtain⟨j,last,rfl,hj,hz,HU,K,B⟩:=hrel
  by_cases hlt:j<l.length
  ·obtain⟨e,he⟩:=gx hlt;obtain⟨mv,p1,p2,p3,p4,p5⟩:=hv.get he;obtain⟨ma,mc,rfl⟩:=p1.form;obtain⟨g,rfl,hzg,Od,N3⟩:=hr.at (by omega);have t0:=N3 wr (B.block _ Od) _ _ p2;have t1:=jI (N3 wr (B.block _ Od) _ _ p3);have t2:=jI (N3 wr (B.block _ Od) _ _ p4);have t3:=jI (N3 wr (B.block _ Od) _ _ p5);have hlj:(j:Int)<(l.length:Int):=by omega
   have hdr:l.drop j=e::l.drop (j+1):=by rw[aU hlt];rw[aJ hlt]at he;rw[Option.some.inj he]
   have Oc:Hid ((((e.2.2.fs.length==2)&&qS e.2.2.unk)&&we last (GX sg e)&&iB sg (some (GX sg e)) (l.drop (j+1)))=P):=by
    show _=P;rw[<-HU.out,hdr,Bo]
   have Of:=hE e (aI he);have Ov:=p1.form;unfold zY at Of;generalize hfl:e.2.2.fs.length=fl at*;obtain⟨B1,K1⟩:=di wr #[.int .u64 e.1,ae e.2.1,.slice ma fl mc,ae e.2.2.unk] 55;have B2:=cY B B1;clear N3 p2 p3 p4 p5 he hdr HU Ov;unfold qS at Oc
   by_cases h2:fl=2
   ·subst h2;obtain⟨n,ke,r,rest,Oe,q0,q1⟩:=Of rfl;have Og:Hid ((e.2.2.unk.toList.isEmpty&&we last (GX sg e)&&iB sg (some (GX sg e)) (l.drop (j+1)))=P):=Oc.out;clear Oc Of
    cases h3:e.2.2.unk.toList.isEmpty with
    |false=>
     have Ob:Hid (P=false):=by
      show P=false;rw[<-Og.out,h3];rfl
     obtain⟨k1,k2⟩:=K1.rules;clear Oe hfl;go_wp2_with (go_at_call 157;refine(fD _).mono ?_;rintro e w2 ⟨rfl,rfl⟩;unfold da)
     exact⟨rfl,by rw[Ob.out];exact dA.no B2⟩
    |true=>
     obtain⟨fcs,Oi,Om⟩:=p1;rw[hfl]at Oi;obtain⟨vv,Oo,f0,f1⟩:=Om.get (i:=0) (f:=(n,ke::r)) (by rw[Oe];rfl);obtain⟨va,vc,rfl⟩:=Oo.form;obtain⟨gf,rfl,hzgf,Oj,N7⟩:=Oi.at (by omega);obtain⟨vcs,Oq,Ot⟩:=Oo;obtain⟨kmv,Ou,g2,g3,g4,g5⟩:=Ot.get (i:=0) (v:=ke) rfl;obtain⟨gv,rfl,hzgv,N8,N2⟩:=Oq.at (by simp);obtain⟨Oy,Oz,rfl⟩:=Ou.form;have s1:=jI (N7 _ (B2.block _ Oj) _ _ f1);have s2:=N2 _ (B2.block _ N8) _ _ g2;have s3:=jI (N2 _ (B2.block _ N8) _ _ g3);have s4:=jI (N2 _ (B2.block _ N8) _ _ g4);have s5:=jI (N2 _ (B2.block _ N8) _ _ g5);have Ol:GX sg e=GV sg (ke.1,ke.2.1):=by unfold GX MF;rw[Oe]
     have Oa:Hid ((we last (GV sg (ke.1,ke.2.1))&&iB sg (some (GV sg (ke.1,ke.2.1))) (l.drop (j+1)))=P):=by
      show _=P;rw[<-Og.out,h3,Ol];rfl
     have HK:=It (wr.alloc (ak #[.int .u64 e.1,ae e.2.1,.slice (some gf) 2 mc,ae e.2.2.unk] 55)) ke (.slice Oy ke.2.2.fs.length Oz) sg q0 q1;unfold ew kV at HK;clear Og Ol Oe hfl N7 N2 f0 f1 g2 g3 g4 g5 Om Oi Oq Ot Ou;generalize GV sg (ke.1,ke.2.1)=kk at*;generalize ke.2.2.fs.length=kl at*;have K2:=K.below B1 K.lt;obtain⟨k1,k2⟩:=K1.rules;simp only[Nat.zero_mul,JQ,bn]at s1 s2 s3 s4 s5;go_wp2_with (first|(go_at_call 157;refine(fN _).mono ?_;rintro e w2 ⟨rfl,rfl⟩))
     generalize(wr.alloc (ak #[.int .u64 e.1,ae e.2.1,.slice (some gf) 2 mc,ae e.2.2.unk] 55))=w2 at*;generalize wr.heap.size=eb at*;refine HK.mono ?_;rintro en w3 ⟨rfl,B3⟩;have B4:=cY B2 B3;have K3:=K2.below B3 K2.lt;obtain⟨B5,K5⟩:=di w3 #[.int .u64 kk.1,ae kk.2] 386;have B6:=cY B4 B5;have K6:=K3.below B5 K3.lt;have hne:w.heap.size<w3.heap.size:=K3.lt;have hk5:=K5.lt;clear k1 k2 K0 B0 K K1 K2 K3 B1 B2 B3 B4 s1 s2 s3 s4 s5 t0 t1 t2 t3;obtain⟨k1,k2⟩:=K5.rules;obtain⟨k3,k4⟩:=K6.rules
     by_cases hj0:j=0
     ·obtain rfl:=hz.1 hj0;subst hj0;have Oh:Hid (iB sg (some kk) (l.drop (0+1))=P):=Oa.out;simp only[Iu]at K6 k3;clear Oa hz;go_wp2_with fail
      generalize(w3.alloc (ak #[.int .u64 kk.1,ae kk.2] 386))=w4 at*;refine(fN _).mono ?_;rintro en w5 ⟨rfl,rfl⟩;go_wp2;go_roundw
      case rel=>exact⟨1,some kk,rfl,by omega,by simp,Oh,(K6.set 0 _).set 1 _,(B6.setCell (p:=(ai w.heap.size 0)) (ay _) _).setCell (p:=(ai w.heap.size 1)) (ay _) _⟩
      case measure=>simp[intOf];omega
     ·cases last with
      |none=>exact absurd (hz.2 rfl) hj0
      |some lk=>
       have hj1:((j:Int)==0)=false:=by simp;omega
       have HC:=JS lk kk (w3.alloc (ak #[.int .u64 kk.1,ae kk.2] 386));simp only[Iu]at K6 k3;obtain⟨cv,Ok⟩:∃cv,tL lk kk=cv:=⟨_,rfl⟩;rw[Ok]at HC
       by_cases hc0:cv<0
       ·have Oh:Hid (iB sg (some kk) (l.drop (j+1))=P):=by
         show _=P;rw[<-Oa.out,we,Ok,decide_eq_true hc0];rfl
        have Ow:decide (cv<0)=true:=decide_eq_true hc0;clear Oa hz;go_wp2_with fail
        generalize(w3.alloc (ak #[.int .u64 kk.1,ae kk.2] 386))=w4 at*;refine HC.mono ?_;rintro en w5 ⟨rfl,B7⟩;have B8:=cY B6 B7;have K7:=K5.below B7 K5.lt;have K8:=K6.below B7 K6.lt;clear k1 k2 k3 k4;obtain⟨k1,k2⟩:=K7.rules;obtain⟨k3,k4⟩:=K8.rules;go_wp2_with (first|(go_at_call 157;refine(fN _).mono ?_;rintro e w2 ⟨rfl,rfl⟩))
        go_roundw
        case rel=>exact⟨j+1,some kk,by go_num,by omega,by simp,Oh,(K8.set 0 _).set 1 _,(B8.setCell (p:=(ai w.heap.size 0)) (ay _) _).setCell (p:=(ai w.heap.size 1)) (ay _) _⟩
        case measure=>simp[intOf];omega
       ·have Ob:Hid (P=false):=by
         show P=false;rw[<-Oa.out,we,Ok,decide_eq_false hc0];rfl
        have Ow:decide (cv<0)=false:=decide_eq_false hc0;clear Oa hz;go_wp2_with fail
        refine HC.mono ?_;rintro en w5 ⟨rfl,B7⟩;have B8:=cY B6 B7;go_wp2_with (go_at_call 157;refine(fD _).mono ?_;rintro e w2 ⟨rfl,rfl⟩;unfold da)
        exact⟨rfl,by rw[Ob.out];exact dA.no B8⟩
   ·have Ob:Hid (P=false):=by
     show P=false;rw[<-Oc.out,show(fl==2)=false by simpa using h2];rfl
    have h2':((fl:Int)==2)=false:=by simp;omega
    obtain⟨k1,k2⟩:=K1.rules;clear hfl;go_wp2_with (go_at_call 157;refine(fD _).mono ?_;rintro e w2 ⟨rfl,rfl⟩;unfold da)
    exact⟨rfl,by rw[Ob.out];exact dA.no B2⟩
  ·obtain rfl:j=l.length:=by omega
   have Ox:Hid (P=true):=by
    show P=true;rw[<-HU.out,b9];rfl
   go_wp2;go_end0;exact⟨B,by rw[Ox.out];rfl⟩
end
section
attribute [local go_sem↓] Go.wp_at_zero Go.wp_at_succ
section
variable {S:dG} {mp:am->Option Nat} {d:MT} {f:ek} {g:GF}
theorem FG.gb (fg:FG S mp d f g):dC mp g=fB S f:=by
 unfold dC fB;rw[fg.map,fg.eq,fg.base]
 by_cases h:g.form=4<;>simp[h]
theorem FG.pk (fg:FG S mp d f g):fG mp g=iJ S f:=by
 unfold fG iJ;rw[fg.gb,fg.rep]
 by_cases h:g.form=2<;>simp[h]
theorem FG.tk (fg:FG S mp d f g):vX mp g=mM S f:=by
 unfold vX mM;rw[fg.pk,fg.gb]
theorem F5 (fg:FG S mp d f g):fB S f<=16:=by rw[<-fg.gb];exact jA mp g
theorem F6 {gs:List GF}(hG:ja S mp d gs)(num kind:Int):(pU mp gs num kind).isSome=tT S d num kind:=by
 unfold pU tT
 cases h:dv d.fs num with
 |none=>rw[hG.no num h];rfl
 |some f=>
  obtain⟨g,h1,fg⟩:=hG.yes num f h;rw[h1];simp only;unfold jd;rw[fg.gb,fg.pk]
  split<;>simp_all
theorem Bp {w:an}{B fb:Nat}(cx:p8 w B S mp)(hf:dP w (fun b=>b<B) mp g fb)(fg:FG S mp d f g)(h:fB S f=16):
  ∃t mb gs nm rv,ed S f=some t/\de w fb #[aa g.f.num,aa g.form,aa (dC mp g),ag mb,rv] 220/\gD w (fun b=>b<B) mp mb nm gs/\ja S mp t gs:=by
 obtain⟨pv,rv,h1,_,_,N3⟩:=hf.blk
 by_cases h4:g.form=4
 ·rw[if_pos h4]at N3;obtain⟨eb,rfl,hE⟩:=N3;rw[fg.eq]at hE;exact⟨dW f,eb,_,_,rv,by unfold ed;rw[if_pos (by rw[fg.map,h4];rfl)],h1,hE.msg,xB fg h4⟩
 ·rw[if_neg h4]at N3;have hm:f.isMap=false:=by rw[fg.map];simp[h4]
  have hb:S.base f.ty=16:=by unfold fB at h;rw[hm]at h;exact h
  obtain⟨t,ht⟩:=Option.isSome_iff_exists.1 (fg.nest.1 hb);obtain⟨mb,gs,q1,q2,q3⟩:=cx.md f.ty t ht;rw[fg.eq,q1]at N3;subst N3;exact⟨t,mb,gs,_,rv,by unfold ed;rw[hm];exact ht,h1,q2,q3⟩
end
def JT (S:dG)(mp:am->Option Nat)(B n:Nat):Prop:=
 ∀(w:an) (Z:ap) (v:Value) (m:PM) (d:MT) (mb:Nat) (gs:List GF) (nm:am) (deep k:Nat),p8 w B S mp->gD w (fun b=>b<B) mp mb nm gs->ja S mp d gs->fR k w Z v m->kT k m->n+deep=9->
  Calls Tryz.prog 101 #[ag mb,.agg #[v,ae m.unk],aa deep] w (dA (dm S n d m) w)
theorem xM {S:dG}{mp:am->Option Nat}{B n:Nat}(H:JT S mp B n)(w:an)(Z:ap)(mv:Value)(x:PV)(d:MT)(f:ek)(g:GF)(fb:Nat)(pv:Value)(deep k:Nat)(cx:p8 w B S mp)(hf:dP w (fun b=>b<B) mp g fb)(fg:FG S mp d f g)(hM:fR k w Z mv x.2.2)(hO:kT k x.2.2)(h0:0<=x.1)(hs:x.2.1.size<=1099511627776)
  (N3:∃rv,de w fb #[aa g.f.num,aa g.form,aa (dC mp g),pv,rv] 220) (hd:n+1+deep=9):
  Calls Tryz.prog 239 #[.agg #[aa (dC mp g),pv],ew x mv,aa deep] w (dA (dZ S (dm S n) f x) w):=by
 obtain⟨ma,mc,rfl⟩:=hM.form;have Of:=F5 fg;obtain⟨B0,KT,KV⟩:=eD w #[aa (fB S f),pv] #[.int .u64 x.1,ae x.2.1,.slice ma x.2.2.fs.length mc,ae x.2.2.unk] 216 55;have N8:=zV ((w.alloc (ak #[aa (fB S f),pv] 216)).alloc (ak #[.int .u64 x.1,ae x.2.1,.slice ma x.2.2.fs.length mc,ae x.2.2.unk] 55)) x ma mc;have N2:=Bk ((w.alloc (ak #[aa (fB S f),pv] 216)).alloc (ak #[.int .u64 x.1,ae x.2.1,.slice ma x.2.2.fs.length mc,ae x.2.2.unk] 55)) x ma mc;have N7:=I8 ((w.alloc (ak #[aa (fB S f),pv] 216)).alloc (ak #[.int .u64 x.1,ae x.2.1,.slice ma x.2.2.fs.length mc,ae x.2.2.unk] 55)) x (.slice ma x.2.2.fs.length mc);unfold ew at*;rw[fg.gb];unfold dZ;obtain⟨k1,k2⟩:=KT.rules;obtain⟨k3,k4⟩:=KV.rules
 by_cases h16:fB S f=16
 ·rw[if_pos h16];rw[h16]at B0 KT KV N7 k1 k2 k3 k4;obtain⟨t,mb,gs,nm,rv,Oc,Od,Oi,Oj⟩:=Bp cx hf fg h16;obtain⟨rv2,Oe⟩:=N3
  obtain rfl:pv=ag mb:=by
   have:=(de.cell Od 3).symm.trans (de.cell Oe 3);simpa using this.symm
  clear N8 N2;rw[Oc,h16];simp only
  have HC:∀W,aj w W->Calls Tryz.prog 101 #[ag mb,.agg #[.slice ma x.2.2.fs.length mc,ae x.2.2.unk],aa ((deep:Int)+1)] W (dA (dm S n t x.2.2) W):=fun W hW=>by
   have:=H W Z _ x.2.2 t mb gs nm (deep+1) k (cx.on (dj hW cx.le)) (Oi.keep fun b q _=>hW.block b (by have:=cx.le;omega)) Oj (hM.below hW (ay _)) hO (by omega)
   rwa [show(((deep+1:Nat):Int))=(deep:Int)+1 by omega]at this
  have hd9:(deep:Int)<=9:=by omega
  obtain⟨q,hq⟩:∃q,(decide (x.1=0)&&qS x.2.1)=q:=⟨_,rfl⟩;obtain⟨r,hr⟩:∃r,dm S n t x.2.2=r:=⟨_,rfl⟩;rw[hq]at N7⊢;rw[hr]at HC⊢;clear hq hr H Od Oe;have Og:Hid (∀W,aj w W->Calls Tryz.prog 101 #[ag mb,.agg #[.slice ma x.2.2.fs.length mc,ae x.2.2.unk],aa ((deep:Int)+1)] W (dA r W)):=HC;clear HC;go_enter Tryz.func239,Tryz.ntmps239
  go_wp2_with fail
  generalize(w.alloc (ak #[aa 16,ag mb] 216)).alloc (ak #[.int .u64 x.1,ae x.2.1,.slice ma x.2.2.fs.length mc,ae x.2.2.unk] 55)=w1 at*;refine N7.mono ?_;intro e w2 hr
  rcases hr.part with⟨rfl,rfl,b2⟩|⟨rfl,y,z,rfl,b2⟩
  ·have Ob:=KT.below b2 KT.lt;have Oa:=KV.below b2 KV.lt;clear k1 k2 k3 k4;obtain⟨k1,k2⟩:=Ob.rules;obtain⟨k3,k4⟩:=Oa.rules;have B2:=cY B0 b2;go_wp2_with fail
   refine(Og.out w2 B2).mono ?_;intro e w3 Ok
   rcases Ok.part with⟨rfl,rfl,b3⟩|⟨rfl,y,z,rfl,b3⟩
   ·go_wp2;go_end0;exact dA.ok (cY B2 b3)
   ·unfold da;go_wp2;exact⟨rfl,dA.no (cY B2 b3)⟩
  ·unfold da;go_wp2;exact⟨rfl,dA.no (cY B0 b2)⟩
 ·by_cases h13:fB S f=13
  ·rw[if_neg h16,if_pos h13];rw[h13]at B0 KT KV N2 k1 k2 k3 k4;rw[h13];clear N8 N7;have HV:∀W,aj w W->Calls Tryz.prog 325 #[ae x.2.1] W fun e w'=>e= .returned (.bool (Lib.validD x.2.1.data.toList))/\Below W.heap.size W w':=fun W hW=>xd W x.2.1 (by omega) (cx.on (dj hW cx.le)).u
   obtain⟨q,hq⟩:∃q,(decide (x.1=0)&&Aw x.2.2)=q:=⟨_,rfl⟩;obtain⟨r,hr⟩:∃r,Lib.validD x.2.1.data.toList=r:=⟨_,rfl⟩;rw[hq]at N2⊢;rw[hr]at HV⊢;clear hq hr;have Oh:Hid (∀W,aj w W->Calls Tryz.prog 325 #[ae x.2.1] W fun e w'=>e= .returned (.bool r)/\Below W.heap.size W w'):=HV;clear HV;go_enter Tryz.func239,Tryz.ntmps239
   go_wp2_with fail
   generalize(w.alloc (ak #[aa 13,pv] 216)).alloc (ak #[.int .u64 x.1,ae x.2.1,.slice ma x.2.2.fs.length mc,ae x.2.2.unk] 55)=w1 at*;refine N2.mono ?_;intro e w2 hr
   rcases hr.part with⟨rfl,rfl,b2⟩|⟨rfl,y,z,rfl,b2⟩
   ·have Oa:=KV.below b2 KV.lt;clear k1 k2 k3 k4;obtain⟨k3,k4⟩:=Oa.rules;have B2:=cY B0 b2;go_wp2_with fail
    refine(Oh.out w2 B2).mono ?_;rintro e w3 ⟨rfl,b3⟩
    cases r
    ·go_wp2_with (go_at_call 157;refine(fD _).mono ?_;rintro e w2 ⟨rfl,rfl⟩;unfold da)
     exact⟨rfl,dA.no (cY B2 b3)⟩
    ·go_wp2_with (go_at_call 157;refine(fN _).mono ?_;rintro e w2 ⟨rfl,rfl⟩)
     go_end0;exact dA.ok (cY B2 b3)
   ·unfold da;go_wp2;exact⟨rfl,dA.no (cY B0 b2)⟩
  ·by_cases h14:fB S f=14
   ·rw[if_neg h16,if_neg h13,if_pos h14];rw[h14]at B0 KT KV N2 k1 k2 k3 k4;rw[h14];clear N8 N7;obtain⟨q,hq⟩:∃q,(decide (x.1=0)&&Aw x.2.2)=q:=⟨_,rfl⟩;rw[hq]at N2⊢;clear hq;go_enter Tryz.func239,Tryz.ntmps239
    go_wp2_with fail
    generalize(w.alloc (ak #[aa 14,pv] 216)).alloc (ak #[.int .u64 x.1,ae x.2.1,.slice ma x.2.2.fs.length mc,ae x.2.2.unk] 55)=w1 at*;refine N2.mono ?_;intro e w2 hr
    rcases hr.part with⟨rfl,rfl,b2⟩|⟨rfl,y,z,rfl,b2⟩
    ·go_wp2;go_end0;exact dA.ok (cY B0 b2)
    ·unfold da;go_wp2;exact⟨rfl,dA.no (cY B0 b2)⟩
   ·rw[if_neg h16,if_neg h13,if_neg h14];have e1:((fB S f:Int)==16)=false:=by simp;omega
    have e2:((fB S f:Int)==13)=false:=by simp;omega
    have e3:((fB S f:Int)==14)=false:=by simp;omega
    clear N2 N7;have hN:=fun W=>Bl W (fB S f) x.1 Of h0
    generalize Ir (fB S f) x.1=ob at*;generalize fB S f=fb at*;obtain⟨q,hq⟩:∃q,(qS x.2.1&&Aw x.2.2)=q:=⟨_,rfl⟩;rw[hq]at N8⊢;go_enter Tryz.func239,Tryz.ntmps239
    go_wp2_with fail
    refine N8.mono ?_;intro e w2 hr;generalize(w.alloc (ak #[aa fb,pv] 216)).alloc (ak #[.int .u64 x.1,ae x.2.1,.slice ma x.2.2.fs.length mc,ae x.2.2.unk] 55)=w1 at*
    rcases hr.part with⟨rfl,rfl,b2⟩|⟨rfl,y,z,rfl,b2⟩
    ·have Ob:=KT.below b2 KT.lt;have Oa:=KV.below b2 KV.lt;clear k1 k2 k3 k4;obtain⟨k1,k2⟩:=Ob.rules;obtain⟨k3,k4⟩:=Oa.rules;go_wp2_with fail
     refine(hN _).mono ?_;rintro e w3 ⟨rfl,rfl⟩
     cases ob
     ·go_wp2_with (go_at_call 157;refine(fD _).mono ?_;rintro e w2 ⟨rfl,rfl⟩;unfold da)
      exact⟨rfl,dA.no (cY B0 b2)⟩
     ·go_wp2_with (go_at_call 157;refine(fN _).mono ?_;rintro e w2 ⟨rfl,rfl⟩)
      go_end0;exact dA.ok (cY B0 b2)
    ·unfold da;go_wp2;exact⟨rfl,dA.no (cY B0 b2)⟩
def I9 (k:Nat)(l:List PV):Prop:=l.length<=1099511627776/\∀v∈l,0<=v.1/\v.1<18446744073709551616/\v.2.1.size<=1099511627776/\kT k v.2.2
theorem zZ {α:Type}{p:α->Bool}{l:List α}{i:Nat}{x:α}(hx:l[i]?=some x):(l.take (i+1)).all p=((l.take i).all p&&p x):=by
 rw[bu,hx];simp
theorem CD {α:Type}{p:α->Bool}{l:List α}{i:Nat}(h:(l.take i).all p=false):l.all p=false:=by
 rw[List.all_eq_false]at h⊢;obtain⟨y,h1,h2⟩:=h;exact⟨y,List.mem_of_mem_take h1,h2⟩
theorem CE {S:dG}{n k:Nat}{f:ek}{e:PV}(h:dm S n (dW f) e.2.2=true)(hO:kT k e.2.2):zY e:=by
 intro hl
 cases n with
 |zero=>simp[dm]at h
 |succ n=>
  rw[dm,aT]at h;have h1:=h.1
  cases hfs:e.2.2.fs with
  |nil=>rw[hfs]at hl;simp at hl
  |cons x rest=>
   rw[hfs,jS]at h1
   cases hf:dv (dW f).fs x.1 with
   |none=>rw[hf]at h1;simp at h1
   |some fl=>
    rw[hf]at h1;simp only[fL,xJ,aT,Bool.or_eq_true]at h1;obtain⟨nn,vs⟩:=x
    cases vs with
    |nil=>simp at h1
    |cons ke r=>
     cases k with
     |zero=>exact hO.elim
     |succ k=>
      have:=(hO.2.2 (nn,ke::r) (by rw[hfs];exact bg)).2 ke bg;exact⟨nn,ke,r,rest,rfl,this.1,this.2.1⟩
theorem xN {S:dG}{mp:am->Option Nat}{B n:Nat}(H:JT S mp B n)(w:an)(Z:ap)(v:Value)(l:List PV)(d:MT)(f:ek)(g:GF)(fb:Nat)(deep k:Nat)(cx:p8 w B S mp)(hf:dP w (fun b=>b<B) mp g fb)(fg:FG S mp d f g)(hv:mB (fR k w Z) w Z v l)(hO:I9 k l)(hd:n+1+deep=9):
  Calls Tryz.prog 159 #[ag fb,v,aa deep] w (dA (fL S (dm S n) f l) w):=by
 obtain⟨a,c,rfl⟩:=hv.form;obtain⟨pv,rv,h1,_,Oe,Ow⟩:=hf.blk;obtain⟨pq,rfl⟩:=eT Ow;obtain⟨ra,rc,rfl⟩:=gS Oe.1;obtain⟨k1,k2⟩:=h1.rules;have Om:=hO.1;go_enter Tryz.func159,Tryz.ntmps159
 go_upto_region 0 with fail
 go_cut [6]from 9 to 20 (fun x wx=>x= .bool (f.isRep||f.isMap)/\wx=w)
 case first=>
  rcases fg.form with q|q|q|q|q<;>rw[q]at k1
  all_goals
   go_wp2;go_meet
   case rel=>exact⟨by rw[fg.rep,fg.map,q];rfl,rfl⟩
 case rest=>
  obtain⟨rfl,rfl⟩:=hcut;obtain⟨mn,Of⟩:∃mn,(f.isRep||f.isMap)=mn:=⟨_,rfl⟩;have HH:Hid (xJ f l=((l.length==1)||(mn&&decide (1<l.length)))):=by rw[<-Of];rfl
  rw[Of];clear Of;go_upto_region 1 with fail
  go_cut []from 21 to 32 (fun wx=>Hid (xJ f l=true)/\wx=wc)
  case first=>
   by_cases q1:l.length=1
   ·have e1:((l.length:Int)==1)=true:=by simp;omega
    have e2:(l.length==1)=true:=by simpa using q1
    clear q1;go_wp2_with (go_at_call 157;refine(fN _).mono ?_;rintro e w2 ⟨rfl,rfl⟩)
    go_meet
    case rel=>exact⟨HH.out.trans (by rw[e2];rfl),rfl⟩
   ·have e1:((l.length:Int)==1)=false:=by simp;omega
    have e2:(l.length==1)=false:=by simpa using q1
    cases mn
    ·go_wp2_with (go_at_call 157;refine(fD _).mono ?_;rintro e w2 ⟨rfl,rfl⟩;unfold da)
     exact⟨rfl,by rw[show fL S (dm S n) f l=false by unfold fL;rw[HH.out,e2];rfl];exact dA.no (Below.refl _ _)⟩
    ·by_cases q2:1<l.length
     ·have e3:decide (1<(l.length:Int))=true:=by simp;omega
      go_wp2_with (go_at_call 157;refine(fN _).mono ?_;rintro e w2 ⟨rfl,rfl⟩)
      go_meet
      case rel=>exact⟨HH.out.trans (by rw[decide_eq_true q2];simp),rfl⟩
     ·have e3:decide (1<(l.length:Int))=false:=by simp;omega
      go_wp2_with (go_at_call 157;refine(fD _).mono ?_;rintro e w2 ⟨rfl,rfl⟩;unfold da)
      exact⟨rfl,by rw[show fL S (dm S n) f l=false by unfold fL;rw[HH.out,e2,decide_eq_false q2];rfl];exact dA.no (Below.refl _ _)⟩
  case rest=>
   obtain⟨HW,rfl⟩:=hcut;obtain⟨Q,HQ⟩:∃Q,Hid (l.all (dZ S (dm S n) f)=Q):=⟨_,rfl⟩;obtain⟨Ox,Og,Oh⟩:=hv;have hfw:=h1.lt
   have HC:Hid (∀(W:an) (x:PV) (mv:Value),aj wc W->x∈l->fR k wc Z mv x.2.2->Calls Tryz.prog 239 #[.agg #[aa (dC mp g),.pointer pq],ew x mv,aa deep] W (dA (dZ S (dm S n) f x) W)):=fun W x mv hW hx hm=>
    xM H W Z mv x d f g fb (.pointer pq) deep k (cx.on (dj hW cx.le)) (hf.keep fun b _ q=>hW.block b q) fg (hm.below hW (ay _)) (hO.2 x hx).2.2.2 (hO.2 x hx).1 (hO.2 x hx).2.2.1 ⟨_,h1.below hW h1.lt⟩ hd
   clear k1 k2;go_upto_region 2 with fail
   go_wp2;go_loopw [8,35] (fun _ jv wr=>∃j:Nat,jv=aa j/\j<=l.length/\Hid ((l.take j).all (dZ S (dm S n) f)=true)/\aj wc wr) (fun _ jv _=>l.length-(intOf jv).toNat)
   case atStart=>exact⟨0,rfl,aM _,rfl,Below.refl _ _⟩
   case round=>
    obtain⟨j,rfl,hj,HA,B⟩:=hrel
    by_cases hlt:j<l.length
    ·obtain⟨x,hx⟩:=gx hlt;obtain⟨mv,p1,p2,p3,p4,p5⟩:=Oh.get hx;obtain⟨ma,mc,rfl⟩:=p1.form;obtain⟨gv,rfl,Oi,N8,N2⟩:=Og.at (by omega);have t0:=N2 wr (B.block _ N8) _ _ p2;have t1:=jI (N2 wr (B.block _ N8) _ _ p3);have t2:=jI (N2 wr (B.block _ N8) _ _ p4);have t3:=jI (N2 wr (B.block _ N8) _ _ p5);have hlj:(j:Int)<(l.length:Int):=by omega
     obtain⟨B1,K1⟩:=di wr #[.int .u64 x.1,ae x.2.1,.slice ma x.2.2.fs.length mc,ae x.2.2.unk] 55;have B2:=cY B B1;have HX:=HC.out _ x _ B2.drew (aI hx) p1
     have HT:Hid ((l.take (j+1)).all (dZ S (dm S n) f)=dZ S (dm S n) f x):=by
      show(l.take (j+1)).all (dZ S (dm S n) f)=_;rw[zZ hx,HA.out,cu]
     have h2:=h1.below B2 h1.lt;obtain⟨q,hq⟩:∃q,dZ S (dm S n) f x=q:=⟨_,rfl⟩;rw[hq]at HX HT;unfold ew at HX;clear N2 p2 p3 p4 p5 hx hq;go_upto_region 5 with fail
     generalize wr.alloc (ak #[.int .u64 x.1,ae x.2.1,.slice ma x.2.2.fs.length mc,ae x.2.2.unk] 55)=w1 at*;generalize wr.heap.size=vb at*
     have hW:w1.drew.cell? (ai fb 2)=some (aa (dC mp g))/\w1.drew.cell? (ai fb 3)=some (.pointer pq)/\w1.drew.cell? (ai vb 0)=some (.int .u64 x.1)/\w1.drew.cell? (ai vb 1)=some (ae x.2.1)/\w1.drew.cell? (ai vb 2)=some (.slice ma x.2.2.fs.length mc)/\w1.drew.cell? (ai vb 3)=some (ae x.2.2.unk):=
      ⟨h2.drew.cell 2,h2.drew.cell 3,K1.drew.cell 0,K1.drew.cell 1,K1.drew.cell 2,K1.drew.cell 3⟩
     go_region_held2 (fun W=>W.cell? (ai fb 2)=some (aa (dC mp g))/\W.cell? (ai fb 3)=some (.pointer pq)/\W.cell? (ai vb 0)=some (.int .u64 x.1)/\W.cell? (ai vb 1)=some (ae x.2.1)/\W.cell? (ai vb 2)=some (.slice ma x.2.2.fs.length mc)/\W.cell? (ai vb 3)=some (ae x.2.2.unk))
      (first|exact hW|exact⟨h3.cell 2,h3.cell 3,K3.cell 0,K3.cell 1,K3.cell 2,K3.cell 3⟩)
      (first
       |(
         go_at_call 239
         refine HX.mono ?_;intro e w3 hr
         rcases hr.part with⟨rfl,rfl,b3⟩|⟨rfl,y,z,rfl,b3⟩
         rotate_left
         ·have B4:=cY B2.drew b3;unfold da;go_wp2;exact⟨rfl,by rw[show fL S (dm S n) f l=false by unfold fL;rw[CD HT.out,cg];rfl];exact dA.no B4⟩
         have h3:=h2.below (w:=w1.drew) b3 h2.lt
         have K3:=K1.below (w:=w1.drew) b3 K1.lt))
     have B4:=cY B2.drew b3;go_wp2;go_roundw
     case rel=>exact⟨j+1,by go_num,by omega,HT.out,B4⟩
     case measure=>simp[intOf];omega
    ·obtain rfl:j=l.length:=by omega
     have Oj:Hid (l.all (dZ S (dm S n) f)=true):=by
      show l.all (dZ S (dm S n) f)=true;have:=HA.out
      rwa [aY]at this
     have HF:Hid (fL S (dm S n) f l=oW S f l):=by
      show fL S (dm S n) f l=_;unfold fL;rw[HW.out,Oj.out];rfl
     have h2:=h1.below B h1.lt;have Oo:=hf.keep (w':=wr) (fun b _ q=>B.block b q)
     have Oa:0<l.length:=by
      cases l with
      |nil=>have:=HW.out;simp[xJ]at this
      |cons x r=>simp
     obtain⟨k1,k2⟩:=h2.rules
     by_cases h4:g.form=4
     ·have hm:f.isMap=true:=by rw[fg.map,h4];rfl
      have e4:(g.form==4)=true:=by simpa using h4
      have Ok:oW S f l=iB (iT (S.base f.key)) none l:=by unfold oW;rw[if_pos hm]
      have N7:Hid (fL S (dm S n) f l=iB (iT (S.base f.key)) none l):=HF.out.trans Ok;clear Ok HF;have Oc:=(fg.key h4).1;have Oq:S.base f.key<=16:=by rw[<-Oc];exact qC mp _
      have Ol:=Ck wr _ mp g fb Oo h4;rw[fg.eq,Oc]at Ol
      cases k with
      |zero=>
       cases l with
       |nil=>simp at Oa
       |cons x r=>exact(hO.2 x bg).2.2.2.elim
      |succ k=>
       have Ot:∀e∈l,zY e:=fun e he=>by
        have:=List.all_eq_true.1 Oj.out e he;unfold dZ fB at this;rw[hm]at this;simp only[if_true,aT]at this;unfold ed at this;rw[if_pos hm]at this;exact CE this.2 (hO.2 e he).2.2.2
       have HE:Hid (∀W,aj wc W->Calls Tryz.prog 240 #[.slice a l.length c,.bool (iT (S.base f.key))] W (dA (iB (iT (S.base f.key)) none l) W)):=fun W hW=>
        wg W _ l _ (mB.below hW (ay _) ⟨Ox,Og,Oh⟩) Ot Om
       have Ou:=fun W pv=>mx W (S.base f.key) pv Oq
       clear Oc;generalize iT (S.base f.key)=sg at*;generalize S.base f.key=kb at*;generalize iB sg none l=r at*;go_wp2_with fail
       refine Ol.mono ?_;rintro e w2 ⟨Oy,rfl,b2⟩;go_wp2_with fail
       refine(Ou w2 Oy).mono ?_;rintro e w3 ⟨rfl,b3⟩;have B3:=cY B (cY b2 b3);go_wp2_with fail
       refine(HE.out w3 B3).mono ?_;intro e w4 hr
       rcases hr.part with⟨rfl,rfl,b4⟩|⟨rfl,y,z,rfl,b4⟩
       ·go_wp2;go_end0;rw[N7.out];exact dA.ok (cY B3 b4)
       ·unfold da;go_wp2;rw[N7.out];exact⟨rfl,dA.no (cY B3 b4)⟩
     ·have hm:f.isMap=false:=by rw[fg.map];simp[h4]
      have e4:(g.form==4)=false:=by simpa using h4
      have N3:=fg.sin;have Ob:=fg.gb
      by_cases h0:g.form=0/\fB S f≠16
      ·have e0:(g.form==0)=true:=by simpa using h0.1
       have e16:((dC mp g:Int) !=16)=true:=by rw[Ob];simp;exact_mod_cast h0.2
       have Ov:gy f.how eS=true:=by rw[N3,h0.1];rfl
       obtain⟨x,hx⟩:=gx Oa
       have N7:Hid (fL S (dm S n) f l= !(decide (x.1=0)&&qS x.2.1)):=by
        refine HF.out.trans ?_;unfold oW;rw[hm,if_neg (by simp),if_pos ⟨Ov,h0.2⟩]
        cases l with
        |nil=>simp at Oa
        |cons y r=>simp at hx;rw[hx]
       obtain⟨mv,p1,p2,p3,p4,p5⟩:=Oh.get hx;obtain⟨ma,mc,rfl⟩:=p1.form;obtain⟨gv,rfl,Oi,N8,N2⟩:=Og.at (by omega);have t0:=N2 wr (B.block _ N8) _ _ p2;have t1:=jI (N2 wr (B.block _ N8) _ _ p3);have t2:=jI (N2 wr (B.block _ N8) _ _ p4);have t3:=jI (N2 wr (B.block _ N8) _ _ p5);simp only[Nat.zero_mul,JQ]at t0 t1 t2 t3;have Od:=vY wr x (.slice ma x.2.2.fs.length mc);unfold ew at Od;obtain⟨r,hr⟩:∃r,(!(decide (x.1=0)&&qS x.2.1))=r:=⟨_,rfl⟩;rw[hr]at Od N7;clear hr hx HF N3 Ob;have hl0:(0:Int)<(l.length:Int):=by omega
       go_wp2_with fail
       refine Od.mono ?_;intro e w4 hr
       rcases hr.part with⟨rfl,rfl,b4⟩|⟨rfl,y,z,rfl,b4⟩
       ·go_wp2;go_end0;rw[N7.out];exact dA.ok (cY B b4)
       ·unfold da;go_wp2;rw[N7.out];exact⟨rfl,dA.no (cY B b4)⟩
      ·have N7:Hid (fL S (dm S n) f l=true):=by
        refine HF.out.trans ?_;unfold oW;rw[hm,if_neg (by simp),if_neg (fun q=>h0 ⟨by have:=N3▸q.1;simpa using this,q.2⟩)]
       by_cases h00:g.form=0
       ·have e0:(g.form==0)=true:=by simpa using h00
        have e16:((dC mp g:Int) !=16)=false:=by rw[Ob];simp;exact_mod_cast (Decidable.not_not.1 fun q=>h0 ⟨h00,q⟩)
        clear HF N3 Ob h0 h00;go_wp2;go_end0;rw[N7.out];exact dA.ok B
       ·have e0:(g.form==0)=false:=by simpa using h00
        clear HF N3 Ob h0;go_wp2;go_end0;rw[N7.out];exact dA.ok B
end
section
variable {S:dG} {d:MT} {f:ek}
theorem tU {R:MT->PM->Bool}{x:PF}:∀{fs a:List PF},jS S R d a fs=true->x∈fs->∃f,dv d.fs x.1=some f/\fL S R f x.2=true
 | [],_,_,hx=>by simp at hx
 |y::l,a,h,hx=>by
  rw[jS,aT]at h
  rcases aL.1 hx with rfl|hx
  ·cases hf:dv d.fs x.1 with
   |none=>rw[hf]at h;simp at h
   |some f=>
    rw[hf]at h;simp only[aT]at h;exact⟨f,rfl,h.1.2⟩
  ·exact tU h.2 hx
theorem xO {R:MT->PM->Bool}{l:List PV}{v:PV}(h:fL S R f l=true)(hv:v∈l):dZ S R f v=true:=by
 unfold fL at h;simp only[aT]at h;exact List.all_eq_true.1 h.1.2 v hv
theorem tV {R:MT->PM->Bool}{v:PV}{t:MT}(h:dZ S R f v=true)(hb:fB S f=16)(ht:ed S f=some t):R t v.2.2=true:=by
 unfold dZ at h;rw[if_pos hb,ht]at h;simp only[aT]at h;exact h.2
def GY (d:MT):Prop:=∀n f,dv d.fs n=some f->0<=f.num/\f.num<=536870911
def z8 (S:dG):Prop:=∀t d,S.msg t=some d->GY d
theorem qT {t:MT}(h:z8 S)(hs:ed S f=some t):GY t:=by
 unfold ed at hs
 split at hs
 ·obtain rfl:=Option.some.inj hs;intro n g hg;obtain⟨_,hg⟩:=eY hg;simp[dW]at hg
  rcases hg with rfl|rfl<;>simp
 ·exact h _ _ hs
end
section
variable {α:Type} {g:α->List UInt8} {l:List α}
theorem sD {x:α}(h:x∈l):(g x).length<=(l.flatMap g).length:=by
 induction l with
 |nil=>simp at h
 |cons y l ih=>
  rw[bm,aH]
  rcases aL.1 h with rfl|h
  ·omega
  ·have:=ih h;omega
theorem eu {i:Nat}{x:α}(h:l[i]?=some x):(l.take (i+1)).flatMap g=(l.take i).flatMap g++g x:=by
 rw[bu,h];simp
theorem gk (i:Nat):((l.take i).flatMap g).length<=(l.flatMap g).length:=by
 conv=>rhs;rw[<-bS i l]
 rw[bZ,aH];omega
theorem qg (t:List UInt8):(l.flatMap fun v=>t++g v).length=t.length*l.length+(l.flatMap g).length:=by
 induction l with
 |nil=>simp
 |cons y l ih=>
  rw[bm,bm,aH,aH,aH,ih,bn,Nat.mul_succ];omega
end
theorem oo (x:List UInt8):x.length<=(fm x).length:=by unfold fm;rw[aH];omega
def fE (x:List UInt8)(w:an)(e:Ending)(w':an):Prop:=e= .returned (aa x.length)/\aj w w'
end Go.Proofs.YtfebdimolnobaaaGreatDoor
