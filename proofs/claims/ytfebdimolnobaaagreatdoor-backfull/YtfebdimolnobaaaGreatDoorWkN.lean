import Derived.Test.YtfebdimolnobaaaGreatDoorWkK
import Derived.Test.YtfebdimolnobaaaGreatDoorWkL
import Derived.Test.YtfebdimolnobaaaGreatDoorEnD
set_option maxRecDepth 100000
set_option maxHeartbeats 8000000
set_option linter.all false
namespace Go.Proofs.YtfebdimolnobaaaGreatDoor
open Go.RowKit Go.Proofs.Tryz
def uK {k:Nat}(c:k<=15):fo k=true<->eM k≠2:=by
 constructor;.intro h q;rcases BX c q with rfl|rfl<;>simp[fo]at h
 .intro h;unfold fo;by_cases h1:k=13;.subst h1;exact absurd rfl h
  .by_cases h2:k=14;.subst h2;exact absurd rfl h
   .simp;omega
def Ci (S:eF)(t:au):S.base t<=16:=by
 unfold eF.base;split;.rename_i k c;have:=BQ _ _ _ _ c;have e:m9.length=15:=Vz;omega
 .split<;>omega
def oW {S:eF}{mp:an}{d:MT}{f:fw}{g:GF}{k:Nat}(c:FG S mp d f g):mh mp g k=true<->(k=fX S f\/(k=2/\f.isRep=true)):=by
 have o:=Ci S f.ty
 have l:eM (eK mp g)=fX S f:=by
  unfold eK fX eF.wire;rw[c.map,c.eq,c.base];by_cases h:g.form=4;.simp[h];rfl
  .simp[h]
 unfold mh iw;rw[l,c.rep];simp only[cO,aQ,beq_iff_eq,dS];constructor
 .rintro(h|⟨n,i,p⟩);.exact .inl Vv
  .exact .inr ⟨Vv,i⟩
 .rintro(h|⟨n,i⟩);.exact .inl Vv
  .by_cases q:fX S f=2;.exact .inl Vv
   .refine .inr ⟨Vv,i,?_⟩;have j:eK mp g=S.base f.ty:=by unfold eK;rw[dQ Vv,c.eq,c.base]
    rw[l.sy,j]at q;rw[j];have:S.base f.ty≠16:=λe=>q (by rw[e];rfl)
    exact(uK Vv).2 q
def Cj (w:aw)(B:Nat)(S:eF)(mp:an)(k:Nat)(d:MT)(f:fw)(g:GF)(fb:Nat)(Z:ax)(rb db:Nat)(b:au)(e a z deep F kn:Nat)(num:Int)(m:PM)
  (I:pE w B S mp k d Z rb db b e a z deep m) (i:fi w (λb=>b<B) mp g fb) (c:FG S mp d f g) (j:ed d.fs f.num=some f) (x:Fj S) (r:k+deep=8) (t:mj S d) (n:OG S mp B b F) (v:e-z<=F) (p:mh mp g kn=true):
  Vq 133 #[ah fb,aa kn,ah rb,ah db] w (iE S k d w Z rb db (b.extract 0 e) deep (kz S b F d f m deep (fN (b.extract 0 e) a num kn z))):=by
 have o:=(oW c).1 p;have D:=Ci S f.ty;by_cases h4:g.form=4
 .have l:f.isMap=true:=by rw[c.map,h4];rfl
  obtain rfl:kn=2:=by
   rcases o with h|⟨h,_⟩;.rw[h];unfold fX;rw[dR l]
   .exact h
  exact LC w B S mp k d f g fb Z rb db b e a z deep F num m I i c j x h4 r t n v
 .have l:f.isMap=false:=by rw[c.map];simp[h4]
  have s:fX S f=eM (S.base f.ty):=by unfold fX eF.wire;rw[l];rfl
  by_cases hb:S.base f.ty=16
  .obtain rfl:kn=2:=by
    rcases o with h|⟨h,_⟩;.rw[h,s,hb];rfl
    .exact h
   have:=c.nest.1 hb;have⟨sub,y⟩:=co.1 this;have C:D5 S d f sub:=⟨by unfold fC;rw[l];exact y,l⟩;exact LA w B S mp k d f g fb Z rb db b e a z deep F num m sub I i c j x C r n v
  .have u:S.base f.ty<=15:=Vv;by_cases h2:g.form=2
   .refine Ly w B S mp k d f g fb Z rb db b e a z deep F num kn m I i c h2 u j ?_;rcases o with h|⟨h,_⟩;.exact .inl (by rw[h,s])
    .by_cases q:eM (S.base f.ty)=2;.exact .inl Vv
     .exact .inr ⟨Vv,q⟩
   .have A:f.isRep=false:=by rw[c.rep];simp[h2]
    obtain rfl:kn=eM (S.base f.ty):=by
     rcases o with h|⟨_,h⟩;.rw[h,s]
     .rw[A]at h;cases h
    exact Lz w B S mp k d f g fb Z rb db b e a z deep F num m I i c h4 h2 u j
def FX {s:au}{a:Nat}{x:(Int×Int)×Nat}(h:jY s a= .ok x):∃kn:Nat,x.1.2=kn/\(kn=0\/kn=1\/kn=2\/kn=5)/\a<x.2/\x.2<=s.size:=by
 unfold jY at h
 cases hv:iV s a s.size with
 |error y=>rw[hv]at h;cases h
 |ok y=>
  rw[hv]at h;have⟨i,j,c,g⟩:=jm (m:=y.1) (z:=y.2) hv;simp only at h;split at h;.cases h
  .split at h
   .rename_i q;cases h;rcases q with q|q|q|q;.exact⟨0,q,.inl rfl,c,g⟩
    .exact⟨1,q,.inr (.inl rfl),c,g⟩
    .exact⟨2,q,.inr (.inr (.inl rfl)),c,g⟩
    .exact⟨5,q,.inr (.inr (.inr rfl)),c,g⟩
   .cases h
def uL {s:au}{a z:Nat}{num kind:Int}{r:pO}(h:fN s a num kind z= .ok r):r.num=num/\r.a=a:=by
 unfold fN at h;split at h;.cases hv:iV s z s.size<;>rw[hv]at h<;>cases h;exact⟨rfl,rfl⟩
 .split at h;.cases hv:ju s z 8<;>rw[hv]at h<;>cases h;exact⟨rfl,rfl⟩
  .split at h;.cases hv:ju s z 4<;>rw[hv]at h<;>cases h;exact⟨rfl,rfl⟩
   .cases hv:ft s z<;>rw[hv]at h<;>cases h;exact⟨rfl,rfl⟩
section
variable {S:eF} {b:au} {F a e deep z kn:Nat} {d:MT} {m:PM} {num:Int} {f:fw}
def sx (he:e<=b.size)(ht:jY (b.extract 0 e) a= .ok ((num,(kn:Int)),z)):fO b a e=fN (b.extract 0 e) a num kn z:=by
 rw[<-wL he,qX,ht]
def D7 (he:e<=b.size)(h:a<e)(ht:jY (b.extract 0 e) a= .ok ((num,(kn:Int)),z))(hk:kn=0\/kn=1\/kn=2\/kn=5)(hf:ed d.fs num=some f)(hfit:kn=fX S f\/(kn=2/\f.isRep=true)):
  eY S b (F+1) d m a e deep=match kz S b F d f m deep (fN (b.extract 0 e) a num kn z)with| .error x=> .error x| .ok y=>eY S b F d y.1 y.2 e deep:=by
 have c:=sx he ht
 cases hq:fN (b.extract 0 e) a num kn z with
 |error x=>
  rw[hq]at c;rw[jn h c]
  rfl
 |ok r=>
  rw[hq]at c;have g:=nE hk hq;have i:=uL hq;rw[I5 h c (by rw[i.1];exact hf) (by rw[g];exact hfit)];simp only[kz];cases zT S b F d f m r deep<;>rfl
def Hx (hS:Fj S)(hb:b.size<=1800000000000)(hd:mj S d)(he:e<=b.size)(hw:WM S a d m)(ht:jY (b.extract 0 e) a= .ok ((num,(kn:Int)),z))(hk:kn=0\/kn=1\/kn=2\/kn=5)(hf:ed d.fs num=some f)(hfit:kn=fX S f\/(kn=2/\f.isRep=true)){y:PM×Nat}
  (h:kz S b F d f m deep (fN (b.extract 0 e) a num kn z)= .ok y):WM S y.2 d y.1/\z<y.2/\y.2<=e:=by
 have c:=sx he ht
 cases hq:fN (b.extract 0 e) a num kn z with
 |error x=>rw[hq]at h;cases h
 |ok r=>
  rw[hq]at c h;have i:=nE hk hq;have n:=uL hq;have⟨o,_,j,_⟩:=qx hq;rw[gK he]at j;simp only[kz]at h
  cases hm:zT S b F d f m r deep with
  |error x=>rw[hm]at h;cases h
  |ok p=>
   rw[hm]at h;cases h;refine⟨?_,o,j⟩;have g:ed d.fs r.num=some f:=by rw[n.1];exact hf
   unfold zT at hm;split at hm;.rename_i q;exact Oz hS.good hb hd hw c he g q hm
   .rename_i q;have k:=hfit.resolve_left (λe=>q (by rw[i];exact e))
    cases hp:mL S b f (m.get f.num) r.fr r.e with
    |error x=>rw[hp]at hm;cases hm
    |ok l=>
     rw[hp]at hm;cases hm;exact(OA hS.good hw c g q (by rw[i];exact k.1) hp).1
def uM (he:e<=b.size)(h:a<e)(ht:jY (b.extract 0 e) a= .ok ((num,(kn:Int)),z))(hk:kn=0\/kn=1\/kn=2\/kn=5)(hf:∀f,ed d.fs num=some f->¬(kn=fX S f\/(kn=2/\f.isRep=true))):
  eY S b (F+1) d m a e deep=match mf (b.extract 0 e) z kn with| .error x=> .error x| .ok y=>eY S b F d (m.O (b.extract a y.2)) y.2 e deep:=by
 have c:=sx he ht;rw[qY (b.extract 0 e) a num kn z]
 cases hq:fN (b.extract 0 e) a num kn z with
 |error x=>
  rw[hq]at c
  rw[jn h c]
 |ok r=>
  rw[hq]at c;have i:=nE hk hq;have g:=uL hq;rw[pB h c (λf q=>by rw[g.1]at q;have:=hf f q;rw[i];exact⟨λe=>this (.inl e),λe=>this (.inr e)⟩),g.2]
def D8 (he:e<=b.size)(h:a<e){x:Int×Int}(c:jY (b.extract 0 e) a= .error x):eY S b (F+1) d m a e deep= .error x:=by
 refine jn h ?_;rw[<-wL he,qX,c]
end
def wY {s:au}{z kn:Nat}{y:Unit×Nat}(h:mf s z kn= .ok y):z<y.2/\y.2<=s.size:=by
 rw[qY s 0 0 kn z]at h
 cases hq:fN s 0 0 kn z with
 |error x=>rw[hq]at h;cases h
 |ok r=>
  rw[hq]at h;cases h;have⟨c,_,g,_⟩:=qx hq;exact⟨c,g⟩
section
open VH
section
variable {w w':aw} {rb:Nat} {s:au} {deep:Int}
structure zY (S:eF)(k:Nat)(d:MT)(B:Nat)(w wr:aw)(Z Z':ax)(rb db:Nat)(b:au)(e deep F a:Nat)(m:PM)(P:Fx PM):Prop where
 st:eU w Z rb wr Z'
 rr:ei wr rb (b.extract 0 e) a deep
 dr:eQ S (k+1) (some d) wr Z' db m
 hi:a<=e
 wm:WM S a d m
 fu:e-a<F
 eq:Hid (P=eY S b F d m a e deep)
 zz:∀x,Z' x->B<=x/\x<wr.heap.size
def Qc (S:eF)(b:au)(F:Nat)(d:MT)(e deep:Nat):Fx (PM×Nat)->Fx PM
 | .error x=> .error x
 | .ok y=>eY S b F d y.1 y.2 e deep
def LD (S:eF)(b:au)(F:Nat)(d:MT)(m:PM)(a e deep:Nat):Fx (Unit×Nat)->Fx PM
 | .error x=> .error x
 | .ok y=>eY S b F d (m.O (b.extract a y.2)) y.2 e deep
theorem Ky.part {r:Fx (Unit×Nat)}{e:Ending}(h:Ky w rb s deep r e w'):
  (∃x,r= .error x/\e=d5 x.1 x.2/\ee [rb] w w')\/∃x,r= .ok x/\e= .returned (.tuple #[])/\ee [rb] w w'/\ei w' rb s x.2 deep:=by
 obtain⟨b,a⟩:=h
 cases r with
 |error x=>exact .inl ⟨x,rfl,a,b⟩
 |ok x=>exact .inr ⟨x,rfl,a.1,b,a.2⟩
theorem iE.part2 {S:eF}{k:Nat}{d:MT}{Z:ax}{db:Nat}{deep:Nat}{R:Fx (PM×Nat)}{en:Ending}(h:iE S k d w Z rb db s deep R en w'):
  (∃x,R= .error x/\en=d5 x.1 x.2/\∃Z',eU w Z rb w' Z')\/∃x,R= .ok x/\en= .returned (.tuple #[])/\∃Z',eU w Z rb w' Z'/\eQ S (k+1) (some d) w' Z' db x.1/\ei w' rb s x.2 deep:=by
 cases R with
 |error x=>exact .inl ⟨x,rfl,h.1,h.2⟩
 |ok x=>exact .inr ⟨x,rfl,h.1,h.2⟩
theorem zZ (S:eF)(mp:an)(B:Nat)(b:au)(hS:Fj S)(K:b.size<=1800000000000):∀F,OG S mp B b F:=by
 intro F
 induction F using Nat.strongRecOn with
 |_ F ih=>
 intro w Z d m a e deep k mb gs nm rb o cx hM J WB hr hd hZ V7 WR WS s hF WT WU;have VV:(b.extract 0 e).size=e:=gK s;have Wf:=cx.le;have WG:rb<w.heap.size:=dZ.lt hr;obtain⟨P,hP⟩:=Vu (eY S b F d m a e deep);rw[hP];have O0:zY S k d B w w Z Z rb o b e deep F a m P:=⟨eU.refl _ _ _,hr,hd,WS,WU,hF,hP.sy,hZ⟩;clear hP;go_enter func83,ntmps83;go_wp2;go_loopw [9] (λ_ wr=>∃j c l A,A<=F/\zY S k d B w wr Z j rb o b e deep A c l P) (λ_ wr=>mF wr rb e)
 case atStart=>exact⟨Z,a,m,F,aE _,O0⟩
 case round=>
  obtain⟨j,c,l,A,hFF,O⟩:=hrel;have Wh:=si wr rb _ c deep O.rr;rw[VV]at Wh;have hhi:=O.hi;have hfu:=O.fu;go_wp2_with fail;refine Wh.V ?_;rintro r w4 ⟨rfl,q,rfl⟩;by_cases hlt:c<e
  .have WH:decide (c<e)=true:=decide_eq_true hlt;obtain⟨n,rfl⟩:∃n,A=n+1:=⟨A-1,Vv⟩;have Wk:ei (wr.drewN q) rb (b.extract 0 e) c deep:=O.rr;have WJ:eQ S (k+1) (some d) (wr.drewN q) j o l:=O.dr.O (λ_ _ _=>rfl);have Wl:eU w Z rb (wr.drewN q) j:=O.st.J (.oB (iu (Below.refl _ _) q));have WK:=SH (wr.drewN q) rb _ c deep Wk;have Wm:=Kv (wr.drewN q) rb _ c deep Wk Vv;have Wn:∀x,j x->B<=x/\x<(wr.drewN q).heap.size:=O.zz;have U:¬j rb:=O.st.not WG WR;have HM:Hid (mF wr rb e=e-c):=iA O.rr;have VW:∀x,Z x->B<=x:=λx q=>(hZ x q).1
   obtain⟨T,hT⟩:=Vu (jY (b.extract 0 e) c);rw[hT]at Wm;have D:Hid (jY (b.extract 0 e) c=T):=hT;clear hT;generalize wr.drewN q=w4 at*;go_wp2_with fail;refine WK.V ?_;rintro r w5 ⟨rfl,rfl⟩;go_wp2_with fail;refine Wm.V ?_;intro r w6 WV;rcases WV.part with⟨x,rfl,rfl,G⟩|⟨x,rfl,rfl,G,V8⟩;.have HB:Hid (P= .error x):=(by show P=_;rw[O.eq.o,D8 s hlt D.o]);unfold d5;go_wp2;rw[HB.o];exact⟨rfl,rfl,j,Wl.J (.oK G)⟩
   obtain⟨⟨num,kind⟩,z⟩:=x;have⟨kn,WC,V9,WD,Wb⟩:=FX D.o;simp only at WC WD Wb V8;subst WC;rw[VV]at Wb;have⟨B7,KT⟩:=ec w6 #[aa num,aa kn] 237;have Wo:ei (w6.alloc (am #[aa num,aa kn] 237)) rb (b.extract 0 e) z deep:=dZ.alloc V8 _;have Wp:=(Wl.J (.oK G)).J (.oB B7);have WL:=(eU.dr WJ G U).O (λx _ q=>B7.block x q);have WN:Below B w (w6.alloc (am #[aa num,aa kn] 237)):=Wp.G Wf VW V7;have WO:=Av (w6.alloc (am #[aa num,aa kn] 237)) (λb=>b<B) mp mb nm gs num kn (hM.O (λx q _=>WN.block x q)) J.srt J.len;have Wq:∀x,j x->B<=x/\x<(w6.alloc (am #[aa num,aa kn] 237)).heap.size:=λx q=>⟨(Wn x q).1,aI (aI (Wn x q).2 G.size) B7.size⟩
   have⟨M,N⟩:=KT.I;have hrw:rb<w6.heap.size:=dZ.lt V8;go_wp2_with fail;generalize w6.alloc (am #[aa num,aa kn] 237)=w7 at*;generalize w6.heap.size=tb at*;refine WO.V ?_;rintro r u ⟨V,v⟩;have Ws:ei u rb (b.extract 0 e) z deep:=dZ.G Wo v (dZ.lt Wo);have E:=Wp.J (.oB v);have Wu:=WL.O (λx _ q=>v.block x q);have Wv:Below B w u:=E.G Wf VW V7;have Ww:=KT.G v KT.lt;have Wx:∀x,j x->B<=x/\x<u.heap.size:=λx q=>⟨(Wq x q).1,aI (Wq x q).2 v.size⟩
   have hul:=O.wm.len;clear M N
   cases hfit:tf mp gs num kn with
   |some g=>
    rw[hfit]at V;obtain⟨fb,rfl,WW⟩:=V
    obtain⟨f,W,fg,WE⟩:∃f,ed d.fs num=some f/\FG S mp d f g/\mh mp g kn=true:=by
     unfold tf at hfit
     cases hfg:iL gs num with
     |none=>rw[hfg]at hfit;cases hfit
     |some g'=>
      rw[hfg]at hfit;simp only at hfit;split at hfit
      .cases hfit
       cases hf:ed d.fs num with
       |none=>rw[J.no num hf]at hfg;cases hfg
       |some f=>
        have⟨g2,q1,q2⟩:=J.yes num f hf;rw[hfg]at q1;cases q1;exact⟨f,rfl,q2,VF⟩
      .cases hfit
    have VX:f.num=num:=(fD W).1;have I:pE u B S mp k d j rb o b e c z deep l:=⟨cx.on Wv,Ws,Wu,Wx,V7,U,WD,Wb,s,K,O.wm⟩;have Wy:=Cj u B S mp k d f g fb j rb o b e c z deep n kn num l I WW fg (by rw[VX];exact W) hS WT WB (ih n Vv) Vv WE;have L:=(oW fg).1 WE;obtain⟨R,p⟩:=Vu (kz S b n d f l deep (fN (b.extract 0 e) c num kn z));have C:Hid (P=Qc S b n d e deep R):=(by have h:=D7 (S:=S) (F:=n) (deep:=deep) (d:=d) (m:=l) s hlt D.o V9 W L;rw[p]at h;show P=_;rw[O.eq.o,h];cases R<;>rfl);have HW:Hid (∀y,R= .ok y->WM S y.2 d y.1/\z<y.2/\y.2<=e):=λy hy=>Hx hS K WB s O.wm D.o V9 W L (p.J hy)
    rw[p]at Wy;clear p hfit;have⟨M,N⟩:=Ww.I;go_wp2_with fail;refine Wy.V ?_;intro r t Wd;rcases Wd.part2 with⟨x,rfl,rfl,Z9,X⟩|⟨y,rfl,rfl,Z9,X,VY,H⟩;.unfold d5;go_wp2;rw[C.o];exact⟨rfl,rfl,Z9,E.J X⟩
    have⟨WX,WY,Y⟩:=HW.o y rfl
    have O9:zY S k d B w t Z (λi=>Z9 i/\i<t.heap.size) rb o b e deep n y.2 y.1 P:=
     ⟨(E.J X).clip,H,VY.clip,Y,WX,Vv,C,λx q=>⟨(X.grow x q.1).elim (λe=>(Wx x e).1) (λe=>by have:=Wv.size;omega),q.2⟩⟩
    clear M N;go_wp2;go_roundw
    case rel=>exact⟨_,_,_,_,Vv,O9⟩
    case measure=>rw[HM.o,iA H];omega
   |none=>
    rw[hfit]at V;obtain rfl:r= .returned (.pointer none):=V
    have WP:∀f,ed d.fs num=some f->¬(kn=fX S f\/(kn=2/\f.isRep=true)):=λf hf hq=>by
     have⟨g,q1,q2⟩:=J.yes num f hf;unfold tf at hfit;rw[q1]at hfit;simp only at hfit;rw[(oW q2).2 hq,dR rfl]at hfit;cases hfit
    have Wz:=BP u rb _ z deep kn Ws Vv Vv Vv;obtain⟨R,p⟩:=Vu (mf (b.extract 0 e) z kn);have C:Hid (P=LD S b n d l c e deep R):=(by have h:=uM (S:=S) (F:=n) (deep:=deep) (d:=d) (m:=l) s hlt D.o V9 WP;rw[p]at h;show P=_;rw[O.eq.o,h];cases R<;>rfl)
    have HW:Hid (∀y,R= .ok y->z<y.2/\y.2<=e):=λy hy=>by
     have:=wY (p.J hy);rw[VV]at this;exact this
    rw[p]at Wz;clear p hfit;have⟨M,N⟩:=Ww.I;go_wp2_with fail;refine Wz.V ?_;intro r t Wd;rcases Wd.part with⟨x,rfl,rfl,VS⟩|⟨y,rfl,rfl,VS,H⟩;.unfold d5;go_wp2;rw[C.o];exact⟨rfl,rfl,j,E.J (.oK VS)⟩
    have⟨WY,Y⟩:=HW.o y rfl;have WA:=wG t rb _ y.2 deep c H Vv Vv;have VY:=eU.dr Wu VS U;have hex:(b.extract 0 e).extract c y.2=b.extract c y.2:=kL s Y;rw[hex]at WA;clear M N;go_wp2_with fail;refine WA.V ?_;rintro r w10 ⟨rfl,VT,rfl⟩;have VZ:eQ S (k+1) (some d) (t.drewN VT) j o l:=VY.O (λ_ _ _=>rfl);have WQ:=Ce S k (some d) (t.drewN VT) j o l (b.extract c y.2) VZ (by rw[bf];omega);go_wp2_with fail;refine WQ.V ?_;rintro r VU ⟨rfl,WF,VM,We⟩;have V0:ei (t.drewN VT) rb (b.extract 0 e) y.2 deep:=H;have VJ:ei VU rb (b.extract 0 e) y.2 deep:=dZ.step V0 VM U;have Q:eU w Z rb VU WF:=((E.J (.oK VS)).J (.oB (iu (Below.refl _ _) VT))).J (.oS VM)
    have O9:zY S k d B w VU Z (λi=>WF i/\i<VU.heap.size) rb o b e deep n y.2 (l.O (b.extract c y.2)) P:=
     ⟨Q.clip,VJ,We.clip,Y,O.wm.O _ (by rw[bf];omega),Vv,C,λx q=>⟨(Q.grow x q.1).elim (VW x) (λe=>Vv),q.2⟩⟩
    go_wp2;go_roundw
    case rel=>exact⟨_,_,_,_,Vv,O9⟩
    case measure=>rw[HM.o,iA VJ];omega
  .have WH:decide (c<e)=false:=decide_eq_false hlt;obtain rfl:c=e:=Vv;have HE:Hid (P= .ok l):=(by show P=_;rw[O.eq.o,iR hlt]);go_wp2;go_end0;rw[HE.o];exact⟨rfl,j,O.st.J (.oB (iu (Below.refl _ _) q)),O.dr.O (λ_ _ _=>rfl),O.rr⟩
end
section
variable (w:aw) {s:au} {a i:Nat} {x:Int×Int} {riv:ar} {n:Int} {fs:List PF}
theorem pF {b:Nat}{w w1 w2:aw}(h:ak w w1)(k:ee [b] w1 w2)(c:w.heap.size<=b):ak w w2:=
 h.J ⟨k.os,k.tape,k.output,k.size,λi a=>k.block i (aI a h.size) Vx⟩
theorem Cr {e:Nat}:∀{f i:Nat} {n:Int},mK s a e f i n= .error x->x.1≠0
 |0,_,_,h=>by
  obtain rfl:=Except.error.inj h
  simp
 |f+1,i,n,h=>by
  rw[mK]at h;split at h
  .split at h;.obtain rfl:=Except.error.inj h;simp
   .split at h;.cases h
    .exact Cr h
  .obtain rfl:=Except.error.inj h;simp
theorem OX (h:jY s a= .error x):x.1≠0:=by
 unfold jY at h;split at h;.rename_i b;obtain rfl:=Except.error.inj h;exact Cr b
 .split at h;.obtain rfl:=Except.error.inj h;simp
  .split at h;.cases h
   .obtain rfl:=Except.error.inj h;simp
theorem Id {k:Nat}(h:ju s a k= .error x):x.1≠0:=by
 unfold ju at h;split at h;.cases h
 .obtain rfl:=Except.error.inj h;simp
theorem Ma {k:Int}(h:mf s a k= .error x):x.1≠0:=by
 unfold mf at h;split at h
 .split at h;.rename_i b;obtain rfl:=Except.error.inj h;exact Cr b
  .cases h
 .split at h
  .split at h;.rename_i b;obtain rfl:=Except.error.inj h;exact Id b
   .cases h
  .split at h
   .split at h;.rename_i b;obtain rfl:=Except.error.inj h;exact Id b
    .cases h
   .split at h
    .rename_i b;obtain rfl:=Except.error.inj h;unfold ft at b;split at b;.rename_i c;obtain rfl:=Except.error.inj b;exact Cr c
     .split at b;.cases b
      .obtain rfl:=Except.error.inj b;simp
    .cases h
theorem Gg {x:PF}(a:fs[i]?=some x):kx riv n (fs.take (i+1))=(kx riv n (fs.take i)&&(decide (x.1<n)&& !decide (x.1∈riv))):=by
 unfold kx;rw[bT,a];simp
theorem Et {j:Nat}(h:i<=j)(a:kx riv n (fs.take i)=false):kx riv n (fs.take j)=false:=by
 unfold kx at*;rw[List.all_eq_false]at a⊢;obtain⟨y,b,c⟩:=a;exact⟨y,(List.take_subset_take_left fs h) b,c⟩
theorem Mb {Q:Value->PM->Prop}{Z P:ax}(a:aC)(c c':Nat)(fs:List PF)(cs:ay)(i:Nat)(n:Int)(rv:Value)(riv:ar)(D:iz w Z (.slice a fs.length c) fs.length cs)(z:tH Q w Z cs fs)(K:i<=fs.length)(L:fs.length<=4398046511104)
  (b:eP w P 3 1 rv riv.length (gE riv)) (k:riv.length<=2199023255000):
  Calls prog 158 #[.slice a i c',aa n,rv] w (eH (kx riv n (fs.take i)) w):=by
 obtain⟨G,H,rfl⟩:=iB b.1;go_in
 go_wp2;go_loopw [7,10] (λ_ o wr=>∃j:Nat,o=aa j/\j<=i/\Hid (kx riv n (fs.take j)=true)/\ak w wr) (λ_ o _=>i-(intOf o).toNat)
 case atStart=>exact⟨0,rfl,aP _,rfl,Below.refl _ _⟩
 case round=>
  obtain⟨j,rfl,A,r,B⟩:=hrel;by_cases hlt:j<i
  .have⟨x,m⟩:=gx (l:=fs) (i:=j) Vv;have⟨S,F,t,u⟩:=z.get m;obtain⟨I,J,rfl⟩:=F.form;obtain⟨g,rfl,E,s,h⟩:=D.at Vv;have O:=h wr (B.block _ s) _ _ t;have R:=lK (h wr (B.block _ s) _ _ u);have C:(j:Int)<(i:Int):=Vv;have⟨v,y⟩:=ec wr #[aa x.1,.slice I x.2.length J] 58;have d:=dW B v;have p:=xZ _ (.slice G riv.length H) riv x.1 (eZ d b.1) k;have f:Hid (kx riv n (fs.take (j+1))=(decide (x.1<n)&& !decide (x.1∈riv))):=(by show kx riv n (fs.take (j+1))=_;rw[Gg m,r.o,df]);have⟨M,N⟩:=y.I;clear h t u m;generalize decide (x.1∈riv)=q at*;by_cases h1:x.1<n
   .cases q
    .go_wp2_with (first|(go_at_call 238;refine p.V ?_;rintro e w2 ⟨rfl,rfl⟩)|(go_at_call 157;refine(iy _).V ?_;rintro e w2 ⟨rfl,rfl⟩))
     go_roundw
     case rel=>exact⟨j+1,by go_num,Vv,f.o.J (by simp[h1]),d⟩
     case measure=>simp[intOf];omega
    .go_wp2_with (first|(go_at_call 238;refine p.V ?_;rintro e w2 ⟨rfl,rfl⟩)|(go_at_call 157;refine(io _).V ?_;rintro e w2 ⟨rfl,rfl⟩;unfold d5))
     exact⟨rfl,by rw[Et Vv (f.o.J Vw)];exact eH.no d⟩
   .go_wp2_with (first|(go_at_call 157;refine(io _).V ?_;rintro e w2 ⟨rfl,rfl⟩;unfold d5))
    exact⟨rfl,by rw[Et Vv (f.o.J (by rw[decide_eq_false Vv];rfl))];exact eH.no d⟩
  .obtain rfl:j=i:=Vv;go_wp2;go_end0;exact⟨B,by rw[dR r.o]⟩
theorem OY (x:PV)(mv:Value)(sg:Bool)(c:0<=x.1)(h1:x.1<2^64):
  Calls prog 267 #[gj x mv,.bool sg] w λe w'=>e= .returned (kV (FQ sg (x.1,x.2.1)))/\ak w w':=by
 have d:=tx c h1;have a:=dZ.new w #[.int .u64 x.1,ag x.2.1,mv,ag x.2.2.unk] 55;have b:=a.alloc (am #[.int .u64 0,Vp] 386);have⟨f,g⟩:=b.I;unfold gj kV FQ
 cases sg with
 |true=>
  rw[dR rfl];go_in
  go_wp2;refine dU (ew results267 _ _ rfl (dZ.new1 w _ _ _) underlying386 VA) rfl ?_
  exact⟨rfl,((Below.refl _ _).alloc (aE _) _).alloc Vw _⟩
 |false=>
  rw[dQ Vw];go_in
  go_wp2;refine dU (ew results267 _ _ rfl (dZ.new1 w _ _ _) underlying386 VA) rfl ?_;exact⟨rfl,((Below.refl _ _).alloc (aE _) _).alloc Vw _⟩
theorem AT (s:au)(ff:Nat)(cap:ay)(fit:Int->Int->Bool)(hs:s.size<=4398046511104)(hen:∀args w,(callFunc ff args).run prog w= .ok (.enter ff args) w)
  (hf:∀(W:aw) (n k:Int),ak w W->Vq ff ((Value.agg #[aa n,aa k]::cap).toArray) W λe w'=>e= .returned (.bool (fit n k))/\Below W.heap.size W w'):
  Calls prog 160 #[ag s,.func (.func ff) #[] cap.toArray] w (eH (pW fit s) w):=by
 obtain⟨P,H⟩:∃P,Hid (pW fit s=P):=⟨_,rfl⟩;rw[H.o];have K0:=dZ.new w #[ag s,aa 0,aa 1] 244;have V:ak w (w.alloc (.cells #[ag s,aa 0,aa 1] 244)):=(Below.refl _ _).alloc (aE _) _;go_in
 go_wp2_with fail;refine(Ks w s).V ?_;rintro e w1 ⟨rfl,rfl⟩;generalize w.alloc (.cells #[ag s,aa 0,aa 1] 244)=w1 at*;go_wp2;go_loopw [5] (λ_ wr=>∃(a F:Nat),a<=s.size/\s.size-a<F/\Hid (nS fit s F a=P)/\ei wr w.heap.size s a 1/\ak w wr) (λ_ wr=>mF wr w.heap.size s.size)
 case atStart=>exact⟨0,s.size+1,aP _,Vv,H,K0,V⟩
 case round=>
  obtain⟨a,F,ha,hF,l,A,B⟩:=hrel;have VW:=si wr w.heap.size s a 1 A;have Z:Hid (mF wr w.heap.size s.size=s.size-a):=iA A;go_wp2_with fail;refine VW.V ?_;rintro e S ⟨rfl,q,rfl⟩;obtain⟨F,rfl⟩:∃g,F=g+1:=⟨F-1,Vv⟩;have VX:ei (wr.drewN q) w.heap.size s a 1:=A;have h:ak w (wr.drewN q):=iu B q;generalize wr.drewN q=S at*;by_cases hlt:a<s.size
  .have hd:decide (a<s.size)=true:=decide_eq_true hlt;have I:=Kv S w.heap.size s a 1 VX Vv;obtain⟨T,v⟩:=Vu (jY s a);rw[v]at I;have d:Hid (jY s a=T):=v;clear v;have o:Hid (P=OW fit s (nS fit s F) T):=(by show P=_;rw[<-l.o,nS,dR hlt,d.o]);go_wp2_with fail;refine I.V ?_;intro en w6 V7;rcases V7.part with⟨x,rfl,rfl,r⟩|⟨x,rfl,rfl,r,L⟩;.have b:Hid (P=false):=o.o;have i:ak w w6:=pF h r (aE _);unfold d5;go_wp2;exact⟨rfl,by rw[b.o];exact eH.no i (OX d.o)⟩
   .obtain⟨⟨num,kind⟩,z⟩:=x;have⟨kn,M,hk4,V8,V9⟩:=FX d.o;simp only at M V8 V9 L;subst M;have i:ak w w6:=pF h r (aE _);have⟨X,m⟩:=ec w6 #[aa num,aa kn] 237;have J:ei (w6.alloc (am #[aa num,aa kn] 237)) w.heap.size s z 1:=dZ.alloc L _;have D:=dW i X;have E:=hf _ num kn D;have f:Hid (P=(!(fit num kn)&&L7 (nS fit s F) (mf s z kn))):=o.o;have⟨O,Q⟩:=m.I;clear o l d;obtain⟨u,Wb⟩:=Vu (fit num kn);rw[Wb]at E f;go_wp2_with fail;generalize w6.alloc (am #[aa num,aa kn] 237)=w7 at*;generalize w6.heap.size=tb at*;refine E.V ?_;rintro e U ⟨rfl,j⟩;have VY:ei U w.heap.size s z 1:=dZ.G J j (dZ.lt J);have p:=dW D j;have VZ:=m.G j m.lt;clear O Q;have⟨O,Q⟩:=VZ.I;cases u
    .have K:=BP U w.heap.size s z 1 kn VY Vv Vv Vv;obtain⟨R,c⟩:=Vu (mf s z kn);have HW:Hid (∀y,R= .ok y->z<y.2/\y.2<=s.size):=λy C=>wY (c.J C)
     have Y:Hid (∀x,R= .error x->x.1≠0):=λy C=>Ma (c.J C)
     have G:Hid (P=L7 (nS fit s F) R):=(by show P=_;rw[f.o,c];rfl);rw[c]at K;clear c f;go_wp2_with (go_at_call 157;refine(iy _).V ?_;rintro e w2 ⟨rfl,rfl⟩)
     refine K.V ?_;intro en w9 Wd;rcases Wd.part with⟨x,rfl,rfl,t⟩|⟨y,rfl,rfl,t,N⟩;.have b:Hid (P=false):=G.o;unfold d5;go_wp2;exact⟨rfl,by rw[b.o];exact eH.no (pF p t (aE _)) (Y.o x rfl)⟩
     .have⟨hy1,We⟩:=HW.o y rfl;go_wp2;go_roundw
      case rel=>exact⟨y.2,F,We,Vv,G.o.sy,N,pF p t (aE _)⟩
      case measure=>rw[Z.o,iA N];omega
    .have b:Hid (P=false):=f.o;go_wp2_with (go_at_call 157;refine(io _).V ?_;rintro e w2 ⟨rfl,rfl⟩;unfold d5)
     exact⟨rfl,by rw[b.o];exact eH.no p⟩
  .have hd:decide (a<s.size)=false:=decide_eq_false hlt;have V0:Hid (P=true):=(by show P=true;rw[<-l.o,nS,dQ hlt]);go_wp2;go_end0;exact⟨h,by rw[V0.o];rfl⟩
end
end
section
open Go.Sort
open VH
def Jg (w:aw)(k:Nat)(os:Array Obj):ak w (grow (w.drewN k) os):=
 ⟨rfl,rfl,rfl,by show w.heap.size<=(w.heap++os).size;rw[Array.size_append];omega,λj a=>by show(w.heap++os)[j]?=_;rw[Array.getElem?_append,dR a]⟩
def Re (x y:LV)(w:aw):Vq 275 #[.agg #[.int .u64 x.1,ag x.2],.agg #[.int .u64 y.1,ag y.2]] w λe w'=>e= .returned (aa (yw x y))/\ak w w':=
 (yx x y w).V λ_ _ ⟨a,q,os,b⟩=>⟨a,by rw[b];exact Jg w q os⟩
def Eu (e:PV):Prop:=e.2.2.fs.length=2->∃n k r rest,e.2.2.fs=(n,k::r)::rest/\0<=k.1/\k.1<2^64
def OZ:Option LV->LV
 |none=>(0,⟨#[]⟩)
 |some k=>k
def AU (last:Option LV)(k:LV):Bool:=
 match last with
 |none=>true
 |some l=>decide (yw l k<0)
def Gh (sg:Bool)(last:Option LV)(e:PV)(l:List PV):jI sg last (e::l)=(((e.2.2.fs.length==2)&&ox e.2.2.unk)&&AU last (tI sg e)&&jI sg (some (tI sg e)) l):=by
 cases last<;>rfl
def AV {k:Nat}{Z:ax}(w:aw)(v:Value)(l:List PV)(sg:Bool)(L:pS (gV (k+1) w Z) w Z v l)(d:∀e∈l,Eu e)(a:l.length<=4398046511104):
  Calls prog 240 #[v,.bool sg] w (eH (jI sg none l) w):=by
 obtain⟨a,c,rfl⟩:=L.form;obtain⟨P,b⟩:∃P,Hid (jI sg none l=P):=⟨_,rfl⟩;rw[b.o];obtain⟨cs,m,L⟩:=L;have⟨p,s⟩:=ec w #[.int .u64 0,Vp] 386;go_in
 go_wp2;go_loopw [5,6,7,10] (λ_ _ _ a wr=>∃(j:Nat) (last:Option LV),a=aa j/\j<=l.length/\(j=0<->last=none)/\Hid (jI sg last (l.drop j)=P)/\dZ wr w.heap.size #[.int .u64 (OZ last).1,ag (OZ last).2] 386/\ak w wr) (λ_ _ _ a _=>l.length-(intOf a).toNat)
 case atStart=>exact⟨0,none,rfl,aP _,Vw,b,s,p⟩
 case round=>
  obtain⟨j,last,rfl,a,C,T,K,B⟩:=hrel;by_cases hlt:j<l.length
  .have⟨e,A⟩:=gx hlt;have⟨a,c,b,f,h,i⟩:=L.get A;obtain⟨o,a,rfl⟩:=c.form;obtain⟨g,rfl,n,I,u⟩:=m.at Vv;have X:=u wr (B.block _ I) _ _ b;have t1:=lK (u wr (B.block _ I) _ _ f);have t2:=lK (u wr (B.block _ I) _ _ h);have t3:=lK (u wr (B.block _ I) _ _ i);have g:(j:Int)<(l.length:Int):=Vv;have z:l.drop j=e::l.drop (j+1):=by rw[be hlt];rw[aO hlt]at A;rw[Option.some.inj A]
   have H:Hid ((((e.2.2.fs.length==2)&&ox e.2.2.unk)&&AU last (tI sg e)&&jI sg (some (tI sg e)) (l.drop (j+1)))=P):=(by show _=P;rw[<-T.o,z,Gh]);have V:=d e (aL A);have g:=c.form;unfold Eu at V;generalize hfl:e.2.2.fs.length=fl at*;have⟨N,D⟩:=ec wr #[.int .u64 e.1,ag e.2.1,.slice o fl a,ag e.2.2.unk] 55;have d:=dW B N;clear u b f h i A z T g;unfold ox at H;by_cases h2:fl=2
   .subst h2;have⟨n,b,r,rest,J,S,U⟩:=V rfl;have W:Hid ((e.2.2.unk.toList.isEmpty&&AU last (tI sg e)&&jI sg (some (tI sg e)) (l.drop (j+1)))=P):=H.o;clear H V
    cases h3:e.2.2.unk.toList.isEmpty with
    |false=>
     have x:Hid (P=false):=(by show P=false;rw[<-W.o,h3];rfl);have⟨o,q⟩:=D.I;clear J hfl;go_wp2_with (go_at_call 157;refine(io _).V ?_;rintro e w2 ⟨rfl,rfl⟩;unfold d5)
     exact⟨rfl,by rw[x.o];exact eH.no d⟩
    |true=>
     obtain⟨f,Y,u⟩:=c;rw[hfl]at Y;have⟨g,c,R,y⟩:=u.get (i:=0) (f:=(n,b::r)) (by rw[J];rfl);obtain⟨f,g,rfl⟩:=c.form;obtain⟨F,rfl,f,m,n⟩:=Y.at Vv;obtain⟨h,f,g⟩:=c;have⟨c,h,r,z,A,E⟩:=g.get (i:=0) (v:=b) rfl;obtain⟨i,rfl,c,G,t⟩:=f.at Vw;obtain⟨O,Q,rfl⟩:=h.form;have s1:=lK (n _ (d.block _ m) _ _ y);have s2:=t _ (d.block _ G) _ _ r;have I:=lK (t _ (d.block _ G) _ _ z);have L:=lK (t _ (d.block _ G) _ _ A);have M:=lK (t _ (d.block _ G) _ _ E);have i:tI sg e=FQ sg (b.1,b.2.1):=by unfold tI Rc;rw[J]
     have m:Hid ((AU last (FQ sg (b.1,b.2.1))&&jI sg (some (FQ sg (b.1,b.2.1))) (l.drop (j+1)))=P):=(by show _=P;rw[<-W.o,h3,i];rfl);have c:=OY (wr.alloc (am #[.int .u64 e.1,ag e.2.1,.slice (some F) 2 a,ag e.2.2.unk] 55)) b (.slice O b.2.2.fs.length Q) sg S U;unfold gj kV at c;clear W i J hfl n t R y r z A E u Y f g h;generalize FQ sg (b.1,b.2.1)=kk at*;generalize b.2.2.fs.length=kl at*;have U:=K.G N K.lt;have⟨o,q⟩:=D.I;simp only[Nat.zero_mul,Jf,bw]at s1 s2 I L M;go_wp2_with (first|(go_at_call 157;refine(iy _).V ?_;rintro e w2 ⟨rfl,rfl⟩))
     generalize(wr.alloc (am #[.int .u64 e.1,ag e.2.1,.slice (some F) 2 a,ag e.2.2.unk] 55))=w2 at*;generalize wr.heap.size=eb at*;refine c.V ?_;rintro b w3 ⟨rfl,O⟩;have a:=dW d O;have E:=U.G O U.lt;have⟨c,F⟩:=ec w3 #[.int .u64 kk.1,ag kk.2] 386;have Q:=dW a c;have h:=E.G c E.lt;have c:w.heap.size<w3.heap.size:=E.lt;have c:=F.lt;clear o q s p K D U E N d O a s1 s2 I L M X t1 t2 t3;have⟨o,q⟩:=F.I;have⟨M,f⟩:=h.I;by_cases hj0:j=0
     .obtain rfl:=C.1 hj0;subst hj0;have X:Hid (jI sg (some kk) (l.drop (0+1))=P):=m.o;simp only[OZ]at h M;clear m C;go_wp2_with fail;generalize(w3.alloc (am #[.int .u64 kk.1,ag kk.2] 386))=w4 at*;refine(iy _).V ?_;rintro b g ⟨rfl,rfl⟩;go_wp2;go_roundw
      case rel=>exact⟨1,some kk,rfl,Vv,Vw,X,(h.set 0 _).set 1 _,(Q.setCell (p:=(aj w.heap.size 0)) (aE _) _).setCell (p:=(aj w.heap.size 1)) (aE _) _⟩
      case measure=>simp[intOf];omega
     .cases last with
      |none=>exact absurd (C.2 rfl) hj0
      |some c=>
       have a:((j:Int)==0)=false:=Vx;have S:=Re c kk (w3.alloc (am #[.int .u64 kk.1,ag kk.2] 386));simp only[OZ]at h M;obtain⟨y,a⟩:=Vu (yw c kk);rw[a]at S;by_cases hc0:y<0
       .have X:Hid (jI sg (some kk) (l.drop (j+1))=P):=(by show _=P;rw[<-m.o,AU,a,decide_eq_true hc0];rfl);have n:decide (y<0)=true:=decide_eq_true hc0;clear m C;go_wp2_with fail;generalize(w3.alloc (am #[.int .u64 kk.1,ag kk.2] 386))=w4 at*;refine S.V ?_;rintro b g ⟨rfl,s⟩;have R:=dW Q s;have i:=F.G s F.lt;have c:=h.G s h.lt;clear o q M f;have⟨o,q⟩:=i.I;have⟨M,f⟩:=c.I;go_wp2_with (first|(go_at_call 157;refine(iy _).V ?_;rintro e w2 ⟨rfl,rfl⟩))
        go_roundw
        case rel=>exact⟨j+1,some kk,by go_num,Vv,Vw,X,(c.set 0 _).set 1 _,(R.setCell (p:=(aj w.heap.size 0)) (aE _) _).setCell (p:=(aj w.heap.size 1)) (aE _) _⟩
        case measure=>simp[intOf];omega
       .have x:Hid (P=false):=(by show P=false;rw[<-m.o,AU,a,decide_eq_false hc0];rfl);have n:decide (y<0)=false:=decide_eq_false hc0;clear m C;go_wp2_with fail;refine S.V ?_;rintro b g ⟨rfl,s⟩;have R:=dW Q s;go_wp2_with (go_at_call 157;refine(io _).V ?_;rintro e w2 ⟨rfl,rfl⟩;unfold d5)
        exact⟨rfl,by rw[x.o];exact eH.no R⟩
   .have x:Hid (P=false):=(by show P=false;rw[<-H.o,show(fl==2)=false by simpa using h2];rfl);have a:((fl:Int)==2)=false:=Vx;have⟨o,q⟩:=D.I;clear hfl;go_wp2_with (go_at_call 157;refine(io _).V ?_;rintro e w2 ⟨rfl,rfl⟩;unfold d5)
    exact⟨rfl,by rw[x.o];exact eH.no d⟩
  .obtain rfl:j=l.length:=Vv;have a:Hid (P=true):=(by show P=true;rw[<-T.o,cD];rfl);go_wp2;go_end0;exact⟨B,by rw[a.o];rfl⟩
end
section
open VH
section
variable {S:eF} {mp:an} {d:MT} {f:fw} {g:GF}
def FG.gb (fg:FG S mp d f g):eK mp g=fB S f:=by
 unfold eK fB;rw[fg.map,fg.eq,fg.base];by_cases h:g.form=4<;>simp[h]
def FG.pk (fg:FG S mp d f g):iw mp g=iN S f:=by
 unfold iw iN;rw[fg.gb,fg.rep];by_cases h:g.form=2<;>simp[h]
def FG.tk (fg:FG S mp d f g):AQ mp g=oZ S f:=by
 unfold AQ oZ;rw[fg.pk,fg.gb]
def Mc (fg:FG S mp d f g):fB S f<=16:=by rw[<-fg.gb];exact mg mp g
def Md {gs:List GF}(b:lJ S mp d gs)(num kind:Int):(tf mp gs num kind).isSome=o0 S d num kind:=by
 unfold tf o0
 cases h:ed d.fs num with
 |none=>rw[b.no num h];rfl
 |some f=>
  have⟨g,c,a⟩:=b.yes num f h;rw[c];simp only;unfold mh;rw[a.gb,a.pk];split<;>simp_all
def Gi {w:aw}{B fb:Nat}(k:tz w B S mp)(n:fi w (λb=>b<B) mp g fb)(fg:FG S mp d f g)(h:fB S f=16):
  ∃t mb gs nm rv,fC S f=some t/\dZ w fb #[aa g.f.num,aa g.form,aa (eK mp g),ah mb,rv] 220/\jk w (λb=>b<B) mp mb nm gs/\lJ S mp t gs:=by
 have⟨r,rv,c,_,_,a⟩:=n.blk;by_cases h4:g.form=4;.rw[dR h4]at a;obtain⟨l,rfl,e⟩:=a;rw[fg.eq]at e;exact⟨eR f,l,_,_,rv,by unfold fC;rw[dR (by rw[fg.map,h4];rfl)],c,e.msg,Ch fg h4⟩
 .rw[dQ h4]at a;have i:f.isMap=false:=by rw[fg.map];simp[h4]
  have m:S.base f.ty=16:=by unfold fB at h;rw[i]at h;exact h
  have⟨t,j⟩:=co.1 (fg.nest.1 m);have⟨mb,gs,o,p,q⟩:=k.md f.ty t j;rw[fg.eq,o]at a;subst a;exact⟨t,mb,gs,_,rv,by unfold fC;rw[i];exact j,c,p,q⟩
end
def Rf (S:eF)(mp:an)(B n:Nat):Prop:=
 ∀(w:aw) (Z:ax) (v:Value) (m:PM) (d:MT) (mb:Nat) (gs:List GF) (nm:au) (deep k:Nat),tz w B S mp->jk w (λb=>b<B) mp mb nm gs->lJ S mp d gs->gV k w Z v m->pi k m->n+deep=9->
  Vq 101 #[ah mb,.agg #[v,ag m.unk],aa deep] w (eH (d6 S n d m) w)
def Cs {S:eF}{mp:an}{B n:Nat}(H:Rf S mp B n)(w:aw)(Z:ax)(mv:Value)(x:PV)(d:MT)(f:fw)(g:GF)(fb:Nat)(pv:Value)(deep k:Nat)(F:tz w B S mp)(q:fi w (λb=>b<B) mp g fb)(P:FG S mp d f g)(R:gV k w Z mv x.2.2)(m:pi k x.2.2)(h0:0<=x.1)(c:x.2.1.size<=4398046511104)
  (T:∃rv,dZ w fb #[aa g.f.num,aa g.form,aa (eK mp g),pv,rv] 220) (a:n+1+deep=9):
  Calls prog 239 #[.agg #[aa (eK mp g),pv],gj x mv,aa deep] w (eH (eE S (d6 S n) f x) w):=by
 obtain⟨h,i,rfl⟩:=R.form;have V:=Mc P;have⟨j,s,l⟩:=gN w #[aa (fB S f),pv] (Vm x h i) 216 55;have G:=Es ((w.alloc (am #[aa (fB S f),pv] 216)).alloc (Obj.cells (Vm x h i) 55)) x h i;have u:=Ge ((w.alloc (am #[aa (fB S f),pv] 216)).alloc (Obj.cells (Vm x h i) 55)) x h i;have D:=Qg ((w.alloc (am #[aa (fB S f),pv] 216)).alloc (Obj.cells (Vm x h i) 55)) x (.slice h x.2.2.fs.length i);unfold gj at*;rw[P.gb];unfold eE;have⟨v,A⟩:=s.I;have⟨o,p⟩:=l.I;by_cases h16:fB S f=16
 .rw[dR h16];rw[h16]at j s l D v A o p;have⟨t,K,e,nm,rv,U,O,a,c⟩:=Gi F q P h16;obtain⟨q,Q⟩:=T;obtain rfl:pv=ah K:=(by have:=(dZ.cell O 3).sy.J (dZ.cell Q 3);simpa using this.sy);clear G u;rw[U,h16];simp only
  have L:∀W,ak w W->Vq 101 #[ah K,.agg #[.slice h x.2.2.fs.length i,ag x.2.2.unk],aa ((deep:Int)+1)] W (eH (d6 S n t x.2.2) W):=λW J=>by
   have:=H W Z _ x.2.2 t K e nm (deep+1) k (F.on (eh J F.le)) (a.O λb q _=>J.block b (by have:=F.le;omega)) c (R.G J (aE _)) m Vv
   rwa [show(((deep+1:Nat):Int))=(deep:Int)+1 by omega]at this
  have a:(deep:Int)<=9:=Vv;obtain⟨q,m⟩:=Vu ((decide (x.1=0)&&ox x.2.1));obtain⟨r,c⟩:=Vu (d6 S n t x.2.2);rw[m]at D⊢;rw[c]at L⊢;clear m c H O Q;have X:Hid (∀W,ak w W->Vq 101 #[ah K,.agg #[.slice h x.2.2.fs.length i,ag x.2.2.unk],aa ((deep:Int)+1)] W (eH r W)):=L;clear L;go_in
  go_wp2_with fail;generalize(w.alloc (am #[aa 16,ah K] 216)).alloc (Obj.cells (Vm x h i) 55)=w1 at*;refine D.V ?_;intro e w2 c;rcases c.part with⟨rfl,rfl,a⟩|⟨rfl,y,z,rfl,a⟩
  .have N:=s.G a s.lt;have I:=l.G a l.lt;clear v A o p;have⟨v,A⟩:=N.I;have⟨o,p⟩:=I.I;have C:=dW j a;go_wp2_with fail;refine(X.o w2 C).V ?_;intro e w3 t;rcases t.part with⟨rfl,rfl,E⟩|⟨rfl,y,z,rfl,E⟩;.go_wp2;go_end0;exact eH.ok (dW C E)
   .unfold d5;go_wp2;exact⟨rfl,eH.no (dW C E)⟩
  .unfold d5;go_wp2;exact⟨rfl,eH.no (dW j a)⟩
 .by_cases h13:fB S f=13
  .rw[dQ h16,dR h13];rw[h13]at j s l u v A o p;rw[h13];clear G D;have M:∀W,ak w W->Vq 325 #[ag x.2.1] W λe w'=>e= .returned (.bool (Lib.validD x.2.1.data.toList))/\Below W.heap.size W w':=λW J=>BO W x.2.1 Vv (F.on (eh J F.le)).u
   obtain⟨q,m⟩:=Vu ((decide (x.1=0)&&zG x.2.2));obtain⟨r,c⟩:=Vu (Lib.validD x.2.1.data.toList);rw[m]at u⊢;rw[c]at M⊢;clear m c;have Y:Hid (∀W,ak w W->Vq 325 #[ag x.2.1] W λe w'=>e= .returned (.bool r)/\Below W.heap.size W w'):=M;clear M;go_in
   go_wp2_with fail;generalize(w.alloc (am #[aa 13,pv] 216)).alloc (Obj.cells (Vm x h i) 55)=w1 at*;refine u.V ?_;intro e w2 c;rcases c.part with⟨rfl,rfl,a⟩|⟨rfl,y,z,rfl,a⟩
   .have I:=l.G a l.lt;clear v A o p;have⟨o,p⟩:=I.I;have C:=dW j a;go_wp2_with fail;refine(Y.o w2 C).V ?_;rintro e w3 ⟨rfl,E⟩;cases r
    .go_wp2_with (go_at_call 157;refine(io _).V ?_;rintro e w2 ⟨rfl,rfl⟩;unfold d5)
     exact⟨rfl,eH.no (dW C E)⟩
    .go_wp2_with (go_at_call 157;refine(iy _).V ?_;rintro e w2 ⟨rfl,rfl⟩)
     go_end0;exact eH.ok (dW C E)
   .unfold d5;go_wp2;exact⟨rfl,eH.no (dW j a)⟩
  .by_cases h14:fB S f=14
   .rw[dQ h16,dQ h13,dR h14];rw[h14]at j s l u v A o p;rw[h14];clear G D;obtain⟨q,m⟩:=Vu ((decide (x.1=0)&&zG x.2.2));rw[m]at u⊢;clear m;go_in
    go_wp2_with fail;generalize(w.alloc (am #[aa 14,pv] 216)).alloc (Obj.cells (Vm x h i) 55)=w1 at*;refine u.V ?_;intro e w2 c;rcases c.part with⟨rfl,rfl,a⟩|⟨rfl,y,z,rfl,a⟩;.go_wp2;go_end0;exact eH.ok (dW j a)
    .unfold d5;go_wp2;exact⟨rfl,eH.no (dW j a)⟩
   .rw[dQ h16,dQ h13,dQ h14];have r:((fB S f:Int)==16)=false:=Vx;have r:((fB S f:Int)==13)=false:=Vx;have r:((fB S f:Int)==14)=false:=Vx;clear u D;have r:=λW=>Gf W (fB S f) x.1 V h0
    generalize zH (fB S f) x.1=ob at*;generalize fB S f=fb at*;obtain⟨q,m⟩:=Vu ((ox x.2.1&&zG x.2.2));rw[m]at G⊢;go_in
    go_wp2_with fail;refine G.V ?_;intro e w2 c;generalize(w.alloc (am #[aa fb,pv] 216)).alloc (Obj.cells (Vm x h i) 55)=w1 at*;rcases c.part with⟨rfl,rfl,a⟩|⟨rfl,y,z,rfl,a⟩
    .have N:=s.G a s.lt;have I:=l.G a l.lt;clear v A o p;have⟨v,A⟩:=N.I;have⟨o,p⟩:=I.I;go_wp2_with fail;refine(r _).V ?_;rintro e w3 ⟨rfl,rfl⟩;cases ob
     .go_wp2_with (go_at_call 157;refine(io _).V ?_;rintro e w2 ⟨rfl,rfl⟩;unfold d5)
      exact⟨rfl,eH.no (dW j a)⟩
     .go_wp2_with (go_at_call 157;refine(iy _).V ?_;rintro e w2 ⟨rfl,rfl⟩)
      go_end0;exact eH.ok (dW j a)
    .unfold d5;go_wp2;exact⟨rfl,eH.no (dW j a)⟩
def Qh (k:Nat)(l:List PV):Prop:=l.length<=4398046511104/\∀v∈l,0<=v.1/\v.1<2^64/\v.2.1.size<=4398046511104/\pi k v.2.2
def Ev {α:Type}{p:α->Bool}{l:List α}{i:Nat}{x:α}(a:l[i]?=some x):(l.take (i+1)).all p=((l.take i).all p&&p x):=by
 rw[bT,a];simp
def Ie {α:Type}{p:α->Bool}{l:List α}{i:Nat}(h:(l.take i).all p=false):l.all p=false:=by
 grind
def If {S:eF}{n k:Nat}{f:fw}{e:PV}(h:d6 S n (eR f) e.2.2=true)(b:pi k e.2.2):Eu e:=by
 intro i
 cases n with
 |zero=>simp[d6]at h
 |succ n=>
  rw[d6,aQ]at h;have a:=h.1
  cases hfs:e.2.2.fs with
  |nil=>grind
  |cons x rest=>
   rw[hfs,gX]at a
   cases hf:ed (eR f).fs x.1 with
   |none=>grind
   |some g=>
    rw[hf]at a;simp only[fG,nR,aQ,cO]at a;obtain⟨d,vs⟩:=x
    cases vs with
    |nil=>grind
    |cons c r=>
     cases k with
     |zero=>exact b.elim
     |succ k=>
      have:=(b.2.2 (d,c::r) (by grind)).2 c aZ;grind
def Ct {S:eF}{mp:an}{B n:Nat}(H:Rf S mp B n)(w:aw)(Z:ax)(v:Value)(l:List PV)(d:MT)(f:fw)(g:GF)(fb:Nat)(deep k:Nat)(cx:tz w B S mp)(hf:fi w (λb=>b<B) mp g fb)(m:FG S mp d f g)(hv:pS (gV k w Z) w Z v l)(K:Qh k l)(hd:n+1+deep=9):
  Calls prog 159 #[ah fb,v,aa deep] w (eH (fG S (d6 S n) f l) w):=by
 obtain⟨a,c,rfl⟩:=hv.form;have⟨pv,rv,s,_,VQ,V9⟩:=hf.blk;obtain⟨X,rfl⟩:=gL V9;obtain⟨ra,rc,rfl⟩:=iB VQ.1;have⟨k1,k2⟩:=s.I;have VY:=K.1;go_in
 go_upto_region 0 with fail
 go_cut [6]from 9 to 20 (λx wx=>x= .bool (f.isRep||f.isMap)/\wx=w)
 case first=>
  rcases m.form with q|q|q|q|q<;>rw[q]at k1
  all_goals
   go_wp2;go_meet
   case rel=>exact⟨by rw[m.rep,m.map,q];rfl,rfl⟩
 case rest=>
  obtain⟨rfl,rfl⟩:=hcut;obtain⟨O,VR⟩:=Vu ((f.isRep||f.isMap));have HH:Hid (nR f l=((l.length==1)||(O&&decide (1<l.length)))):=by rw[<-VR];rfl
  rw[VR];clear VR;go_upto_region 1 with fail
  go_cut []from 21 to 32 (λwx=>Hid (nR f l=true)/\wx=wc)
  case first=>
   by_cases q1:l.length=1
   .have e1:((l.length:Int)==1)=true:=by grind
    have e2:(l.length==1)=true:=by grind
    clear q1;go_wp2_with (go_at_call 157;refine(iy _).V ?_;rintro e w2 ⟨rfl,rfl⟩)
    go_meet;grind
   .have e1:((l.length:Int)==1)=false:=by grind
    have e2:(l.length==1)=false:=by grind
    cases O
    .go_wp2_with (go_at_call 157;refine(io _).V ?_;rintro e w2 ⟨rfl,rfl⟩;unfold d5)
     exact⟨rfl,by rw[show fG S (d6 S n) f l=false by unfold fG;rw[HH.o,e2];rfl];exact eH.no (Below.refl _ _)⟩
    .by_cases q2:1<l.length
     .have e3:decide (1<(l.length:Int))=true:=by grind
      go_wp2_with (go_at_call 157;refine(iy _).V ?_;rintro e w2 ⟨rfl,rfl⟩)
      go_meet;grind
     .have e3:decide (1<(l.length:Int))=false:=by grind
      go_wp2_with (go_at_call 157;refine(io _).V ?_;rintro e w2 ⟨rfl,rfl⟩;unfold d5)
      exact⟨rfl,by rw[show fG S (d6 S n) f l=false by unfold fG;rw[HH.o,e2,decide_eq_false q2];rfl];exact eH.no (Below.refl _ _)⟩
  case rest=>
   obtain⟨HW,rfl⟩:=hcut;obtain⟨Q,HQ⟩:∃Q,Hid (l.all (eE S (d6 S n) f)=Q):=⟨_,rfl⟩;obtain⟨Wb,VS,VT⟩:=hv;have hfw:=s.lt
   have HC:Hid (∀(W:aw) (x:PV) (L:Value),ak wc W->x∈l->gV k wc Z L x.2.2->Vq 239 #[.agg #[aa (eK mp g),.pointer X],gj x L,aa deep] W (eH (eE S (d6 S n) f x) W)):=λW x L t h E=>
    Cs H W Z L x d f g fb (.pointer X) deep k (cx.on (eh t cx.le)) (hf.O λb _ q=>t.block b q) m (E.G t (aE _)) (K.2 x h).2.2.2 (K.2 x h).1 (K.2 x h).2.2.1 ⟨_,s.G t s.lt⟩ hd
   clear k1 k2;go_upto_region 2 with fail
   go_wp2;go_loopw [8,35] (λ_ jv wr=>∃j:Nat,jv=aa j/\j<=l.length/\Hid ((l.take j).all (eE S (d6 S n) f)=true)/\ak wc wr) (λ_ jv _=>l.length-(intOf jv).toNat)
   case atStart=>exact⟨0,rfl,aP _,rfl,Below.refl _ _⟩
   case round=>
    obtain⟨j,rfl,hj,HA,B⟩:=hrel;by_cases hlt:j<l.length
    .have⟨x,h⟩:=gx hlt;have⟨L,P,R,T,U,V⟩:=VT.get h;obtain⟨I,J,rfl⟩:=P.form;obtain⟨gv,rfl,VU,p,i⟩:=VS.at Vv;have t0:=i wr (B.block _ p) _ _ R;have t1:=lK (i wr (B.block _ p) _ _ T);have t2:=lK (i wr (B.block _ p) _ _ U);have t3:=lK (i wr (B.block _ p) _ _ V);have hlj:(j:Int)<(l.length:Int):=Vv;have⟨B1,F⟩:=ec wr (Vm x I J) 55;have M:=dW B B1;have HX:=HC.o _ x _ M.drew (aL h) P;have HT:Hid ((l.take (j+1)).all (eE S (d6 S n) f)=eE S (d6 S n) f x):=(by show(l.take (j+1)).all (eE S (d6 S n) f)=_;rw[Ev h,HA.o,df]);have G:=s.G M s.lt;obtain⟨q,hq⟩:=Vu (eE S (d6 S n) f x);rw[hq]at HX HT;unfold gj at HX;clear i R T U V h hq;go_upto_region 5 with fail
     generalize wr.alloc (Obj.cells (Vm x I J) 55)=w1 at*;generalize wr.heap.size=vb at*
     have t:w1.drew.cell? (aj fb 2)=some (aa (eK mp g))/\w1.drew.cell? (aj fb 3)=some (.pointer X)/\w1.drew.cell? (aj vb 0)=some (.int .u64 x.1)/\w1.drew.cell? (aj vb 1)=some (ag x.2.1)/\w1.drew.cell? (aj vb 2)=some (.slice I x.2.2.fs.length J)/\w1.drew.cell? (aj vb 3)=some (ag x.2.2.unk):=
      ⟨G.drew.cell 2,G.drew.cell 3,F.drew.cell 0,F.drew.cell 1,F.drew.cell 2,F.drew.cell 3⟩
     go_region_held2 (λW=>W.cell? (aj fb 2)=some (aa (eK mp g))/\W.cell? (aj fb 3)=some (.pointer X)/\W.cell? (aj vb 0)=some (.int .u64 x.1)/\W.cell? (aj vb 1)=some (ag x.2.1)/\W.cell? (aj vb 2)=some (.slice I x.2.2.fs.length J)/\W.cell? (aj vb 3)=some (ag x.2.2.unk))
      (first|exact t|exact⟨h3.cell 2,h3.cell 3,N.cell 0,N.cell 1,N.cell 2,N.cell 3⟩)
      (first
       |(
         go_at_call 239;refine HX.V ?_;intro e w3 u;rcases u.part with⟨rfl,rfl,C⟩|⟨rfl,y,z,rfl,C⟩;rotate_left;.have B4:=dW M.drew C;unfold d5;go_wp2;exact⟨rfl,by rw[show fG S (d6 S n) f l=false by unfold fG;rw[Ie HT.o,cW];rfl];exact eH.no B4⟩
         have h3:=G.G (w:=w1.drew) C G.lt
         have N:=F.G (w:=w1.drew) C F.lt))
     have B4:=dW M.drew C;go_wp2;go_roundw
     case rel=>grind
     case measure=>simp[intOf];omega
    .obtain rfl:j=l.length:=Vv
     have VV:Hid (l.all (eE S (d6 S n) f)=true):=by
      show l.all (eE S (d6 S n) f)=true;have:=HA.o
      rwa [bB]at this
     have A:Hid (fG S (d6 S n) f l=ku S f l):=(by show fG S (d6 S n) f l=_;unfold fG;rw[HW.o,VV.o];rfl);have G:=s.G B s.lt;have VZ:=hf.O (w':=wr) (λb _ q=>B.block b q)
     have VM:0<l.length:=by
      cases l with
      |nil=>have:=HW.o;simp[nR]at this
      |cons x r=>simp
     have⟨k1,k2⟩:=G.I;by_cases h4:g.form=4
     .have E:f.isMap=true:=by rw[m.map,h4];rfl
      have e4:(g.form==4)=true:=by grind
      have VW:ku S f l=jI (iM (S.base f.key)) none l:=by unfold ku;rw[dR E]
      have o:Hid (fG S (d6 S n) f l=jI (iM (S.base f.key)) none l):=A.o.J VW;clear VW A;have VN:=(m.key h4).1;have V0:S.base f.key<=16:=by rw[<-VN];exact uy mp _
      have VX:=Hp wr _ mp g fb VZ h4;rw[m.eq,VN]at VX
      cases k with
      |zero=>
       cases l with
       |nil=>simp at VM
       |cons x r=>exact(K.2 x aZ).2.2.2.elim
      |succ k=>
       have V7:∀e∈l,Eu e:=λe he=>by
        have:=ca.1 VV.o e he;unfold eE fB at this;rw[E]at this;simp only[if_true,aQ]at this;unfold fC at this;rw[dR E]at this;exact If this.2 (K.2 e he).2.2.2
       have HE:Hid (∀W,ak wc W->Vq 240 #[.slice a l.length c,.bool (iM (S.base f.key))] W (eH (jI (iM (S.base f.key)) none l) W)):=λW t=>
        AV W _ l _ (pS.G t (aE _) ⟨Wb,VS,VT⟩) V7 VY
       have V8:=λW pv=>py W (S.base f.key) pv V0
       clear VN;generalize iM (S.base f.key)=sg at*;generalize S.base f.key=kb at*;generalize jI sg none l=r at*;go_wp2_with fail;refine VX.V ?_;rintro e w2 ⟨Wd,rfl,b2⟩;go_wp2_with fail;refine(V8 w2 Wd).V ?_;rintro e w3 ⟨rfl,C⟩;have Y:=dW B (dW b2 C);go_wp2_with fail;refine(HE.o w3 Y).V ?_;intro e w4 u;rcases u.part with⟨rfl,rfl,D⟩|⟨rfl,y,z,rfl,D⟩;.go_wp2;go_end0;rw[o.o];exact eH.ok (dW Y D)
       .unfold d5;go_wp2;rw[o.o];exact⟨rfl,eH.no (dW Y D)⟩
     .have E:f.isMap=false:=by rw[m.map];grind
      have e4:(g.form==4)=false:=by grind
      have VL:=m.sin;have VO:=m.gb;by_cases h0:g.form=0/\fB S f≠16
      .have e0:(g.form==0)=true:=by grind
       have e16:((eK mp g:Int) !=16)=true:=by grind
       have hs0:gQ f.how eS=true:=by grind
       have⟨x,h⟩:=gx VM;have o:Hid (fG S (d6 S n) f l= !(decide (x.1=0)&&ox x.2.1)):=(by refine A.o.J ?_;unfold ku;grind);have⟨L,P,R,T,U,V⟩:=VT.get h;obtain⟨I,J,rfl⟩:=P.form;obtain⟨gv,rfl,VU,p,i⟩:=VS.at Vv;have t0:=i wr (B.block _ p) _ _ R;have t1:=lK (i wr (B.block _ p) _ _ T);have t2:=lK (i wr (B.block _ p) _ _ U);have t3:=lK (i wr (B.block _ p) _ _ V);simp only[Nat.zero_mul,Jf]at t0 t1 t2 t3;have VP:=AR wr x (.slice I x.2.2.fs.length J);unfold gj at VP;obtain⟨r,u⟩:=Vu ((!(decide (x.1=0)&&ox x.2.1)));rw[u]at VP o;clear u h A VL VO;have hl0:(0:Int)<(l.length:Int):=Vv;go_wp2_with fail;refine VP.V ?_;intro e w4 u;rcases u.part with⟨rfl,rfl,D⟩|⟨rfl,y,z,rfl,D⟩;.go_wp2;go_end0;rw[o.o];exact eH.ok (dW B D)
       .unfold d5;go_wp2;rw[o.o];exact⟨rfl,eH.no (dW B D)⟩
      .have o:Hid (fG S (d6 S n) f l=true):=(by refine A.o.J ?_;unfold ku;rw[E,dQ Vw,dQ (λq=>h0 ⟨by grind,q.2⟩)]);by_cases h00:g.form=0
       .have e0:(g.form==0)=true:=by grind
        have e16:((eK mp g:Int) !=16)=false:=by grind
        clear A VL VO h0 h00;go_wp2;go_end0;rw[o.o];exact eH.ok B
       .have e0:(g.form==0)=false:=by grind
        clear A VL VO h0;go_wp2;go_end0;rw[o.o];exact eH.ok B
end
section
variable {S:eF} {d:MT} {f:fw}
def yE {R:MT->PM->Bool}{x:PF}:∀{fs a:List PF},gX S R d a fs=true->x∈fs->∃f,ed d.fs x.1=some f/\fG S R f x.2=true
 | [],_,_,b=>by simp at b
 |y::l,a,h,b=>by
  rw[gX,aQ]at h;rcases aR.1 b with rfl|b;.grind
  .exact yE h.2 b
def yF {R:MT->PM->Bool}{l:List PV}{v:PV}(h:fG S R f l=true)(a:v∈l):eE S R f v=true:=by
 unfold fG at h;simp_all
def uW {R:MT->PM->Bool}{v:PV}{t:MT}(h:eE S R f v=true)(hb:fB S f=16)(a:fC S f=some t):R t v.2.2=true:=by
 unfold eE at h;simp_all
def NQ (d:MT):Prop:=∀n f,ed d.fs n=some f->0<=f.num/\f.num<=536870911
def Ew (S:eF):Prop:=∀t d,S.msg t=some d->NQ d
def uX {t:MT}(h:Ew S)(b:fC S f=some t):NQ t:=by
 unfold fC at b;split at b;.obtain rfl:=Option.some.inj b;intro n g a;have⟨_,a⟩:=fD a;simp[eR]at a;rcases a with rfl|rfl<;>simp
 .exact h _ _ b
end
section
variable {α:Type} {g:α->ap} {l:List α}
def wZ {x:α}(h:x∈l):(g x).length<=(l.flatMap g).length:=by
 induction l with
 |nil=>grind
 |cons y l ih=>
  grind
def gi {i:Nat}{x:α}(h:l[i]?=some x):(l.take (i+1)).flatMap g=(l.take i).flatMap g++g x:=by
 rw[bT,h];simp
def iX (i:Nat):((l.take i).flatMap g).length<=(l.flatMap g).length:=by
 conv=>rhs;rw[<-bY i l]
 grind
def tJ (t:ap):(l.flatMap λv=>t++g v).length=t.length*l.length+(l.flatMap g).length:=by
 induction l with
 |nil=>simp
 |cons y l ih=>
  grind
end
def rk (x:ap):x.length<=(fI x).length:=by unfold fI;simp
def ip (x:ap)(w:aw)(e:Ending)(w':aw):Prop:=e= .returned (aa x.length)/\ak w w'
section
open VH
def xd {v:Int}(a:0<=v)(h1:v<2^64):0<=Cq v/\Cq v<2^64:=by
 unfold Cq;split<;>omega
def O2 (S:eF)(mp:an)(B n:Nat):Prop:=
 ∀(w:aw) (Z:ax) (v:Value) (m:PM) (d:MT) (mb:Nat) (gs:List GF) (nm:au) (k:Nat),tz w B S mp->jk w (λb=>b<B) mp mb nm gs->lJ S mp d gs->NQ d->gV k w Z v m->pi k m->d6 S n d m=true->(eI S n d m).length<=2^47->
  Vq 102 #[ah mb,.agg #[v,ag m.unk]] w (ip (eI S n d m) w)
def O3 {S:eF}{mp:an}{B n:Nat}(H:O2 S mp B n)(T:Ew S)(w:aw)(Z:ax)(mv:Value)(x:PV)(d:MT)(f:fw)(g:GF)(fb:Nat)(pv:Value)(k:Nat)(p:tz w B S mp)(X:fi w (λb=>b<B) mp g fb)(r:FG S mp d f g)(D:gV k w Z mv x.2.2)(U:pi k x.2.2)(s:0<=x.1)(h1:x.1<2^64)
  (h:∃rv,dZ w fb #[aa g.f.num,aa g.form,aa (eK mp g),pv,rv] 220) (F:eE S (d6 S n) f x=true) (c:(gp S (eI S n) f x).length<=2^47):
  Calls prog 317 #[.agg #[aa (eK mp g),pv],gj x mv] w (ip (gp S (eI S n) f x) w):=by
 obtain⟨G,I,rfl⟩:=D.form;have N:=Mc r;unfold gj;rw[r.gb];by_cases h16:fB S f=16
 .have⟨t,u,R,nm,rv,o,v,O,P⟩:=Gi p X r h16;obtain⟨a,z⟩:=h;obtain rfl:pv=ah u:=(by have:=(dZ.cell v 3).sy.J (dZ.cell z 3);simpa using this.sy);have E:gp S (eI S n) f x=fI (eI S n t x.2.2):=by unfold gp;rw[dR h16,o]
  have V:=uW F h16 o;rw[E]at c;have m:=aM (rk _) c;rw[E,h16];have⟨a,j,l⟩:=gN w #[aa 16,ah u] (Vm x G I) 216 55;have J:=H _ Z _ x.2.2 t u R nm k (p.on (eh a p.le)) (O.O λb q _=>a.block b (by have:=p.le;omega)) P (uX T o) (D.G a (aE _)) U V m;have i:=λW=>uV W (eI S n t x.2.2) m
  unfold ip;generalize eI S n t x.2.2=y at*;have⟨Y,o⟩:=j.I;have⟨p,r⟩:=l.I;clear v z H;go_in
  go_wp2_with fail;refine J.V ?_;rintro e w2 ⟨rfl,Q⟩;go_wp2_with fail;refine(i w2).V ?_;rintro e w3 ⟨rfl,rfl⟩;go_wp2;go_ret;exact⟨rfl,dW a Q⟩
 .have⟨A,C⟩:=xd s h1;have i:=λW=>uV W x.2.1.data.toList
  rw[show x.2.1.data.toList.length=x.2.1.size by simp]at i;have K:=λW=>oY W x.1 s h1
  have M:=λW=>tF W x.1 s h1
  have L:=λW=>oY W (Cq x.1) A C
  have⟨a,j,l⟩:=gN w #[aa (fB S f),pv] (Vm x G I) 216 55;clear F H h A C;unfold ip;rcases AS N with q|q|q|q|q|q|q|q|q|q|q|q|q|q|q|q|q
  case inr.inr.inr.inr.inr.inr.inr.inr.inr.inr.inr.inr.inr.inr.inr.inr=>exact absurd q h16
  all_goals
   rw[q]at a j l;have⟨Y,o⟩:=j.I;have⟨p,r⟩:=l.I;clear h16;unfold gp at c⊢;simp only[q,Nat.reduceEqDiff,if_false,if_true,or_self,or_true,or_false]at c⊢
   try rw[iI]
   try (have m:x.2.1.size<=2^47:=(show x.2.1.size=x.2.1.data.toList.length by simp)▸aM (rk _) c)
   clear c;go_in
   go_wp2_with (first|(go_at_call 243;refine(i _ m).V ?_;rintro e w2 ⟨rfl,rfl⟩)|(go_at_call 321;refine(M _).V ?_;rintro e w2 ⟨rfl,rfl⟩)|(go_at_call 328;(first|refine(K _).V ?_|refine(L _).V ?_);rintro e w2 ⟨rfl,rfl⟩))
   go_ret;exact⟨rfl,a⟩
def Ex {S:eF}{mp:an}{B n:Nat}(H:O2 S mp B n)(e:Ew S)(w:aw)(Z:ax)(v:Value)(l:List PV)(d:MT)(f:fw)(g:GF)(fb:Nat)(pv:Value)(k:Nat)(A:tz w B S mp)(L:fi w (λb=>b<B) mp g fb)(K:FG S mp d f g)(N:pS (gV k w Z) w Z v l)(p:Qh k l)
  (r:∃rv,dZ w fb #[aa g.f.num,aa g.form,aa (eK mp g),pv,rv] 220) (M:∀x∈l,eE S (d6 S n) f x=true) (C:(nH S (eI S n) f l).length<=2^47):
  Calls prog 233 #[.agg #[aa (eK mp g),pv],v] w (ip (nH S (eI S n) f l) w):=by
 obtain⟨a,c,rfl⟩:=N.form;obtain⟨h,a,c⟩:=N;have h:=p.1;have⟨T,F⟩:=ec w #[aa (eK mp g),pv] 216
 have U:Hid (∀(W:aw) (x:PV) (s:Value),ak w W->x∈l->gV k w Z s x.2.2->Vq 317 #[.agg #[aa (eK mp g),pv],gj x s] W (ip (gp S (eI S n) f x) W)):=λW x s u h i=>
  O3 H e W Z s x d f g fb pv k (A.on (eh u A.le)) (L.O λb _ q=>u.block b q) K (i.G u (aE _)) (p.2 x h).2.2.2 (p.2 x h).1 (p.2 x h).2.1 (r.imp λ_ q=>q.G u q.lt) (M x h) (aM (wZ h) C)
 have X:Hid (∀i,((l.take i).flatMap (gp S (eI S n) f)).length<=2^47):=λi=>aM (iX i) C
 unfold nH at*;generalize gp S (eI S n) f=bv at*;generalize eK mp g=gb at*;clear C M r p L K A;go_in
 go_wp2;generalize w.alloc (am #[aa gb,pv] 216)=w1 at*;go_loopw [5,7,10] (λsv _ D wr=>∃j:Nat,D=aa j/\j<=l.length/\sv=aa ((l.take j).flatMap bv).length/\ak w1 wr) (λ_ _ D _=>l.length-(intOf D).toNat)
 case atStart=>exact⟨0,rfl,aP _,rfl,Below.refl _ _⟩
 case round=>
  obtain⟨j,rfl,e,rfl,z⟩:=hrel;have m:=dW T z;by_cases hlt:j<l.length
  .have⟨x,h⟩:=gx hlt;have⟨s,J,O,P,Q,R⟩:=c.get h;obtain⟨c,e,rfl⟩:=J.form;obtain⟨i,rfl,I,t,o⟩:=a.at Vv;have a:=o wr (m.block _ t) _ _ O;have a:=lK (o wr (m.block _ t) _ _ P);have a:=lK (o wr (m.block _ t) _ _ Q);have a:=lK (o wr (m.block _ t) _ _ R);have a:(j:Int)<(l.length:Int):=Vv;have⟨y,Y⟩:=ec wr (Vm x c e) 55;have E:=U.o _ x _ (dW m y) (aL h) J;unfold gj at E;have a:=F.G (dW z y) F.lt;have c:=X.o (j+1);rw[gi h,aN]at c;have V:Hid (((l.take (j+1)).flatMap bv).length=((l.take j).flatMap bv).length+(bv x).length):=(by show((l.take (j+1)).flatMap bv).length=_;rw[gi h,aN]);generalize((l.take j).flatMap bv).length=sz at*;have⟨c,e⟩:=a.I;have⟨a,c⟩:=Y.I;clear o O P Q R h;go_wp2_with fail;refine E.V ?_;rintro e w3 ⟨rfl,a⟩;generalize(bv x).length=yz at*;have G:(sz:Int)+(yz:Int)<=2^47:=Vv;go_wp2;go_roundw
   case rel=>exact⟨j+1,by go_num,Vv,by rw[V.o];go_num,dW (dW z y) a⟩
   case measure=>simp[intOf];omega
  .obtain rfl:j=l.length:=Vv;rw[bB];go_wp2;go_ret;exact⟨rfl,m⟩
end
end Go.Proofs.YtfebdimolnobaaaGreatDoor
