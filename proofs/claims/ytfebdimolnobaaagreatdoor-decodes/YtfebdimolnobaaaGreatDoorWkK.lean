import Derived.Test.YtfebdimolnobaaaGreatDoorWkI
import Derived.Test.YtfebdimolnobaaaGreatDoorPxE
set_option maxRecDepth 100000
set_option maxHeartbeats 8000000
set_option linter.all false
namespace Go.Proofs.YtfebdimolnobaaaGreatDoor
open Go.RowKit Go.Proofs.Tryz
section
open Tq
def JZ (w:aw)(B:Nat)(S:eE)(mp:am)(k:Nat)(d:MT)(f:fB)(g:GF)(fb:Nat)(Z:ax)(rb db:Nat)(b:au)(e a z deep F:Nat)(num kind:Int)(m:PM)
  (I:oZ w B S mp k d Z rb db b e a z deep m) (j:eR w (λb=>b<B) mp g fb) (h:FG S mp d f g) (u:g.form=2) (E:S.base f.ty<=15) (n:ei d.fs f.num=some f) (H:kind=ed (S.base f.ty)\/(kind=2/\ed (S.base f.ty)≠2)):
  Calls prog 133 #[ag fb,aa kind,ag rb,ag db] w (ij S k d w Z rb db (b.extract 0 e) deep (jH S b F d f m deep (fP (b.extract 0 e) a num kind z))):=by
 have⟨c,U,r,X,p,A⟩:=j.blk;have L:eG mp g=S.base f.ty:=by unfold eG;rw[dG Te,h.eq,h.base]
 have M:=h.lone Te;rw[M]at p;have t:=qH S k (some d) w Z db m U [] I.hd p.1 Tf (λx T q=>by have:=p.2 x T;have:=(I.hZ x q).1;omega);rw[iO]at t
 have v:∀w1 c,et w Z w1 c->el S (k+1) (some d) w1 c db m->S9 192 #[ag fb,aa kind,ag rb,ag db] w1 (ij S k d w Z rb db (b.extract 0 e) deep (jH S b F d f m deep (fP (b.extract 0 e) a num kind z))):=λw1 c K s=>by
  have o:ez w Z rb w1 c:= .oS K;have N:=o.G I.cx.le (λx q=>(I.hZ x q).1) I.rB;have y:=I.on o s (dP.step I.hr K I.rZ) I.wm;have C:=j.O (w':=w1) (λx q _=>N.block x q);rcases H with rfl|⟨rfl,Q⟩;.exact(EC w1 B S mp k d f g fb _ rb db b e a z deep F num m y C h u E n).V λ_ _ q=>q.pre o.clip
  .exact(ED w1 B S mp k d f g fb _ rb db b e a z deep F num m y C h u E Q n).V λ_ _ q=>q.pre o.clip
 rw[L,h.eq,u]at r;obtain⟨R,D⟩:=Td (jH S b F d f m deep (fP (b.extract 0 e) a num kind z));rw[D]at v⊢;clear D;obtain⟨Y,rfl⟩:=g8 A;obtain⟨h,j,i,rfl⟩:=dO p.1;have⟨G,J⟩:=r.I;have V:((S.base f.ty:Int)==16)=false:=Tg;have W:=r.lt;clear A H;go_in
 go_wp2_with fail;refine t.V ?_;rintro O w1 ⟨rfl,c,l,s⟩;have P:=r.step l (λq=>by have:=(I.hZ fb q).1;omega);clear G J t;have⟨G,J⟩:=P.I;go_wp2_with fail;refine(v w1 c l s).V ?_;intro O w2 i
 cases R with
 |error x=>
  obtain⟨rfl,i⟩:=i;unfold dX;go_wp2
  exact⟨rfl,rfl,i⟩
 |ok x=>
  obtain⟨rfl,i⟩:=i;go_wp2;go_end0;exact⟨rfl,i⟩
def J8 (w:aw)(B:Nat)(S:eE)(mp:am)(k:Nat)(d:MT)(f:fB)(g:GF)(fb:Nat)(Z:ax)(rb db:Nat)(b:au)(e a z deep F:Nat)(num:Int)(m:PM)
  (I:oZ w B S mp k d Z rb db b e a z deep m) (j:eR w (λb=>b<B) mp g fb) (p:FG S mp d f g) (h:g.form≠4) (c:g.form≠2) (i:S.base f.ty<=15) (r:ei d.fs f.num=some f):
  Calls prog 133 #[ag fb,aa (ed (S.base f.ty)),ag rb,ag db] w (ij S k d w Z rb db (b.extract 0 e) deep (jH S b F d f m deep (fP (b.extract 0 e) a num (ed (S.base f.ty)) z))):=by
 rw[Gg p h c i I.eb];have⟨l,s,n,q,X,o⟩:=j.blk;have j:eG mp g=S.base f.ty:=by unfold eG;rw[dG h,p.eq,p.base]
 rw[j,p.eq]at n;have G:=qH S k (some d) w Z db m s g.riv I.hd X.1 p.rlen (λx j q=>by have:=X.2 x j;have:=(I.hZ x q).1;omega);have⟨j,_,_⟩:=kT p h i;have⟨L,M⟩:=oy r j;have h:(b.extract 0 e).size=e:=gB I.eb;have j:(m.without g.riv).fs.length<=a:=(by have:=I.wm.len.1;exact aL (bZ _ _) this);have h:=I.az;have h:=I.ze;have h:=I.eb;have h:=I.bs;have h:=I.rB;have N:=I.rZ;have TR:=I.hZ;have h:=I.cx.le;have TS:rb<w.heap.size:=dP.lt I.hr
 have hV:∀w1,d6 w1 rb (b.extract 0 e) z deep->UOK w1->S9 194 #[.agg #[aa (S.base f.ty),l],ag rb] w1 (py w1 rb (b.extract 0 e) deep (gr (b.extract 0 e) z (S.base f.ty)) vR):=
  λw1 n c=>pW w1 rb _ z deep _ l n Te Te i c (by have:=I.cx.u1;have:=I.rB;omega) (by have:=I.cx.u2;have:=I.rB;omega)
 obtain⟨R,c⟩:=Td (gr (b.extract 0 e) z (S.base f.ty));rw[c]at hV⊢;clear c;obtain⟨l,c⟩:=Td (m.without g.riv);rw[c]at G j⊢;clear c;have hu:∀w1 c,et w Z w1 c->UOK w1:=λw1 c h=>(I.cx.on ((ez.oS (rb:=rb) h).G I.cx.le (λx q=>(I.hZ x q).1) I.rB)).u
 obtain⟨i,rfl⟩:=g8 o;obtain⟨j,E,y,rfl⟩:=dO X.1;have h:((S.base f.ty:Int)==16)=false:=Tg;have H:=I.hr;clear o;have h:g.form=0\/g.form=1\/g.form=3:=by have:=p.form;omega
 have X:=n.lt;rcases h with r|r
 .rw[r]at n⊢
  have O:Hid (∀(w3:aw) (c:ax) (v:LV),el S (k+1) (some d) w3 c db l->(∀x,c x->x<w3.heap.size)->S9 193 #[ag db,aa f.num,vR v] w3 (jN S k (some d) w3 c db (if v.1=0/\gP v.2 eS=true then l.put f.num []else l.put f.num [qF v]))):=
   λw3 c v U h=>FZ S k (some d) w3 c db l f.num v U L (.inl M) Te h
  have⟨J,K⟩:=n.I;go_in
  go_wp2_with fail;refine G.V ?_;rintro D w1 ⟨rfl,TZ,A,C⟩;obtain⟨c,h,p,TU⟩:∃c,et w Z w1 c/\el S (k+1) (some d) w1.drew c db l/\∀x,c x->x<w1.heap.size:=⟨_,A.clip,C.clip.O (λ_ _ _=>rfl),λx q=>q.2⟩;clear A C;have s:¬Z fb:=λq=>by have:=(TR fb q).1;omega
  have t:=n.step h s;have u:dP w1.drew fb #[aa f.num,aa 0,aa (S.base f.ty),.pointer i,.slice j E y] 220:=t;have P:d6 w1.drew rb (b.extract 0 e) z deep:=dP.step H h.drew N;have y:¬c rb:=h.not TS N;have Y:¬c fb:=h.not X s;have Q:UOK w1.drew:=hu w1 c h;clear J K G;have⟨J,K⟩:=t.I;have⟨k3,k4⟩:=u.I;go_upto_region 13 with fail
  go_region_with
   (first
    |(
      go_at_call 194;refine(hV w1.drew P Q).V ?_;intro D w3 R;rcases R.part with⟨x,rfl,rfl,j⟩|⟨x,rfl,rfl,j,V⟩;.unfold dX;go_wp2;exact⟨rfl,rfl,c,(ez.oS h.drew).J (.oK j)⟩
      have E:=u.kept j Tg
      have⟨k5,k6⟩:=E.I)
    |(
      go_at_call 193;refine(O.o w3 c x.1 (ez.dr p j y) (λi q=>aI (TU i q) j.size)).V ?_;rintro D w4 ⟨rfl,i,o,W⟩;have T:=E.step o Y
      have⟨k7,k8⟩:=T.I))
  all_goals
   go_wp2;go_end0;refine⟨rfl,i,((ez.oS h.drew).J (.oK j)).J (.oS o),?_,dP.step V o y⟩;simp only[decide_true,true_and];exact W
 .rcases r with r|r
  all_goals
   rw[r]at n⊢
   have O:Hid (∀(w3:aw) (c:ax) (v:LV),el S (k+1) (some d) w3 c db l->S9 195 #[ag db,aa f.num,vR v] w3 (jN S k (some d) w3 c db (l.put f.num [qF v]))):=
    λw3 c v U=>AT S k (some d) w3 c db l f.num v U L (.inl M) Te
   have⟨J,K⟩:=n.I;go_in
   go_wp2_with fail;refine G.V ?_;rintro D w1 ⟨rfl,TZ,A,C⟩;obtain⟨c,h,p,TU⟩:∃c,et w Z w1 c/\el S (k+1) (some d) w1.drew c db l/\∀x,c x->x<w1.heap.size:=⟨_,A.clip,C.clip.O (λ_ _ _=>rfl),λx q=>q.2⟩;clear A C;have s:¬Z fb:=λq=>by have:=(TR fb q).1;omega
   have t:=n.step h s;have u:dP w1.drew fb _ 220:=t;have P:d6 w1.drew rb (b.extract 0 e) z deep:=dP.step H h.drew N;have y:¬c rb:=h.not TS N;have Y:¬c fb:=h.not X s;have Q:UOK w1.drew:=hu w1 c h;clear J K G;have⟨J,K⟩:=t.I;have⟨k3,k4⟩:=u.I;go_upto_region 1 with fail
   go_region_with
    (first
     |(
       go_at_call 194;refine(hV w1.drew P Q).V ?_;intro D w3 R;rcases R.part with⟨x,rfl,rfl,j⟩|⟨x,rfl,rfl,j,V⟩;.unfold dX;go_wp2;exact⟨rfl,rfl,c,(ez.oS h.drew).J (.oK j)⟩
       have E:=u.kept j Tg
       have⟨k5,k6⟩:=E.I)
     |(
       go_at_call 195;refine(O.o w3 c x.1 (ez.dr p j y)).V ?_;rintro D w4 ⟨rfl,i,o,W⟩;have T:=E.step o Y
       have⟨k7,k8⟩:=T.I))
   all_goals
    go_wp2;go_end0;refine⟨rfl,i,((ez.oS h.drew).J (.oK j)).J (.oS o),?_,dP.step V o y⟩;exact W
end
def tX {k:Nat}(c:k<=15):jf k=true<->ed k≠2:=by
 constructor;.intro h q;rcases FW c q with rfl|rfl<;>simp[jf]at h
 .intro h;unfold jf;by_cases h1:k=13;.subst h1;exact absurd rfl h
  .by_cases h2:k=14;.subst h2;exact absurd rfl h
   .simp;omega
def Ba (S:eE)(t:au):S.base t<=16:=by
 unfold eE.base;split;.rename_i k c;have:=AN _ _ _ _ c;have e:lA.length=15:=Ti;omega
 .split<;>omega
def oz {S:eE}{mp:am}{d:MT}{f:fB}{g:GF}{k:Nat}(c:FG S mp d f g):my mp g k=true<->(k=ff S f\/(k=2/\f.isRep=true)):=by
 have o:=Ba S f.ty
 have l:ed (eG mp g)=ff S f:=by
  unfold eG ff eE.wire;rw[c.map,c.eq,c.base];by_cases h:g.form=4;.simp[h];rfl
  .simp[h]
 unfold my it;rw[l,c.rep];simp only[Bool.or_eq_true,bK,beq_iff_eq,decide_eq_true_eq];constructor
 .rintro(h|⟨n,i,p⟩);.exact .inl Te
  .exact .inr ⟨Te,i⟩
 .rintro(h|⟨n,i⟩);.exact .inl Te
  .by_cases q:ff S f=2;.exact .inl Te
   .refine .inr ⟨Te,i,?_⟩;have j:eG mp g=S.base f.ty:=by unfold eG;rw[dG Te,c.eq,c.base]
    rw[l.sy,j]at q;rw[j];have:S.base f.ty≠16:=λe=>q (by rw[e];rfl)
    exact(tX Te).2 q
def Bc (w:aw)(B:Nat)(S:eE)(mp:am)(k:Nat)(d:MT)(f:fB)(g:GF)(fb:Nat)(Z:ax)(rb db:Nat)(b:au)(e a z deep F kn:Nat)(num:Int)(m:PM)
  (I:oZ w B S mp k d Z rb db b e a z deep m) (i:eR w (λb=>b<B) mp g fb) (c:FG S mp d f g) (j:ei d.fs f.num=some f) (x:D9 S) (r:k+deep=8) (t:kM S d) (n:Nb S mp B b F) (v:e-z<=F) (p:my mp g kn=true):
  S9 133 #[ag fb,aa kn,ag rb,ag db] w (ij S k d w Z rb db (b.extract 0 e) deep (jH S b F d f m deep (fP (b.extract 0 e) a num kn z))):=by
 have o:=(oz c).1 p;have D:=Ba S f.ty;by_cases h4:g.form=4
 .have l:f.isMap=true:=by rw[c.map,h4];rfl
  obtain rfl:kn=2:=by
   rcases o with h|⟨h,_⟩;.rw[h];unfold ff;rw[dH l]
   .exact h
  exact Ke w B S mp k d f g fb Z rb db b e a z deep F num m I i c j x h4 r t n v
 .have l:f.isMap=false:=by rw[c.map];simp[h4]
  have s:ff S f=ed (S.base f.ty):=by unfold ff eE.wire;rw[l];rfl
  by_cases hb:S.base f.ty=16
  .obtain rfl:kn=2:=by
    rcases o with h|⟨h,_⟩;.rw[h,s,hb];rfl
    .exact h
   have:=c.nest.1 hb;have⟨sub,y⟩:=cX.1 this;have C:CY S d f sub:=⟨by unfold fS;rw[l];exact y,l⟩;exact J9 w B S mp k d f g fb Z rb db b e a z deep F num m sub I i c j x C r n v
  .have u:S.base f.ty<=15:=Te;by_cases h2:g.form=2
   .refine JZ w B S mp k d f g fb Z rb db b e a z deep F num kn m I i c h2 u j ?_;rcases o with h|⟨h,_⟩;.exact .inl (by rw[h,s])
    .by_cases q:ed (S.base f.ty)=2;.exact .inl Te
     .exact .inr ⟨Te,q⟩
   .have A:f.isRep=false:=by rw[c.rep];simp[h2]
    obtain rfl:kn=ed (S.base f.ty):=by
     rcases o with h|⟨_,h⟩;.rw[h,s]
     .rw[A]at h;cases h
    exact J8 w B S mp k d f g fb Z rb db b e a z deep F num m I i c h4 h2 u j
def Kf {s:au}{a:Nat}{x:(Int×Int)×Nat}(h:lr s a= .ok x):∃kn:Nat,x.1.2=kn/\(kn=0\/kn=1\/kn=2\/kn=5)/\a<x.2/\x.2<=s.size:=by
 unfold lr at h
 cases hv:j8 s a s.size with
 |error y=>rw[hv]at h;cases h
 |ok y=>
  rw[hv]at h;have⟨i,j,c,g⟩:=jr (m:=y.1) (z:=y.2) hv;simp only at h;split at h;.cases h
  .split at h
   .rename_i q;cases h;rcases q with q|q|q|q;.exact⟨0,q,.inl rfl,c,g⟩
    .exact⟨1,q,.inr (.inl rfl),c,g⟩
    .exact⟨2,q,.inr (.inr (.inl rfl)),c,g⟩
    .exact⟨5,q,.inr (.inr (.inr rfl)),c,g⟩
   .cases h
def tY {s:au}{a z:Nat}{num kind:Int}{r:pO}(h:fP s a num kind z= .ok r):r.num=num/\r.a=a:=by
 unfold fP at h;split at h;.cases hv:j8 s z s.size<;>rw[hv]at h<;>cases h;exact⟨rfl,rfl⟩
 .split at h;.cases hv:je s z 8<;>rw[hv]at h<;>cases h;exact⟨rfl,rfl⟩
  .split at h;.cases hv:je s z 4<;>rw[hv]at h<;>cases h;exact⟨rfl,rfl⟩
   .cases hv:eU s z<;>rw[hv]at h<;>cases h;exact⟨rfl,rfl⟩
section
variable {S:eE} {b:au} {F a e deep z kn:Nat} {d:MT} {m:PM} {num:Int} {f:fB}
def rX (he:e<=b.size)(ht:lr (b.extract 0 e) a= .ok ((num,(kn:Int)),z)):jj b a e=fP (b.extract 0 e) a num kn z:=by
 rw[<-FQ he,zL,ht]
def C7 (he:e<=b.size)(h:a<e)(ht:lr (b.extract 0 e) a= .ok ((num,(kn:Int)),z))(hk:kn=0\/kn=1\/kn=2\/kn=5)(hf:ei d.fs num=some f)(hfit:kn=ff S f\/(kn=2/\f.isRep=true)):
  fj S b (F+1) d m a e deep=match jH S b F d f m deep (fP (b.extract 0 e) a num kn z)with| .error x=> .error x| .ok y=>fj S b F d y.1 y.2 e deep:=by
 have c:=rX he ht
 cases hq:fP (b.extract 0 e) a num kn z with
 |error x=>
  rw[hq]at c;rw[qE h c]
  rfl
 |ok r=>
  rw[hq]at c;have g:=mK hk hq;have i:=tY hq;rw[Ho h c (by rw[i.1];exact hf) (by rw[g];exact hfit)];simp only[jH];cases yS S b F d f m r deep<;>rfl
def Gk (hS:D9 S)(hb:b.size<=268435456)(hd:kM S d)(he:e<=b.size)(hw:WM S a d m)(ht:lr (b.extract 0 e) a= .ok ((num,(kn:Int)),z))(hk:kn=0\/kn=1\/kn=2\/kn=5)(hf:ei d.fs num=some f)(hfit:kn=ff S f\/(kn=2/\f.isRep=true)){y:PM×Nat}
  (h:jH S b F d f m deep (fP (b.extract 0 e) a num kn z)= .ok y):WM S y.2 d y.1/\z<y.2/\y.2<=e:=by
 have c:=rX he ht
 cases hq:fP (b.extract 0 e) a num kn z with
 |error x=>rw[hq]at h;cases h
 |ok r=>
  rw[hq]at c h;have i:=mK hk hq;have n:=tY hq;have⟨o,_,j,_⟩:=qd hq;rw[gB he]at j;simp only[jH]at h
  cases hm:yS S b F d f m r deep with
  |error x=>rw[hm]at h;cases h
  |ok p=>
   rw[hm]at h;cases h;refine⟨?_,o,j⟩;have g:ei d.fs r.num=some f:=by rw[n.1];exact hf
   unfold yS at hm;split at hm;.rename_i q;exact FU hS.good hb hd hw c he g q hm
   .rename_i q;have k:=hfit.resolve_left (λe=>q (by rw[i];exact e))
    cases hp:ln S b f (m.get f.num) r.fr r.e with
    |error x=>rw[hp]at hm;cases hm
    |ok l=>
     rw[hp]at hm;cases hm;exact(FV hS.good hw c g q (by rw[i];exact k.1) hp).1
def tZ (he:e<=b.size)(h:a<e)(ht:lr (b.extract 0 e) a= .ok ((num,(kn:Int)),z))(hk:kn=0\/kn=1\/kn=2\/kn=5)(hf:∀f,ei d.fs num=some f->¬(kn=ff S f\/(kn=2/\f.isRep=true))):
  fj S b (F+1) d m a e deep=match pr (b.extract 0 e) z kn with| .error x=> .error x| .ok y=>fj S b F d (m.O (b.extract a y.2)) y.2 e deep:=by
 have c:=rX he ht;rw[zO (b.extract 0 e) a num kn z]
 cases hq:fP (b.extract 0 e) a num kn z with
 |error x=>
  rw[hq]at c
  rw[qE h c]
 |ok r=>
  rw[hq]at c;have i:=mK hk hq;have g:=tY hq;rw[xj h c (λf q=>by rw[g.1]at q;have:=hf f q;rw[i];exact⟨λe=>this (.inl e),λe=>this (.inr e)⟩),g.2]
def C9 (he:e<=b.size)(h:a<e){x:Int×Int}(c:lr (b.extract 0 e) a= .error x):fj S b (F+1) d m a e deep= .error x:=by
 refine qE h ?_;rw[<-FQ he,zL,c]
end
def Bd {s:au}{z kn:Nat}{y:Unit×Nat}(h:pr s z kn= .ok y):z<y.2/\y.2<=s.size:=by
 rw[zO s 0 0 kn z]at h
 cases hq:fP s 0 0 kn z with
 |error x=>rw[hq]at h;cases h
 |ok r=>
  rw[hq]at h;cases h;have⟨c,_,g,_⟩:=qd hq;exact⟨c,g⟩
section
open Tq
section
variable {w w':aw} {rb:Nat} {s:au} {deep:Int}
structure yX (S:eE)(k:Nat)(d:MT)(B:Nat)(w wr:aw)(Z Z':ax)(rb db:Nat)(b:au)(e deep F a:Nat)(m:PM)(P:Fx PM):Prop where
 st:ez w Z rb wr Z'
 rr:d6 wr rb (b.extract 0 e) a deep
 dr:el S (k+1) (some d) wr Z' db m
 hi:a<=e
 wm:WM S a d m
 fu:e-a<F
 eq:Hid (P=fj S b F d m a e deep)
 zz:∀x,Z' x->B<=x/\x<wr.heap.size
def OA (S:eE)(b:au)(F:Nat)(d:MT)(e deep:Nat):Fx (PM×Nat)->Fx PM
 | .error x=> .error x
 | .ok y=>fj S b F d y.1 y.2 e deep
def Kg (S:eE)(b:au)(F:Nat)(d:MT)(m:PM)(a e deep:Nat):Fx (Unit×Nat)->Fx PM
 | .error x=> .error x
 | .ok y=>fj S b F d (m.O (b.extract a y.2)) y.2 e deep
theorem Jl.part {r:Fx (Unit×Nat)}{e:Ending}(h:Jl w rb s deep r e w'):
  (∃x,r= .error x/\e=dX x.1 x.2/\dY [rb] w w')\/∃x,r= .ok x/\e= .returned (.tuple #[])/\dY [rb] w w'/\d6 w' rb s x.2 deep:=by
 obtain⟨b,a⟩:=h
 cases r with
 |error x=>exact .inl ⟨x,rfl,a,b⟩
 |ok x=>exact .inr ⟨x,rfl,a.1,b,a.2⟩
theorem ij.part2 {S:eE}{k:Nat}{d:MT}{Z:ax}{db:Nat}{deep:Nat}{R:Fx (PM×Nat)}{en:Ending}(h:ij S k d w Z rb db s deep R en w'):
  (∃x,R= .error x/\en=dX x.1 x.2/\∃Z',ez w Z rb w' Z')\/∃x,R= .ok x/\en= .returned (.tuple #[])/\∃Z',ez w Z rb w' Z'/\el S (k+1) (some d) w' Z' db x.1/\d6 w' rb s x.2 deep:=by
 cases R with
 |error x=>exact .inl ⟨x,rfl,h.1,h.2⟩
 |ok x=>exact .inr ⟨x,rfl,h.1,h.2⟩
theorem yY (S:eE)(mp:am)(B:Nat)(b:au)(hS:D9 S)(L:b.size<=268435456):∀F,Nb S mp B b F:=by
 intro F
 induction F using Nat.strongRecOn with
 |_ F ih=>
 intro w Z d m a e deep k mb gs nm rb p cx hM K Ua hr hd hZ TK Uo Up t hF Uq Ur;have TE:(b.extract 0 e).size=e:=gB t;have TQ:=cx.le;have Uf:rb<w.heap.size:=dP.lt hr;obtain⟨P,hP⟩:=Td (fj S b F d m a e deep);rw[hP];have O0:yX S k d B w w Z Z rb p b e deep F a m P:=⟨ez.refl _ _ _,hr,hd,Up,Ur,hF,hP.sy,hZ⟩;clear hP;go_enter func83,ntmps83;go_wp2;go_loopw [9] (λ_ wr=>∃j c n C,C<=F/\yX S k d B w wr Z j rb p b e deep C c n P) (λ_ wr=>nT wr rb e)
 case atStart=>exact⟨Z,a,m,F,aD _,O0⟩
 case round=>
  obtain⟨j,c,n,C,hFF,O⟩:=hrel;have TR:=tN wr rb _ c deep O.rr;rw[TE]at TR;have hhi:=O.hi;have hfu:=O.fu;go_wp2_with fail;refine TR.V ?_;rintro s w4 ⟨rfl,q,rfl⟩;by_cases hlt:c<e
  .have Ug:decide (c<e)=true:=decide_eq_true hlt;obtain⟨o,rfl⟩:∃o,C=o+1:=⟨C-1,Te⟩;have TS:d6 (wr.drewN q) rb (b.extract 0 e) c deep:=O.rr;have Uh:el S (k+1) (some d) (wr.drewN q) j p n:=O.dr.O (λ_ _ _=>rfl);have TT:ez w Z rb (wr.drewN q) j:=O.st.J (.oB (gN (Below.refl _ _) q));have Ui:=QN (wr.drewN q) rb _ c deep TS;have TU:=Ox (wr.drewN q) rb _ c deep TS Te;have TV:∀x,j x->B<=x/\x<(wr.drewN q).heap.size:=O.zz;have Tw:¬j rb:=O.st.not Uf Uo;have HM:Hid (nT wr rb e=e-c):=iJ O.rr;have TF:∀x,Z x->B<=x:=λx q=>(hZ x q).1
   obtain⟨T,hT⟩:=Td (lr (b.extract 0 e) c);rw[hT]at TU;have E:Hid (lr (b.extract 0 e) c=T):=hT;clear hT;generalize wr.drewN q=w4 at*;go_wp2_with fail;refine Ui.V ?_;rintro s w5 ⟨rfl,rfl⟩;go_wp2_with fail;refine TU.V ?_;intro s w6 Us;rcases Us.part with⟨x,rfl,rfl,H⟩|⟨x,rfl,rfl,H,TL⟩;.have HB:Hid (P= .error x):=(by show P=_;rw[O.eq.o,C9 t hlt E.o]);unfold dX;go_wp2;rw[HB.o];exact⟨rfl,rfl,j,TT.J (.oK H)⟩
   obtain⟨⟨num,kind⟩,z⟩:=x;have⟨l,Ub,TM,Uc,TN⟩:=Kf E.o;simp only at Ub Uc TN TL;subst Ub;rw[TE]at TN;have⟨B7,KT⟩:=eY w6 #[aa num,aa l] 237;have TW:d6 (w6.alloc (ak #[aa num,aa l] 237)) rb (b.extract 0 e) z deep:=dP.alloc TL _;have TX:=(TT.J (.oK H)).J (.oB B7);have Uj:=(ez.dr Uh H Tw).O (λx _ q=>B7.block x q);have Uk:Below B w (w6.alloc (ak #[aa num,aa l] 237)):=TX.G TQ TF TK;have Ul:=Hj (w6.alloc (ak #[aa num,aa l] 237)) (λb=>b<B) mp mb nm gs num l (hM.O (λx q _=>Uk.block x q)) K.srt K.len;have TY:∀x,j x->B<=x/\x<(w6.alloc (ak #[aa num,aa l] 237)).heap.size:=λx q=>⟨(TV x q).1,aI (aI (TV x q).2 H.size) B7.size⟩
   have⟨N,Q⟩:=KT.I;have hrw:rb<w6.heap.size:=dP.lt TL;go_wp2_with fail;generalize w6.alloc (ak #[aa num,aa l] 237)=w7 at*;generalize w6.heap.size=tb at*;refine Ul.V ?_;rintro s v ⟨Tx,A⟩;have TZ:d6 v rb (b.extract 0 e) z deep:=dP.G TW A (dP.lt TW);have G:=TX.J (.oB A);have T0:=Uj.O (λx _ q=>A.block x q);have T4:Below B w v:=G.G TQ TF TK;have T5:=KT.G A KT.lt;have T6:∀x,j x->B<=x/\x<v.heap.size:=λx q=>⟨(TY x q).1,aI (TY x q).2 A.size⟩
   have hul:=O.wm.len;clear N Q
   cases hfit:CH mp gs num l with
   |some g=>
    rw[hfit]at Tx;obtain⟨fb,rfl,Ut⟩:=Tx
    obtain⟨f,Ty,fg,Ud⟩:∃f,ei d.fs num=some f/\FG S mp d f g/\my mp g l=true:=by
     unfold CH at hfit
     cases hfg:iI gs num with
     |none=>rw[hfg]at hfit;cases hfit
     |some g'=>
      rw[hfg]at hfit;simp only at hfit;split at hfit
      .cases hfit
       cases hf:ei d.fs num with
       |none=>rw[K.no num hf]at hfg;cases hfg
       |some f=>
        have⟨g2,q1,q2⟩:=K.yes num f hf;rw[hfg]at q1;cases q1;exact⟨f,rfl,q2,To⟩
      .cases hfit
    have TG:f.num=num:=(gZ Ty).1;have I:oZ v B S mp k d j rb p b e c z deep n:=⟨cx.on T4,TZ,T0,T6,TK,Tw,Uc,TN,t,L,O.wm⟩;have T7:=Bc v B S mp k d f g fb j rb p b e c z deep o l num n I Ut fg (by rw[TG];exact Ty) hS Uq Ua (ih o Te) Te Ud;have M:=(oz fg).1 Ud;obtain⟨R,r⟩:=Td (jH S b o d f n deep (fP (b.extract 0 e) c num l z));have D:Hid (P=OA S b o d e deep R):=(by have h:=C7 (S:=S) (F:=o) (deep:=deep) (d:=d) (m:=n) t hlt E.o TM Ty M;rw[r]at h;show P=_;rw[O.eq.o,h];cases R<;>rfl);have HW:Hid (∀y,R= .ok y->WM S y.2 d y.1/\z<y.2/\y.2<=e):=λy hy=>Gk hS L Ua t O.wm E.o TM Ty M (r.J hy)
    rw[r]at T7;clear r hfit;have⟨N,Q⟩:=T5.I;go_wp2_with fail;refine T7.V ?_;intro s u TO;rcases TO.part2 with⟨x,rfl,rfl,Z9,Tz⟩|⟨y,rfl,rfl,Z9,Tz,TH,J⟩;.unfold dX;go_wp2;rw[D.o];exact⟨rfl,rfl,Z9,G.J Tz⟩
    have⟨Uu,Uv,V⟩:=HW.o y rfl
    have O9:yX S k d B w u Z (λi=>Z9 i/\i<u.heap.size) rb p b e deep o y.2 y.1 P:=
     ⟨(G.J Tz).clip,J,TH.clip,V,Uu,Te,D,λx q=>⟨(Tz.grow x q.1).elim (λe=>(T6 x e).1) (λe=>by have:=T4.size;omega),q.2⟩⟩
    clear N Q;go_wp2;go_roundw
    case rel=>exact⟨_,_,_,_,Te,O9⟩
    case measure=>rw[HM.o,iJ J];omega
   |none=>
    rw[hfit]at Tx;obtain rfl:s= .returned (.pointer none):=Tx
    have Um:∀f,ei d.fs num=some f->¬(l=ff S f\/(l=2/\f.isRep=true)):=λf hf hq=>by
     have⟨g,q1,q2⟩:=K.yes num f hf;unfold CH at hfit;rw[q1]at hfit;simp only at hfit;rw[(oz q2).2 hq,dH rfl]at hfit;cases hfit
    have T8:=Em v rb _ z deep l TZ Te Te Te;obtain⟨R,r⟩:=Td (pr (b.extract 0 e) z l);have D:Hid (P=Kg S b o d n c e deep R):=(by have h:=tZ (S:=S) (F:=o) (deep:=deep) (d:=d) (m:=n) t hlt E.o TM Um;rw[r]at h;show P=_;rw[O.eq.o,h];cases R<;>rfl)
    have HW:Hid (∀y,R= .ok y->z<y.2/\y.2<=e):=λy hy=>by
     have:=Bd (r.J hy);rw[TE]at this;exact this
    rw[r]at T8;clear r hfit;have⟨N,Q⟩:=T5.I;go_wp2_with fail;refine T8.V ?_;intro s u TO;rcases TO.part with⟨x,rfl,rfl,W⟩|⟨y,rfl,rfl,W,J⟩;.unfold dX;go_wp2;rw[D.o];exact⟨rfl,rfl,j,G.J (.oK W)⟩
    have⟨Uv,V⟩:=HW.o y rfl;have T9:=vL u rb _ y.2 deep c J Te Te;have TH:=ez.dr T0 W Tw;have hex:(b.extract 0 e).extract c y.2=b.extract c y.2:=kz t V;rw[hex]at T9;clear N Q;go_wp2_with fail;refine T9.V ?_;rintro s w10 ⟨rfl,X,rfl⟩;have TI:el S (k+1) (some d) (u.drewN X) j p n:=TH.O (λ_ _ _=>rfl);have Un:=AV S k (some d) (u.drewN X) j p n (b.extract c y.2) TI (by rw[aU];omega);go_wp2_with fail;refine Un.V ?_;rintro s Y ⟨rfl,Ue,Tv,TP⟩;have TJ:d6 (u.drewN X) rb (b.extract 0 e) y.2 deep:=J;have Ts:d6 Y rb (b.extract 0 e) y.2 deep:=dP.step TJ Tv Tw;have U:ez w Z rb Y Ue:=((G.J (.oK W)).J (.oB (gN (Below.refl _ _) X))).J (.oS Tv)
    have O9:yX S k d B w Y Z (λi=>Ue i/\i<Y.heap.size) rb p b e deep o y.2 (n.O (b.extract c y.2)) P:=
     ⟨U.clip,Ts,TP.clip,V,O.wm.O _ (by rw[aU];omega),Te,D,λx q=>⟨(U.grow x q.1).elim (TF x) (λe=>Te),q.2⟩⟩
    go_wp2;go_roundw
    case rel=>exact⟨_,_,_,_,Te,O9⟩
    case measure=>rw[HM.o,iJ Ts];omega
  .have Ug:decide (c<e)=false:=decide_eq_false hlt;obtain rfl:c=e:=Te;have HE:Hid (P= .ok n):=(by show P=_;rw[O.eq.o,tS hlt]);go_wp2;go_end0;rw[HE.o];exact⟨rfl,j,O.st.J (.oB (gN (Below.refl _ _) q)),O.dr.O (λ_ _ _=>rfl),O.rr⟩
end
def Bg {w w1 w2:aw}{rb vb:Nat}{s:au}{z:Nat}{deep:Int}(x:LV)(f:dY [rb] w w1)(c:dP w1 vb #[.int .u64 0,S8,ah,S8] 55)(k:w.heap.size<=vb)(j:rb<w.heap.size)(b:dY [rb] w1 w2)(g:d6 w2 rb s z deep):
  dP (((((w2.setCell (ai vb 0) (.int .u64 x.1)).setCell (ai vb 1) (ae x.2)).setCell (ai vb 2) (ah)).setCell (ai vb 3) (S8))) vb #[.int .u64 x.1,ae x.2,ah,S8] 55/\
  dY [rb] w (((((w2.setCell (ai vb 0) (.int .u64 x.1)).setCell (ai vb 1) (ae x.2)).setCell (ai vb 2) (ah)).setCell (ai vb 3) (S8)))/\
  d6 (((((w2.setCell (ai vb 0) (.int .u64 x.1)).setCell (ai vb 1) (ae x.2)).setCell (ai vb 2) (ah)).setCell (ai vb 3) (S8))) rb s z deep:=by
 have h:dP w2 vb #[.int .u64 0,S8,ah,S8] 55:=(b.block _ c.lt Tg).J c;refine⟨(((h.set 0 _).set 1 _).set 2 _).set 3 _,?_,(((dP.other g 0 _ Te).other 1 _ Te).other 2 _ Te).other 3 _ Te⟩;have a:=f.J b
 exact⟨a.os,a.tape,a.output,by simpa using a.size,λi d e=>by
  rw[dM,dG Te,dM,dG Te,dM,dG Te,dM,dG Te]
  exact a.block i d e⟩
def Kz {w:aw}{Q:ax}{k:Nat}{v:Value}(d:mM w Q k v)(rb:Nat)(s:au)(a:Nat)(deep:Int)(h:d6 w rb s a deep)(P:a<=s.size)(B:s.size<=2^47)(N:¬Q rb)(C:UOK w)(p:rb≠2)(q:rb≠3):
  lI v [ag rb] w (py w rb s deep (gr s a k) vR):=by
 have j:dY [rb] w (w.alloc (ak #[.int .u64 0,S8,ah,S8] 55)):=(dY.refl _ _).alloc _;have A:d6 (w.alloc (ak #[.int .u64 0,S8,ah,S8] 55)) rb s a deep:=dP.alloc h _;have g:=dP.new w #[.int .u64 0,S8,ah,S8] 55;have J:UOK (w.alloc (ak #[.int .u64 0,S8,ah,S8] 55)):=C.O (j.block _ C.lt1 (by simp;exact λe=>p e.sy)) (j.block _ C.lt2 (by simp;exact λe=>q e.sy));have z:rb<w.heap.size:=dP.lt h;obtain⟨r,l⟩:∃r,Hid (gr s a k=r):=⟨_,rfl⟩;rw[l.o];rcases d with⟨rfl,rfl⟩|⟨rfl,rfl⟩|⟨n,nb,R,rfl,K,T,L⟩
 .refine⟨435,[],rfl,enters_of func435 Tj rfl,?_⟩;have i:Hid (gr s a 13=(match rx s a with| .error x=> .error x| .ok x=> .ok ((0,x.1),x.2))):=rfl;show S9 435 #[ag rb] w _;go_enter func435,ntmps435;go_wp2_with fail;generalize(w.alloc (ak #[.int .u64 0,S8,ah,S8] 55))=w1 at*;refine(Jk w1 rb s a deep A B J p q).V ?_
  cases d:rx s a with
  |error x=>
   rintro e w2 ⟨c,m⟩;obtain rfl:e=dX x.1 x.2:=m;obtain rfl:r= .error x:=by rw[<-l.o,i.o,d]
   unfold dX;go_wp2
   exact⟨rfl,j.J c,rfl⟩
  |ok x=>
   rintro e w2 ⟨c,rfl,o⟩;obtain rfl:r= .ok (((0,x.1):LV),x.2):=by rw[<-l.o,i.o,d]
   obtain⟨t,u,y⟩:=Bg ((0,x.1):LV) j g (aD _) z c o;obtain⟨G,H⟩:=(show dP w2 w.heap.size _ _ from(c.block _ g.lt Tg).J g).I;go_wp2;exact dJ (dW results435 _ _ rfl t underlying55 Tj) rfl ⟨u,rfl,y⟩
 .refine⟨436,[],rfl,enters_of func436 Tj rfl,?_⟩;have i:Hid (gr s a 14=(match nO s a with| .error x=> .error x| .ok x=> .ok ((0,x.1),x.2))):=rfl;show S9 436 #[ag rb] w _;go_enter func436,ntmps436;go_wp2_with fail;generalize(w.alloc (ak #[.int .u64 0,S8,ah,S8] 55))=w1 at*;refine(FN w1 rb s a deep A B).V ?_
  cases d:nO s a with
  |error x=>
   rintro e w2 ⟨c,m⟩;obtain rfl:e=dX x.1 x.2:=m;obtain rfl:r= .error x:=by rw[<-l.o,i.o,d]
   unfold dX;go_wp2
   exact⟨rfl,j.J c,rfl⟩
  |ok x=>
   rintro e w2 ⟨c,rfl,o⟩;obtain rfl:r= .ok (((0,x.1):LV),x.2):=by rw[<-l.o,i.o,d]
   obtain⟨t,u,y⟩:=Bg ((0,x.1):LV) j g (aD _) z c o;obtain⟨G,H⟩:=(show dP w2 w.heap.size _ _ from(c.block _ g.lt Tg).J g).I;go_wp2;exact dJ (dW results436 _ _ rfl t underlying55 Tj) rfl ⟨u,rfl,y⟩
 .have D:k≠13/\k≠14:=by
   constructor;.intro e;rw[e]at n;exact absurd n Th
   .intro e;rw[e]at n;exact absurd n Th
  have i:Hid (gr s a k=(match iN s a k with| .error x=> .error x| .ok x=> .ok ((x.1,⟨#[]⟩),x.2))):=(by show gr s a k=_;unfold gr;rw[dG D.1,dG D.2];all_goals (cases iN s a k<;>rfl));refine⟨438,[ag nb],rfl,enters_of func438 Tj rfl,?_⟩;have I:mL (w.alloc (ak #[.int .u64 0,S8,ah,S8] 55)) Q k R:=L.O λb _ O=>Below.l _ _ b O
  obtain⟨f,M,rfl,S,E⟩:=Q1 I rb s a deep A P B N n;have F:=(K.alloc (ak #[.int .u64 0,S8,ah,S8] 55)).cell 0;simp only[List.getElem?_toArray,cO]at F;show S9 438 #[ag rb,ag nb] w _;go_enter func438,ntmps438;go_wp2_with fail;clear F;generalize(w.alloc (ak #[.int .u64 0,S8,ah,S8] 55))=w1 at*;refine E.V ?_;clear E
  cases d:iN s a k with
  |error x=>
   rintro e w2 ⟨c,m⟩;obtain rfl:e=dX x.1 x.2:=m;obtain rfl:r= .error x:=by rw[<-l.o,i.o,d]
   unfold dX;go_wp2
   exact⟨rfl,j.J c,rfl⟩
  |ok x=>
   rintro e w2 ⟨c,rfl,o⟩;obtain rfl:r= .ok (((x.1,⟨#[]⟩):LV),x.2):=by rw[<-l.o,i.o,d]
   obtain⟨t,u,y⟩:=Bg ((x.1,⟨#[]⟩):LV) j g (aD _) z c o;obtain⟨G,H⟩:=(show dP w2 w.heap.size _ _ from(c.block _ g.lt Tg).J g).I;go_wp2;exact dJ (dW results438 _ _ rfl t underlying55 Tj) rfl ⟨u,rfl,y⟩
end
def lw (form:Int):Nat:=if form=0 then 193 else if form=2 then 268 else 195
def jh (form:Int):Nat:=if form=2 then 190 else 191
def Bh (v:Value):Prop:=∃f cap,v= .func (.func f) #[] cap
def Po (w:World)(Q:Nat->Prop)(mp:ByteArray->Option Nat)(g:GF)(v:Value):Prop:=
 ∃pb nb vb vv,v= .func (.func 422) #[] #[.pointer (some ⟨pb,0,none⟩),.pointer (some ⟨nb,0,none⟩),.pointer (some ⟨vb,0,none⟩)]/\dP w pb #[BY (lw g.form)] 480/\dP w nb #[.int .i64 g.f.num] 3/\dP w vb #[vv] 478/\mM w Q (jd mp g.f.ty) vv/\Q pb/\Q nb/\Q vb
def Nt (w:World)(Q:Nat->Prop)(mp:ByteArray->Option Nat)(g:GF)(v:Value):Prop:=
 ∃ab nb vb vv,v= .func (.func 421) #[] #[.pointer (some ⟨ab,0,none⟩),.pointer (some ⟨nb,0,none⟩),.pointer (some ⟨vb,0,none⟩)]/\dP w ab #[.int .i64 (ed (jd mp g.f.ty))] 235/\dP w nb #[.int .i64 g.f.num] 3/\dP w vb #[vv] 478/\mM w Q (jd mp g.f.ty) vv/\Q ab/\Q nb/\Q vb
def Pp (w:World)(Q:Nat->Prop)(mp pm:ByteArray->Option Nat)(g:GF)(v:Value):Prop:=
 ∃ib lb pb nb p,v= .func (.func 419) #[] #[.pointer (some ⟨ib,0,none⟩),.pointer (some ⟨lb,0,none⟩),.pointer (some ⟨pb,0,none⟩),.pointer (some ⟨nb,0,none⟩)]/\dP w ib #[.pointer (some ⟨p,0,none⟩)] 116/\dP w lb #[.int .i64 (kA mp g)] 3/\dP w pb #[BY (jh g.form)] 477/\dP w nb #[.int .i64 g.f.num] 3/\pm g.f.ty=some p/\Q ib/\Q lb/\Q pb/\Q nb
def OD (w:World)(Q:Nat->Prop)(mp:ByteArray->Option Nat)(A:Nat->Prop)(g:GF)(v:Value):Prop:=
 ∃ib lb nb sb p,v= .func (.func 418) #[] #[.pointer (some ⟨ib,0,none⟩),.pointer (some ⟨lb,0,none⟩),.pointer (some ⟨nb,0,none⟩),.pointer (some ⟨sb,0,none⟩)]/\dP w ib #[.pointer (some ⟨p,0,none⟩)] 116/\dP w lb #[.int .i64 (kA mp g)] 3/\dP w nb #[.int .i64 g.f.num] 3/\dP w sb #[.bool (tP (jd mp g.f.key))] 4/\A p/\Q ib/\Q lb/\Q nb/\Q sb
def BZ (w:World)(Q:Nat->Prop)(mp pm:ByteArray->Option Nat)(g:GF)(v:Value):Prop:=
 if jd mp g.f.ty=16 then Pp w Q mp pm g v else if it mp g=true then Nt w Q mp g v else Po w Q mp g v
def wd (w:World)(Q:Nat->Prop)(R:GF->Value->Prop)(g:GF)(v:Value):Prop:=
 if g.riv= []then R g v else∃vb rb rv u,v= .func (.func 296) #[] #[.pointer (some ⟨vb,0,none⟩),.pointer (some ⟨rb,0,none⟩)]/\dP w vb #[rv] 35/\d5 w Q 3 1 rv g.riv.length (gA g.riv)/\dP w rb #[u] 266/\Q vb/\Q rb/\R g u
structure rD (w:World)(Q:Nat->Prop)(mp:ByteArray->Option Nat)(R:GF->Value->Prop)(g:GF)(x:tG):Prop where
 n:x.n=g.f.num
 kind:x.c1= .int .i64 (ed (eG mp g))
 packs:x.c2= .bool (it mp g)
 riv:d5 w Q 3 1 x.c3 g.riv.length (gA g.riv)
 check:Bh x.c4
 measure:Bh x.c5
 write:Bh x.c6
 read:wd w Q R g x.c7
def ix (w:World)(Q:Nat->Prop)(mp:ByteArray->Option Nat)(R:GF->Value->Prop):List GF->List tG->Prop
 | [],l=>l= []
 |g::gs,l=>∃x r,l=x::r/\rD w Q mp R g x/\ix w Q mp R gs r
def rE (w:World)(Q:Nat->Prop)(mp:ByteArray->Option Nat)(R:GF->Value->Prop)(gs:List GF)(pb:Nat):Prop:=
 ∃v l,dP w pb #[v] 254/\Q pb/\d5 w Q 268 8 v l.length (l.flatMap iT)/\ix w Q mp R gs l
def mg (w:World)(Q:Nat->Prop)(mp pm:ByteArray->Option Nat)(g:GF)(v:Value):Prop:=
 if g.form=4 then OD w Q mp (rE w Q mp (BZ w Q mp pm) [lF oe g.f.key 1,lF qZ g.f.ty 2]) g v else BZ w Q mp pm g v
def mN (w:World)(Q:Nat->Prop)(mp pm:ByteArray->Option Nat)(gs:List GF)(pb:Nat):Prop:=rE w Q mp (mg w Q mp pm) gs pb
def Mv (w:World)(Q:Nat->Prop)(w':World)(Q':Nat->Prop):Prop:=∀b,Q b->b<w.heap.size->Q' b/\w'.heap[b]?=w.heap[b]?
def Mv.O {w w':World}{Q:Nat->Prop}(hk:∀b,Q b->b<w.heap.size->w'.heap[b]?=w.heap[b]?):Mv w Q w' Q:=λb q l=>⟨q,hk b q l⟩
def Mv.V {w:World}{Q Q':Nat->Prop}(hk:∀b,Q b->b<w.heap.size->Q' b):Mv w Q w Q':=λb q l=>⟨hk b q l,rfl⟩
section
variable {w w':World} {Q Q':Nat->Prop} {mp pm pm':ByteArray->Option Nat} {R R':GF->Value->Prop} {g:GF} {v:Value}
def d5.mV (hk:Mv w Q w' Q'){T:TypeId}{k n:Nat}{v:Value}{xs:List Value}(h:d5 w Q T k v n xs):d5 w' Q' T k v n xs:=
 ⟨dR h.1 λb hb=>(hk b (h.2 b hb) (h.1.lt b hb).2).2,λb hb=>(hk b (h.2 b hb) (h.1.lt b hb).2).1⟩
def Mv.bx (hk:Mv w Q w' Q'){b:Nat}{cs:Array Value}{T:TypeId}(h:dP w b cs T)(q:Q b):dP w' b cs T:=(hk b q h.lt).2.J h
def mL.mV (hk:Mv w Q w' Q'){k:Nat}(h:mL w Q k v):mL w' Q' k v:=by
 rcases h with h|⟨t,nb,bb,h1,h2,h3,h4,h5,h6⟩;.exact .inl h
 .exact .inr ⟨t,nb,bb,h1,h2,hk.bx h3 h5,hk.bx h4 h6,(hk _ h5 h3.lt).1,(hk _ h6 h4.lt).1⟩
def mM.mV (hk:Mv w Q w' Q'){k:Nat}(h:mM w Q k v):mM w' Q' k v:=by
 rcases h with h|h|⟨h0,nb,nv,h1,h2,h3,h4⟩;.exact .inl h
 .exact .inr (.inl h)
 .exact .inr (.inr ⟨h0,nb,nv,h1,hk.bx h2 h3,(hk _ h3 h2.lt).1,h4.mV hk⟩)
def Po.mV (hk:Mv w Q w' Q')(h:Po w Q mp g v):Po w' Q' mp g v:=by
 obtain⟨pb,nb,vb,vv,h1,h2,h3,h4,h5,q1,q2,q3⟩:=h;exact⟨pb,nb,vb,vv,h1,hk.bx h2 q1,hk.bx h3 q2,hk.bx h4 q3,h5.mV hk,(hk _ q1 h2.lt).1,(hk _ q2 h3.lt).1,(hk _ q3 h4.lt).1⟩
def Nt.mV (hk:Mv w Q w' Q')(h:Nt w Q mp g v):Nt w' Q' mp g v:=by
 obtain⟨pb,nb,vb,vv,h1,h2,h3,h4,h5,q1,q2,q3⟩:=h;exact⟨pb,nb,vb,vv,h1,hk.bx h2 q1,hk.bx h3 q2,hk.bx h4 q3,h5.mV hk,(hk _ q1 h2.lt).1,(hk _ q2 h3.lt).1,(hk _ q3 h4.lt).1⟩
def Pp.mV (hk:Mv w Q w' Q')(hp:∀t p,pm t=some p->pm' t=some p)(h:Pp w Q mp pm g v):Pp w' Q' mp pm' g v:=by
 obtain⟨ib,lb,pb,nb,p,h1,h2,h3,h4,h5,h6,q1,q2,q3,q4⟩:=h;exact⟨ib,lb,pb,nb,p,h1,hk.bx h2 q1,hk.bx h3 q2,hk.bx h4 q3,hk.bx h5 q4,hp _ _ h6,(hk _ q1 h2.lt).1,(hk _ q2 h3.lt).1,(hk _ q3 h4.lt).1,(hk _ q4 h5.lt).1⟩
def OD.mV {A A':Nat->Prop}(hk:Mv w Q w' Q')(ha:∀p,A p->A' p)(h:OD w Q mp A g v):OD w' Q' mp A' g v:=by
 obtain⟨ib,lb,pb,nb,p,h1,h2,h3,h4,h5,h6,q1,q2,q3,q4⟩:=h;exact⟨ib,lb,pb,nb,p,h1,hk.bx h2 q1,hk.bx h3 q2,hk.bx h4 q3,hk.bx h5 q4,ha _ h6,(hk _ q1 h2.lt).1,(hk _ q2 h3.lt).1,(hk _ q3 h4.lt).1,(hk _ q4 h5.lt).1⟩
def BZ.mV (hk:Mv w Q w' Q')(hp:∀t p,pm t=some p->pm' t=some p)(h:BZ w Q mp pm g v):BZ w' Q' mp pm' g v:=by
 unfold BZ at*;split at h;.rename_i h0;rw[dH h0];exact Pp.mV hk hp h
 .rename_i h0;rw[dG h0];split at h;.rename_i h1;rw[dH h1];exact Nt.mV hk h
  .rename_i h1;rw[dG h1];exact Po.mV hk h
def wd.mV (hk:Mv w Q w' Q')(hR:∀v,R g v->R' g v)(h:wd w Q R g v):wd w' Q' R' g v:=by
 unfold wd at*;split at h;.rename_i h0;rw[dH h0];exact hR v h
 .rename_i h0;rw[dG h0];obtain⟨vb,rb,rv,u,h1,h2,h3,h4,q1,q2,h5⟩:=h;exact⟨vb,rb,rv,u,h1,hk.bx h2 q1,h3.mV hk,hk.bx h4 q2,(hk _ q1 h2.lt).1,(hk _ q2 h4.lt).1,hR u h5⟩
def rD.mV (hk:Mv w Q w' Q')(hR:∀v,R g v->R' g v){x:tG}(h:rD w Q mp R g x):rD w' Q' mp R' g x:=
 ⟨h.n,h.kind,h.packs,h.riv.mV hk,h.check,h.measure,h.write,h.read.mV hk hR⟩
def ix.mV (hk:Mv w Q w' Q'):∀{gs:List GF} {l:List tG},(∀g∈gs,∀v,R g v->R' g v)->ix w Q mp R gs l->ix w' Q' mp R' gs l
 | [],_,_,h=>h
 |g::_,_,hR,⟨x,r,h1,h2,h3⟩=>⟨x,r,h1,h2.mV hk (hR g Tf),ix.mV hk (λg hg=>hR g (by simp[hg])) h3⟩
def rE.mV (hk:Mv w Q w' Q'){gs:List GF}{pb:Nat}(hR:∀g∈gs,∀v,R g v->R' g v)(h:rE w Q mp R gs pb):rE w' Q' mp R' gs pb:=by
 obtain⟨v,l,h1,h2,h3,h4⟩:=h;exact⟨v,l,hk.bx h1 h2,(hk _ h2 h1.lt).1,h3.mV hk,h4.mV hk hR⟩
def mg.mV (hk:Mv w Q w' Q')(hp:∀t p,pm t=some p->pm' t=some p)(h:mg w Q mp pm g v):mg w' Q' mp pm' g v:=by
 unfold mg at*;split at h;.rename_i h0;rw[dH h0];exact OD.mV hk (λp hq=>hq.mV hk λg _ v h=>h.mV hk hp) h
 .rename_i h0;rw[dG h0];exact BZ.mV hk hp h
def mN.mV (hk:Mv w Q w' Q')(hp:∀t p,pm t=some p->pm' t=some p){gs:List GF}{pb:Nat}(h:mN w Q mp pm gs pb):mN w' Q' mp pm' gs pb:=rE.mV hk (λ_ _ _ h=>mg.mV hk hp h) h
def mN.O (hk:∀b,Q b->b<w.heap.size->w'.heap[b]?=w.heap[b]?)(hp:∀t p,pm t=some p->pm' t=some p){gs:List GF}{pb:Nat}(h:mN w Q mp pm gs pb):mN w' Q mp pm' gs pb:=h.mV (.O hk) hp
def mg.O (hk:∀b,Q b->b<w.heap.size->w'.heap[b]?=w.heap[b]?)(hp:∀t p,pm t=some p->pm' t=some p)(h:mg w Q mp pm g v):mg w' Q mp pm' g v:=h.mV (.O hk) hp
def wd.O (hk:∀b,Q b->b<w.heap.size->w'.heap[b]?=w.heap[b]?)(hR:∀v,R g v->R' g v)(h:wd w Q R g v):wd w' Q R' g v:=h.mV (.O hk) hR
def ix.len:∀{gs:List GF} {l:List tG},ix w Q mp R gs l->l.length=gs.length
 | [],_,h=>by rw[show _= []from h];rfl
 |_::_,_,⟨b,r,h1,_,h3⟩=>by rw[h1];simp[h3.len]
def ix.snoc {g:GF}{x:tG}(h2:rD w Q mp R g x):∀{gs:List GF} {l:List tG},ix w Q mp R gs l->ix w Q mp R (gs++ [g]) (l++ [x])
 | [],_,h=>by rw[show _= []from h];exact⟨x,[],rfl,h2,rfl⟩
 |_::_,_,⟨c,r,h1,h3,h4⟩=>by rw[h1];exact⟨c,r++ [x],rfl,h3,ix.snoc h2 h4⟩
def ix.get:∀{gs:List GF} {l:List tG},ix w Q mp R gs l->∀{i:Nat} {x:tG},l[i]?=some x->∃g,gs[i]?=some g/\rD w Q mp R g x
 | [],_,h,i,x,hx=>by rw[show _= []from h]at hx;simp at hx
 |g::_,_,⟨b,r,h1,h3,h4⟩,0,x,h=>by
  subst h1;simp at h;subst h
  exact⟨g,rfl,h3⟩
 |_::_,_,⟨b,r,h1,h3,h4⟩,i+1,x,h=>by
  subst h1;have⟨c,q1,q2⟩:=h4.get (i:=i) (x:=x) (by simpa using h);exact⟨c,by simpa using q1,q2⟩
def ix.nums:∀{gs:List GF} {l:List tG},ix w Q mp R gs l->l.map (·.n)=gs.map (·.f.num)
 | [],_,h=>by rw[show _= []from h];rfl
 |_::_,_,⟨b,r,h1,h2,h3⟩=>by rw[h1];simp[h3.nums,h2.n]
end
def Bi (w:World)(Q:Nat->Prop)(S:eE)(mp pm:ByteArray->Option Nat):Prop:=∀t p,pm t=some p->∃d gs,S.msg t=some d/\mN w Q mp pm gs p/\rV S mp d gs
def Bi.O {w w':World}{Q:Nat->Prop}{S:eE}{mp pm:ByteArray->Option Nat}(h:Bi w Q S mp pm)(hk:∀b,Q b->b<w.heap.size->w'.heap[b]?=w.heap[b]?):Bi w' Q S mp pm:=λt p hp=>by
 have⟨d,gs,h1,h2,h3⟩:=h t p hp;exact⟨d,gs,h1,h2.O hk (λ_ _ q=>q),h3⟩
def KL (S:eE)(mp pm:ByteArray->Option Nat)(B:Nat)(b:ByteArray)(F:Nat):Prop:=
 ∀(w:World) (Z:Nat->Prop) (sub:MT) (m:PM) (a e deep k pb:Nat) (gs:List GF) (rb db:Nat),Oz w B S mp->Bi w (λb=>b<B) S mp pm->mN w (λb=>b<B) mp pm gs pb->rV S mp sub gs->kM S sub->d6 w rb (b.extract 0 e) a deep->el S (k+1) (some sub) w Z db m->
  (∀x,Z x->B<=x/\x<w.heap.size)->B<=rb->¬Z rb->a<=e->e<=b.size->e-a<F->k+deep=8->WM S a sub m->
  S9 89 #[.pointer (some ⟨pb,0,none⟩),.pointer (some ⟨rb,0,none⟩),.pointer (some ⟨db,0,none⟩)] w (ij S k sub w Z rb db (b.extract 0 e) deep (pu e (fj S b F sub m a e deep)))
section
open Tq
section
variable {w:aw} {b c n:Nat} {T:TypeId} {v:Value}
theorem Hz (w:aw)(o:Obj)(b:Nat)(cs:aq)(T:TypeId):dP (w.alloc o) b cs T<->if b=w.heap.size then o= .cells cs T (0,0)else dP w b cs T:=by
 unfold dP;by_cases h:b=w.heap.size;.subst h;rw[dH rfl,heap_alloc_new];simp
 .rw[dG h];by_cases hl:b<w.heap.size;.rw[Below.l w o b hl]
  .rw[cS Tg,cS Te]
theorem KU (w:aw)(b:Nat)(cs:aq)(T:TypeId):dP w.drew b cs T<->dP w b cs T:=Iff.rfl
theorem dP.deep {cs:aq}(h:dP w b cs T):
  (∀off,w.cell? (ai b off)=cs[off]?)/\(∀o1 off,(w.alloc o1).cell? (ai b off)=cs[off]?)/\(∀o1 o2 off,((w.alloc o1).alloc o2).cell? (ai b off)=cs[off]?)/\(∀o1 o2 o3 off,(((w.alloc o1).alloc o2).alloc o3).cell? (ai b off)=cs[off]?)/\(∀o1 o2 o3 o4 off,((((w.alloc o1).alloc o2).alloc o3).alloc o4).cell? (ai b off)=cs[off]?):=
 ⟨h.cell,λ_=>(h.alloc _).cell,λ_ _=>((h.alloc _).alloc _).cell,λ_ _ _=>(((h.alloc _).alloc _).alloc _).cell,λ_ _ _ _=>((((h.alloc _).alloc _).alloc _).alloc _).cell⟩
theorem mM.form {Q:ax}{k:Nat}(h:mM w Q k v):Bh v:=by
 rcases h with⟨_,rfl⟩|⟨_,rfl⟩|⟨_,_,_,rfl,_⟩;.exact⟨_,_,rfl⟩
 .exact⟨_,_,rfl⟩
 .exact⟨_,_,rfl⟩
theorem Below.a2 (w:aw)(o1 o2:Obj):aj w ((w.alloc o1).alloc o2):=((Below.refl _ _).alloc (aD _) _).alloc Tf _
theorem Below.a3 (w:aw)(o1 o2 o3:Obj):aj w (((w.alloc o1).alloc o2).alloc o3):=(Below.a2 w o1 o2).alloc Tg _
theorem Below.a4 (w:aw)(o1 o2 o3 o4:Obj):aj w ((((w.alloc o1).alloc o2).alloc o3).alloc o4):=(Below.a3 w o1 o2 o3).alloc Tg _
theorem eO {off:Nat}(h:c≠b):(w.setCell (ai c off) v).heap[b]?=w.heap[b]?:=by rw[dM,dG h]
def iK (w:aw)(b:Nat)(T:TypeId):Prop:=∃u,dP w b #[u] T
theorem dP.set1 (h:iK w b T)(v:Value):dP (w.setCell (ai b 0) v) b #[v] T:=by
 obtain⟨u,h⟩:=h;simpa using h.set 0 v
theorem iK.newAt (h:n=w.heap.size)(v:Value)(T:TypeId):iK (w.alloc (.cells #[v] T)) n T:=⟨_,dP.newAt h _ _⟩
theorem iK.alloc (h:iK w b T)(o:Obj):iK (w.alloc o) b T:=h.imp λ_ q=>q.alloc o
theorem iK.drew (h:iK w b T):iK w.drew b T:=h
theorem iK.other (h:iK w b T)(off:Nat)(v:Value)(a:c≠b):iK (w.setCell (ai c off) v) b T:=h.imp λ_ q=>q.other off v a
theorem iK.G {w1:aw}(h:iK w b T)(a:Below n w w1)(c:b<n):iK w1 b T:=h.imp λ_ q=>q.G a c
theorem Dl {w':aw}(h:Below n w w'):(∀b off,b<n->w'.cell? (ai b off)=w.cell? (ai b off))/\(∀b off,b<n->w'.frozen? (ai b off)=w.frozen? (ai b off)):=⟨λb off a=>h.cell (p:=(ai b off)) a,λb off a=>h.frozen (p:=(ai b off)) a⟩
theorem pF {p q:Prop}(h:p)(k:p->q):q:=k h
theorem RK {fb:Nat}{a b c d e:Value}(h:dP w fb #[a,b,c,d,e] T):w.cell? (ai fb 0)=some a/\w.cell? (ai fb 2)=some c/\w.cell? (ai fb 3)=some d:=⟨h.cell 0,h.cell 2,h.cell 3⟩
def pw (w:aw)(A:aw->Value->Prop)(e:Ending)(w':aw):Prop:=∃v,e= .returned v/\A w' v/\aj w w'
section
variable (w:aw) (Q P:ax) (mp pm:am) (g:GF) (fb:Nat)
theorem xT (hQ:∀b,w.heap.size<=b->Q b)(h:eR w P mp g fb)(h4:g.form≠4)(hb:jd mp g.f.ty<=15):Calls prog 380 #[ag fb] w (pw w λw' v=>Po w' Q mp g v):=by
 have a:= @yG;have⟨a,c,d,_,D,E⟩:=h.blk;have J:eG mp g=jd mp g.f.ty:=by unfold eG;rw[dG h4]
 rw[J]at d;obtain⟨n,rfl⟩:=g8 E;obtain⟨u,A,z,rfl⟩:=dO D.1;have Z:=λW=>Ad W (jd mp g.f.ty) (.pointer n) hb
 clear E D h
 have H:(g.form==0)=true/\lw g.form=193\/(g.form==0)=false/\(g.form==2)=true/\lw g.form=268\/(g.form==0)=false/\(g.form==2)=false/\lw g.form=195:=by
  unfold lw;by_cases h0:g.form=0;.exact .inl ⟨by simp[h0],by rw[dH h0]⟩
  .by_cases h2:g.form=2;.exact .inr (.inl ⟨by simp[h0],by simp[h2],by rw[dG h0,dH h2]⟩)
   .exact .inr (.inr ⟨by simp[h0],by simp[h2],by rw[dG h0,dG h2]⟩)
 have⟨o,t,C,D,E⟩:=d.deep;have K:=d.lt;go_in
 go_upto_region 1 with fail
 go_cut [3,4]from 6 to 14 (λx y i=>∃r nb s,x=ag r/\y=ag nb/\dP i r #[s] 478/\dP i nb #[aa g.f.num] 3/\dP i fb #[aa g.f.num,aa g.form,aa (jd mp g.f.ty),.pointer n,.slice u A z] 220/\mM i Q (jd mp g.f.ty) s/\w.heap.size<=r/\w.heap.size<=nb/\aj w i)
 case first=>
  go_region_held2 (λW=>W.cell? (ai fb 0)=some (aa g.f.num)/\W.cell? (ai fb 2)=some (aa (jd mp g.f.ty))/\W.cell? (ai fb 3)=some (.pointer n))
   ((go_light;refine RK (b:=aa g.form) (e:= .slice u A z) (T:=220) ?_;repeat (first|exact m|exact d|refine dP.alloc ?_ _|refine dP.drew ?_|refine dP.other ?_ _ _ Te)))
   (first|(go_at_call 420;refine(Z _).V ?_;rintro e w2 ⟨s,rfl,f,c⟩;obtain⟨L,I,rfl⟩:=f.form;refine pF (p:=dP w2 fb #[aa g.f.num,aa g.form,aa (jd mp g.f.ty),.pointer n,.slice u A z] 220) ?_ ?_;(first|exact dP.G d.drew c K|exact dP.G (d.alloc _).drew c (d.alloc _).lt|exact dP.G ((d.alloc _).alloc _).drew c ((d.alloc _).alloc _).lt);intro m;have z2:=m.lt;have⟨i,x,y,G,J⟩:=m.deep;have⟨j,k⟩:=Dl c;(try simp only[ca,World.size_drew]at j k);(first|(refine pF (p:=w.heap.size+1<w2.heap.size/\w.heap.size<w2.heap.size) ?_ ?_;(have q:=c.size;simp at q;omega);rintro⟨B,l⟩;have⟨M,N,O,R⟩:=gW (w:=w2) (b:=w.heap.size) l;have⟨F,T,V,W⟩:=gW (w:=w2) (b:=w.heap.size+1) B;have S:=λa=>j w.heap.size a Te;have U:=λa=>k w.heap.size a Te;have X:=λa=>j (w.heap.size+1) a Te;have Y:=λa=>k (w.heap.size+1) a Te)|(refine pF (p:=w.heap.size<w2.heap.size) ?_ ?_;(have q:=c.size;simp at q;omega);intro B;have⟨M,N,O,R⟩:=gW (w:=w2) (b:=w.heap.size) B;have S:=λa=>j w.heap.size a Te;have U:=λa=>k w.heap.size a Te)|skip);clear j k))
  all_goals
   go_wp2;go_meet
   case rel=>
    go_light;have a:w.heap.size<=w2.heap.size:=by have q:=c.size;simp at q;omega
    refine⟨_,_,_,rfl,rfl,?_,?_,?_,f.mV (λb q l=>⟨hQ b (by simp at q;omega),?_⟩),Te,Te,?_⟩;.repeat (first|exact dP.newAt Tn _ _|exact iK.newAt Tn _ _|refine dP.set1 ?_ _|refine dP.other ?_ _ _ Te|refine dP.alloc ?_ _|refine iK.other ?_ _ _ Te|refine iK.G ?_ c Tn|refine iK.drew ?_|refine iK.alloc ?_ _)
    .repeat (first|exact dP.newAt Tn _ _|exact iK.newAt Tn _ _|refine dP.set1 ?_ _|refine dP.other ?_ _ _ Te|refine dP.alloc ?_ _|refine iK.other ?_ _ _ Te|refine iK.G ?_ c Tn|refine iK.drew ?_|refine iK.alloc ?_ _)
    .repeat (first|exact m|refine dP.alloc ?_ _|refine dP.other ?_ _ _ Te)
    .simp at q;repeat (first|rfl|(rw[Below.l _ _ b Tn])|(rw[eO Te]))
    .repeat (first|exact Below.refl _ _|refine dL ?_ c|refine Below.drew ?_|refine Below.alloc ?_ Tn _|refine Below.setCell ?_ Tn _)
 case rest=>
  obtain⟨r,nb,s,rfl,rfl,V,X,Y,f,a,c,F⟩:=hcut;obtain⟨L,I,rfl⟩:=f.form;have⟨i,x,y,G,J⟩:=Y.deep;clear o t C D E;have L:=F.size;rcases H with⟨G,t⟩|⟨G,f2,t⟩|⟨G,f2,t⟩
  all_goals
   go_wp2;go_ret;have C:∀o,aj wc (wc.alloc o):=λo=>(Below.refl _ _).alloc (aD _) _
   refine⟨_,rfl,⟨_,_,_,_,rfl,?_,X.alloc _,V.alloc _,f.mV (λb q l=>⟨q,(C _).block b l⟩),hQ _ L,hQ _ c,hQ _ a⟩,dL F (C _)⟩;rw[t];exact dP.new _ _ _
end
end
def qh (w:aw)(Q:ax)(mp pm:am)(g:GF)(iv:Value):Prop:=
 if g.form=4 then∃p,iv=ag p/\rE w Q mp (BZ w Q mp pm) [lF oe g.f.key 1,lF qZ g.f.ty 2] p
 else if jd mp g.f.ty=16 then∃p,iv=ag p/\pm g.f.ty=some p
 else iv= .pointer none
def qh.form {w:aw}{Q:ax}{mp pm:am}{g:GF}{iv:Value}(h:qh w Q mp pm g iv):∃q,iv= .pointer q:=by
 unfold qh at h;split at h;.obtain⟨p,rfl,_⟩:=h;exact⟨_,rfl⟩
 .split at h;.obtain⟨p,rfl,_⟩:=h;exact⟨_,rfl⟩
  .exact⟨_,h⟩
def qh.mV {w w':aw}{Q Q':ax}{mp pm pm':am}{g:GF}{iv:Value}(d:Mv w Q w' Q')(e:∀t p,pm t=some p->pm' t=some p)(h:qh w Q mp pm g iv):qh w' Q' mp pm' g iv:=by
 unfold qh at*;split at h;.rename_i b;rw[dH b];obtain⟨p,a,c⟩:=h;exact⟨p,a,c.mV d λ_ _ _ q=>q.mV d e⟩
 .rename_i b;rw[dG b];split at h;.rename_i a;rw[dH a];obtain⟨p,c,f⟩:=h;exact⟨p,c,e _ _ f⟩
  .rename_i a;rw[dG a];exact h
def xU:Prop:=∀(w:aw) (Q P:ax) (mp:am) (g:GF) (fb:Nat),(∀b,w.heap.size<=b->Q b)->eR w P mp g fb->g.form≠4->jd mp g.f.ty<=15->S9 379 #[ag fb] w (pw w λw' v=>Nt w' Q mp g v)
def Bj:Prop:=∀(w:aw) (Q P:ax) (mp:am) (g:GF) (fb p:Nat),(∀b,w.heap.size<=b->Q b)->eR w P mp g fb->g.form=4->S9 377 #[ag fb,ag p] w (pw w λw' v=>OD w' Q mp (λx=>x=p) g v)
section
variable (w:aw) (Q P:ax) (mp pm:am) (g:GF) (fb:Nat)
def uh (p:Nat)(hQ:∀b,w.heap.size<=b->Q b)(h:eR w P mp g fb)(t:pm g.f.ty=some p):Calls prog 378 #[ag fb,ag p] w (pw w λw' v=>Pp w' Q mp pm g v):=by
 have A:= @yG;have⟨E,I,q,_,k,l⟩:=h.blk;obtain⟨D,rfl⟩:=g8 l;obtain⟨F,H,G,rfl⟩:=dO k.1;have f:∀W,(∀b,b<w.heap.size->W.heap[b]?=w.heap[b]?)->S9 186 #[ag fb] W λe w'=>e= .returned (aa (kA mp g))/\w'=W:=λW r=>sO W P mp g fb (h.O (λb _ s=>r b s))
 have l1:∀a,∀b,b<w.heap.size->(w.alloc a).drew.heap[b]?=w.heap[b]?:=λa b d=>Below.l w a b d
 have l2:∀a c,∀b,b<w.heap.size->((w.alloc a).alloc c).drew.heap[b]?=w.heap[b]?:=λa c b d=>(Below.a2 w a c).block b d
 have z:∀a c i,∀b,b<w.heap.size->(((w.alloc a).alloc c).alloc i).drew.heap[b]?=w.heap[b]?:=λa c i b d=>(Below.a3 w a c i).block b d
 have⟨B,u,x,y,C⟩:=q.deep;clear l k h
 have o:(g.form==2)=true/\jh g.form=190\/(g.form==2)=false/\jh g.form=191:=by
  unfold jh;by_cases h2:g.form=2;.exact .inl ⟨by simp[h2],by rw[dH h2]⟩
  .exact .inr ⟨by simp[h2],by rw[dG h2]⟩
 obtain⟨j,m⟩:=Td (kA mp g);rw[m]at f;rcases o with⟨f2,n⟩|⟨f2,n⟩
 all_goals
  go_in
  go_upto_region 1 with fail
  go_region_held3 (λW=>W.cell? (ai fb 0)=some (aa g.f.num))
   (first|exact y _ _ _ 0|exact x _ _ 0|exact u _ 0)
   (first|(go_at_call 186;refine(f _ (l1 _)).V ?_;rintro e w2 ⟨rfl,rfl⟩)|(go_at_call 186;refine(f _ (l2 _ _)).V ?_;rintro e w2 ⟨rfl,rfl⟩)|(go_at_call 186;refine(f _ (z _ _ _)).V ?_;rintro e w2 ⟨rfl,rfl⟩))
  all_goals
   go_wp2;go_ret;refine⟨_,rfl,⟨_,_,_,_,p,rfl,?_,?_,?_,?_,t,hQ _ Te,hQ _ Te,hQ _ Te,hQ _ Te⟩,(Below.a4 w _ _ _ _).drew⟩;all_goals simp[Hz,KU,BY,n,m]<;>omega
def mg.fn {w:aw}{Q:ax}{mp pm:am}{g:GF}{v:Value}(h:mg w Q mp pm g v):Bh v:=by
 unfold mg at h;split at h;.obtain⟨_,_,_,_,_,rfl,_⟩:=h;exact⟨_,_,rfl⟩
 .unfold BZ at h;split at h;.obtain⟨_,_,_,_,_,rfl,_⟩:=h;exact⟨_,_,rfl⟩
  .split at h;.obtain⟨_,_,_,_,rfl,_⟩:=h;exact⟨_,_,rfl⟩
   .obtain⟨_,_,_,_,rfl,_⟩:=h;exact⟨_,_,rfl⟩
def xV (iv:Value)(HP:xU)(HE:Bj)(hQ:∀b,w.heap.size<=b->Q b)(h:eR w P mp g fb)(d:qh w Q mp pm g iv):Calls prog 295 #[ag fb,iv] w (pw w λw' v=>mg w' Q mp pm g v):=by
 have⟨K,O,j,_,t,u⟩:=h.blk;obtain⟨J,rfl⟩:=g8 u;obtain⟨L,N,M,rfl⟩:=dO t.1;have k:=oX w P mp g fb h;have y:∀w1:aw,aj w w1->∀b,w1.heap.size<=b->Q b:=λw1 j b A=>hQ b (by have:=j.size;omega)
 have z:∀w1:aw,aj w w1->eR w1 P mp g fb:=λw1 A=>h.O (λb _ E=>A.block b E)
 clear u t;unfold qh at d;by_cases h4:g.form=4
 .rw[dH h4]at d;obtain⟨p,rfl,n⟩:=d;have D:(g.form==4)=true:=by simp[h4]
  have r:=HE w Q P mp g fb p hQ h h4;have⟨H,I⟩:=j.I;go_in
  go_wp2_with fail;refine r.V ?_;rintro e w2 ⟨v,rfl,i,c⟩
  have a:mg w2 Q mp pm g v:=by
   unfold mg;rw[dH h4]
   exact i.mV (.O λ_ _ _=>rfl) λx G=>by
    subst G;exact n.mV (.O λb _ l=>c.block b l) λ_ _ _ q=>q.mV (.O λb _ l=>c.block b l) (λ_ _ q=>q)
  obtain⟨s,m,rfl⟩:=a.fn;go_wp2;go_ret;exact⟨_,rfl,a,c⟩
 .rw[dG h4]at d;have D:(g.form==4)=false:=by simp[h4]
  have B:eG mp g=jd mp g.f.ty:=by unfold eG;rw[dG h4]
  rw[B]at j;have o:∀w' v,BZ w' Q mp pm g v->mg w' Q mp pm g v:=λw' v q=>by unfold mg;rw[dG h4];exact q
  have⟨H,I⟩:=j.I;by_cases h16:jd mp g.f.ty=16
  .rw[dH h16]at d;obtain⟨p,rfl,n⟩:=d;have C:((jd mp g.f.ty:Int)==16)=true:=by simp[h16]
   have r:=uh w Q P mp pm g fb p hQ h n;go_in
   go_wp2_with fail;refine r.V ?_;rintro e w2 ⟨v,rfl,i,c⟩;have a:mg w2 Q mp pm g v:=o _ _ (by unfold BZ;rw[dH h16];exact i);obtain⟨s,m,rfl⟩:=a.fn;go_wp2;go_ret;exact⟨_,rfl,a,c⟩
  .rw[dG h16]at d;subst d;have C:((jd mp g.f.ty:Int)==16)=false:=Tg;have F:=nP mp g.f.ty
   cases hpk:it mp g with
   |true=>
    rw[hpk]at k;go_in
    go_wp2_with fail;refine k.V ?_;rintro e w1 ⟨rfl,f⟩;go_wp2_with fail;refine(HP w1 Q P mp g fb (y w1 f) (z w1 f) h4 Te).V ?_;rintro e w2 ⟨v,rfl,i,c⟩;have a:mg w2 Q mp pm g v:=o _ _ (by unfold BZ;rw[dG h16,dH hpk];exact i);obtain⟨s,m,rfl⟩:=a.fn;go_wp2;go_ret
    exact⟨_,rfl,a,dL f c⟩
   |false=>
    rw[hpk]at k;go_in
    go_wp2_with fail;refine k.V ?_;rintro e w1 ⟨rfl,f⟩;go_wp2_with fail;refine(xT w1 Q P mp g fb (y w1 f) (z w1 f) h4 Te).V ?_;rintro e w2 ⟨v,rfl,i,c⟩;have a:mg w2 Q mp pm g v:=o _ _ (by unfold BZ;rw[dG h16,dG (by rw[hpk];simp)];exact i);obtain⟨s,m,rfl⟩:=a.fn;go_wp2;go_ret;exact⟨_,rfl,a,dL f c⟩
def yZ (iv:Value)(HP:xU)(HE:Bj)(hQ:∀b,w.heap.size<=b->Q b)(hPQ:∀b,P b->Q b)(h:eR w P mp g fb)(c:qh w Q mp pm g iv):Calls prog 213 #[ag fb,iv] w (pw w λw' v=>wd w' Q (mg w' Q mp pm) g v):=by
 have t:= @yG;have⟨E,H,m,_,j,k⟩:=h.blk;have r:=xV w Q P mp pm g fb iv HP HE hQ h c;obtain⟨x,rfl⟩:=c.form;obtain⟨D,rfl⟩:=g8 k;obtain⟨F,G,rfl⟩:=ig j.1;clear k c h;go_in
 go_wp2_with fail;refine r.V ?_;rintro e w2 ⟨v,rfl,d,a⟩;have⟨I,u,i⟩:=d.fn;have p:=m.G a m.lt;have⟨y,z,A,B,C⟩:=p.deep;have s:=a.size;by_cases h0:g.riv= []
 .have n:((g.riv.length:Int)==0)=true:=by simp[h0]
  subst i;go_wp2;go_ret;have f:∀o,aj w2 (w2.alloc o):=λo=>(Below.refl _ _).alloc (aD _) _
  refine⟨_,rfl,(show wd _ Q (mg _ Q mp pm) g _ from ?_),dL a (f _)⟩;unfold wd;rw[dH h0];exact d.mV (.O λb _ l=>(f _).block b l) (λ_ _ q=>q)
 .have n:((g.riv.length:Int)==0)=false:=by simpa using h0
  subst i;go_wp2;go_ret;refine⟨_,rfl,(show wd _ Q (mg _ Q mp pm) g _ from ?_),dL a (Below.a2 w2 _ _)⟩;unfold wd;rw[dG h0];refine⟨_,_,_,_,rfl,dP.newAt Tf _ _,?_,(dP.new w2 _ _).alloc _,hQ _ Te,hQ _ Te,?_⟩;.exact d5.mV (λb q l=>⟨hPQ b q,(dL a (Below.a2 w2 _ _)).block b l⟩) j
  .exact d.mV (.O λb _ l=>(Below.a2 w2 _ _).block b l) (λ_ _ q=>q)
end
def mO (w:aw)(e:Ending)(w':aw):Prop:=∃f cap,e= .returned (.func (.func f) #[] cap)/\aj w w'
section
variable (w:aw)
def Lb (f:FuncId)(cap:aq):Calls prog 287 #[.func (.func f) #[] cap] w (mO w):=by
 have a:= @yG;go_in
 go_wp2;go_ret;exact⟨_,_,rfl,(Below.refl _ _).alloc (aD _) _⟩
def Lc (f:FuncId)(cap:aq):Calls prog 286 #[.func (.func f) #[] cap] w (mO w):=by
 have a:= @yG;go_in
 go_wp2;go_ret;exact⟨_,_,rfl,(Below.refl _ _).alloc (aD _) _⟩
def H9 (f:FuncId)(cap:aq)(sg:Bool):Calls prog 285 #[.func (.func f) #[] cap,.bool sg] w (mO w):=by
 have d:= @yG;have c:=λW=>Lc W f cap
 have a:aj w (w.S6 #[.bool sg] 4):=(Below.refl _ _).alloc (aD _) _;go_in
 go_wp2_with fail;refine(c _).V ?_;rintro e w2 ⟨h,g,rfl,b⟩;go_wp2;go_ret;exact⟨_,_,rfl,dL a (dL b ((Below.refl _ _).alloc (aD _) _))⟩
def Q3 (k:Nat)(a:k<=16):Calls prog 363 #[aa k] w (mO w):=by
 rcases(show k=0\/k=1\/k=2\/k=3\/k=4\/k=5\/k=6\/k=7\/k=8\/k=9\/k=10\/k=11\/k=12\/k=13\/k=14\/k=15\/k=16 from by omega)with rfl|rfl|rfl|rfl|rfl|rfl|rfl|rfl|rfl|rfl|rfl|rfl|rfl|rfl|rfl|rfl|rfl
 all_goals
  go_in
  go_wp2;go_ret;exact⟨_,_,rfl,Below.refl _ _⟩
def vz (k:Nat)(pq iq:aC)(h:k<=16):Calls prog 284 #[.agg #[aa k,.pointer pq],.pointer iq] w (mO w):=by
 have i:= @yG;have g:=λW=>Q3 W k h
 have f:=(dP.new w #[aa k,.pointer pq] 216).alloc (ak #[.pointer iq] 116);have⟨l,m⟩:=f.I;have a:((k:Int)==16)=decide (k=16):=by rw[bV];simp;omega
 have c:((k:Int)==13)=decide (k=13):=by rw[bV];simp;omega
 have b:((k:Int)==14)=decide (k=14):=by rw[bV];simp;omega
 by_cases h16:k=16
 .simp only[h16,decide_true]at a;subst h16;go_in
  go_wp2;go_ret;exact⟨_,_,rfl,Below.a2 w _ _⟩
 .by_cases h13:k=13
  .subst h13;go_in
   go_wp2;go_ret;exact⟨_,_,rfl,Below.a2 w _ _⟩
  .by_cases h14:k=14
   .subst h14;go_in
    go_wp2;go_ret;exact⟨_,_,rfl,Below.a2 w _ _⟩
   .simp only[h16,decide_false]at a;simp only[h13,decide_false]at c;simp only[h14,decide_false]at b;go_in
    go_wp2_with fail;refine(g _).V ?_;rintro e w2 ⟨n,j,rfl,d⟩;go_wp2;go_ret;exact⟨_,_,rfl,dL (Below.a2 w _ _) (dL d ((Below.refl _ _).alloc (aD _) _))⟩
def qL (fn:Nat)(b:fn=368\/fn=293)(k:Nat)(pq iq:aC)(f:k<=16):Calls prog fn #[.agg #[aa k,.pointer pq],.pointer iq] w (mO w):=by
 have g:= @yG;have c:=λW=>rQ W k (.pointer pq) f
 have d:=(dP.new w #[aa k,.pointer pq] 216).alloc (ak #[.pointer iq] 116);have⟨h,i⟩:=d.I;rcases(show k=0\/k=1\/k=2\/k=3\/k=4\/k=5\/k=6\/k=7\/k=8\/k=9\/k=10\/k=11\/k=12\/k=13\/k=14\/k=15\/k=16 from by omega)with rfl|rfl|rfl|rfl|rfl|rfl|rfl|rfl|rfl|rfl|rfl|rfl|rfl|rfl|rfl|rfl|rfl
 all_goals
  rcases b with rfl|rfl
  .go_in
   go_wp2_with (go_at_call 208;refine(c _).V ?_;rintro e w2 ⟨rfl,a⟩)
   go_ret
   first
    |exact⟨_,_,rfl,Below.a2 w _ _⟩
    |exact⟨_,_,rfl,dL (Below.a2 w _ _) a⟩
  .go_in
   go_wp2_with (go_at_call 208;refine(c _).V ?_;rintro e w2 ⟨rfl,a⟩)
   go_ret
   first
    |exact⟨_,_,rfl,Below.a2 w _ _⟩
    |exact⟨_,_,rfl,dL (Below.a2 w _ _) a⟩
def kD (k:Nat)(pq iq:aC)(d:k<=16):Calls prog 289 #[.agg #[aa k,.pointer pq],.pointer iq] w (mO w):=by
 have f:= @yG;have c:=λW=>qL W 368 (.inl rfl) k pq iq d
 have a:aj w (w.S6 #[aa k,.pointer pq] 216):=(Below.refl _ _).alloc (aD _) _;have⟨h,i⟩:=(dP.new w #[aa k,.pointer pq] 216).I;go_in
 go_wp2_with fail;refine(c _).V ?_;rintro e w2 ⟨j,g,rfl,b⟩;go_wp2;go_ret;exact⟨_,_,rfl,dL a (dL b ((Below.refl _ _).alloc (aD _) _))⟩
end
end
def DN {k:Nat}{w:aw}{Z:ax}:∀{l:List PV} {cs:ay},nQ (gQ k w Z) cs l->l.length<=m8 k l
 | [],_,_=>aD _
 |v::l,cs,h=>by
  obtain⟨c,rest,_,a,b⟩:=h;have ih:=DN b;rw[mW,bF]
  cases k with
  |zero=>exact a.elim
  |succ k=>rw[lz];omega
def BO {k:Nat}{f:PF}:∀{fs:List PF},f∈fs->fs.length<=sr k fs/\1+m8 k f.2<=sr k fs
 |x::fs,h=>by
  rw[oI,bF]
  have a:∀fs:List PF,fs.length<=sr k fs:=λfs=>by
   induction fs with
   |nil=>exact aD _
   |cons y ys ih=>rw[oI,bF];omega
  have:=a fs;rcases aR.1 h with rfl|h;.omega
  .have:=BO (k:=k) h;omega
def GW {k:Nat}{v:PV}:∀{l:List PV},v∈l->mZ k v.2.2<=m8 k l
 |x::l,h=>by
  rw[mW];rcases aR.1 h with rfl|h;.omega
  .have:=GW (k:=k) h;omega
def SM (k:Nat):Prop:=∀(w:aw) (Z Z':ax) (v v':Value) (m:PM),gQ k w Z v m->gQ k w Z' v' m->mZ k m<=1099511627776->
 S9 22 #[.agg #[v,ae m.unk],.agg #[v',ae m.unk]] w λe w'=>e= .returned (.bool true)/\aj w w'
def N5 {k:Nat}(H:SM k)(w:aw)(Z Z':ax)(v v':Value)(l:List PV)(h:fk (gQ k w Z) w Z v l)(D:fk (gQ k w Z') w Z' v' l)(X:m8 k l<=1099511627776):
  S9 50 #[v,v'] w λe w'=>e= .returned (.bool true)/\aj w w':=by
 obtain⟨a,c,rfl⟩:=h.form;obtain⟨a',c',rfl⟩:=D.form;obtain⟨cs,V,G⟩:=h;obtain⟨TG,R,S⟩:=D;have hlen:=DN G;go_enter func50,ntmps50;go_wp2;go_loopw [5] (λi wr=>∃k:Nat,k<=l.length/\i=aa k/\aj w wr) (λi _=>l.length-(intOf i).toNat)
 case atStart=>exact⟨0,aM _,rfl,Below.refl _ _⟩
 case round=>
  obtain⟨i,hi,rfl,B⟩:=hrel;by_cases hlt:i<l.length
  .have⟨x,s⟩:=gx hlt;have⟨mv,t,I,J,K,L⟩:=G.get s;have⟨Y,u,M,N,O,P⟩:=S.get s;obtain⟨g,rfl,_,r,j⟩:=dV V.1 Te;obtain⟨b,rfl,_,q,f⟩:=dV R.1 Te;obtain⟨o,p,rfl⟩:=t.form;obtain⟨m,n,rfl⟩:=u.form;have T:(i:Int)<(l.length:Int):=Te;have E:∀W,aj w W->S9 22 #[.agg #[.slice o x.2.2.fs.length p,ae x.2.2.unk],.agg #[.slice m x.2.2.fs.length n,ae x.2.2.unk]] W λe w'=>e= .returned (.bool true)/\Below W.heap.size W w':=λW d=>H W Z Z' _ _ x.2.2 (t.G d (aD _)) (u.G d (aD _)) (aL (GW (aO s)) X)
   have F:∀W,aj w W->(W.cell? (ai g (i*4+2))=some (.slice o x.2.2.fs.length p)/\W.cell? (ai g (i*4+3))=some (ae x.2.2.unk))/\(W.cell? (ai b (i*4+2))=some (.slice m x.2.2.fs.length n)/\W.cell? (ai b (i*4+3))=some (ae x.2.2.unk)):=λW d=>⟨⟨j W (d.block g r) _ _ K,j W (d.block g r) _ _ L⟩,f W (d.block b q) _ _ O,f W (d.block b q) _ _ P⟩
   have A:∀W,aj w W->(W.cell? (ai g (i*4))=some (.int .u64 x.1)/\W.cell? (ai g (i*4+1))=some (ae x.2.1))/\(W.cell? (ai b (i*4))=some (.int .u64 x.1)/\W.cell? (ai b (i*4+1))=some (ae x.2.1)):=λW d=>⟨⟨j W (d.block g r) _ _ I,j W (d.block g r) _ _ J⟩,f W (d.block b q) _ _ M,f W (d.block b q) _ _ N⟩
   have z:Hid (∀W,aj w W->(W.cell? (ai g (i*4+2))=some (.slice o x.2.2.fs.length p)/\W.cell? (ai g (i*4+3))=some (ae x.2.2.unk))/\(W.cell? (ai b (i*4+2))=some (.slice m x.2.2.fs.length n)/\W.cell? (ai b (i*4+3))=some (ae x.2.2.unk))):=F;have U:Hid (∀W,aj w W->(W.cell? (ai g (i*4))=some (.int .u64 x.1)/\W.cell? (ai g (i*4+1))=some (ae x.2.1))/\(W.cell? (ai b (i*4))=some (.int .u64 x.1)/\W.cell? (ai b (i*4+1))=some (ae x.2.1))):=A;have Q:Hid (∀W,aj w W->S9 22 #[.agg #[.slice o x.2.2.fs.length p,ae x.2.2.unk],.agg #[.slice m x.2.2.fs.length n,ae x.2.2.unk]] W λe w'=>e= .returned (.bool true)/\Below W.heap.size W w'):=E;have TE:(x.2.1.toList==x.2.1.toList)=true:=Tf;clear F A E j f t I J K L u M N O P s;go_upto_region 6 with fail
   go_region_held2 (λW=>(W.cell? (ai g (i*4+2))=some (.slice o x.2.2.fs.length p)/\W.cell? (ai g (i*4+3))=some (ae x.2.2.unk))/\(W.cell? (ai b (i*4+2))=some (.slice m x.2.2.fs.length n)/\W.cell? (ai b (i*4+3))=some (ae x.2.2.unk)))
    (first|exact z.o _ (dL B.drew C)|exact z.o _ B.drew)
    (first|(go_at_call 22;refine(Q.o _ B.drew).V ?_;rintro e w1 ⟨rfl,C⟩))
   have y:=dL B.drew C;have⟨⟨s1,s2⟩,s3,s4⟩:=U.o _ y;go_wp2_with fail;go_quiet (fail);go_wp2;go_roundw
   case rel=>exact⟨i+1,Te,by go_num,gN y _⟩
   case measure=>simp[intOf];omega
  .have T:¬(i:Int)<(l.length:Int):=Te;go_wp2;go_ret;exact⟨rfl,B⟩
def wj:∀k,SM k
 |0=>λw Z M v v' m h=>h.elim
 |k+1=>λw Z M v v' m h N O=>by
  have H:=wj k;rw[lz]at O;obtain⟨a,c,rfl⟩:=h.form;obtain⟨o,j,rfl⟩:=N.form
  have hlen:m.fs.length<=1099511627776:=by
   cases hm:m.fs with
   |nil=>simp
   |cons f fs=>
    have:=(BO (k:=k) (f:=f) (fs:=f::fs) Tf).1;rw[hm]at O;omega
  obtain⟨cs,hr,hv⟩:=h;obtain⟨TG,V,X⟩:=N;have F:aj w ((w.alloc (ak #[.slice a m.fs.length c,ae m.unk] 49)).alloc (ak #[.slice o m.fs.length j,ae m.unk] 49)):=((Below.refl _ _).alloc (aD _) _).alloc Tf _;have I:=(dP.new w #[.slice a m.fs.length c,ae m.unk] 49).alloc (ak #[.slice o m.fs.length j,ae m.unk] 49);have J:=dP.new1 w (ak #[.slice a m.fs.length c,ae m.unk] 49) #[.slice o m.fs.length j,ae m.unk] 49;have TE:(m.unk.toList==m.unk.toList)=true:=Tf;go_enter func22,ntmps22;go_wp2;generalize(w.alloc (ak #[.slice a m.fs.length c,ae m.unk] 49)).alloc (ak #[.slice o m.fs.length j,ae m.unk] 49)=w0 at*;go_loopw [5] (λi wr=>∃k:Nat,k<=m.fs.length/\i=aa k/\aj w0 wr) (λi _=>m.fs.length-(intOf i).toNat)
  case atStart=>exact⟨0,aM _,rfl,Below.refl _ _⟩
  case round=>
   obtain⟨i,hi,rfl,B⟩:=hrel;have z:=I.G B I.lt;have r:=J.G B J.lt;have⟨k1,k2⟩:=z.I;have⟨k3,k4⟩:=r.I;by_cases hlt:i<m.fs.length
   .have⟨x,p⟩:=gx hlt;have⟨vv,D,P,Q⟩:=hv.get p;have⟨vv',E,R,S⟩:=X.get p;obtain⟨g,rfl,_,L,t⟩:=dV hr.1 Te;obtain⟨d,rfl,_,K,s⟩:=dV V.1 Te;obtain⟨A,C,rfl⟩:=D.form;obtain⟨u,y,rfl⟩:=E.form;have Tx:(i:Int)<(m.fs.length:Int):=Te;have Y:m8 k x.2<=1099511627776:=by have:=(BO (k:=k) (aO p)).2;omega
    have U:Hid (∀W,aj w W->S9 50 #[.slice A x.2.length C,.slice u x.2.length y] W λe w'=>e= .returned (.bool true)/\Below W.heap.size W w'):=λW b=>N5 H W Z M _ _ x.2 (D.G b (aD _)) (E.G b (aD _)) Y
    have G:Hid (∀W,aj w W->(W.cell? (ai g (i*2+1))=some (.slice A x.2.length C)/\W.cell? (ai d (i*2+1))=some (.slice u x.2.length y))):=λW b=>⟨t W (b.block g L) _ _ Q,s W (b.block d K) _ _ S⟩
    have Ty:Hid (∀W,aj w W->(W.cell? (ai g (i*2))=some (aa x.1)/\W.cell? (ai d (i*2))=some (aa x.1))):=λW b=>⟨t W (b.block g L) _ _ P,s W (b.block d K) _ _ R⟩
    have q:Hid (∀W,aj wr W->(W.cell? (ai w.heap.size 0)=some (Ta g m.fs.length c)/\W.cell? (ai (w.heap.size+1) 0)=some (Ta d m.fs.length j))):=λW b=>⟨(z.G b z.lt).cell 0,(r.G b r.lt).cell 0⟩
    have n:=dL F B;clear t s D P Q E R S p;go_upto_region 6 with fail
    go_region_held2 (λW=>(W.cell? (ai g (i*2+1))=some (.slice A x.2.length C)/\W.cell? (ai d (i*2+1))=some (.slice u x.2.length y))/\(W.cell? (ai w.heap.size 0)=some (Ta g m.fs.length c)/\W.cell? (ai (w.heap.size+1) 0)=some (Ta d m.fs.length j)))
     (first|exact⟨G.o _ (dL n.drew l),q.o _ (dL (Below.refl _ _).drew l)⟩|exact⟨G.o _ n.drew,q.o _ (Below.refl _ _).drew⟩)
     (first|(go_at_call 50;refine(U.o _ n.drew).V ?_;rintro e w1 ⟨rfl,l⟩))
    have T:=dL n.drew l;have⟨s1,s2⟩:=Ty.o _ T;have⟨s3,s4⟩:=q.o _ (dL (Below.refl _ _).drew l);go_wp2_with fail;go_quiet (fail);go_wp2;go_roundw
    case rel=>exact⟨i+1,Te,by go_num,gN (dL B.drew l) _⟩
    case measure=>simp[intOf];omega
   .have Tx:¬(i:Int)<(m.fs.length:Int):=Te;go_wp2;go_ret;exact⟨rfl,dL F B⟩
section
open Tq
def dP.all {w:aw}{b:Nat}{cs:aq}{T:TypeId}(h:dP w b cs T):(∀off,w.cell? (ai b off)=cs[off]?)/\(∀o1 off,(w.alloc o1).cell? (ai b off)=cs[off]?)/\(∀o1 o2 off,((w.alloc o1).alloc o2).cell? (ai b off)=cs[off]?)/\(∀o1 o2 o3 off,(((w.alloc o1).alloc o2).alloc o3).cell? (ai b off)=cs[off]?)/\
  (∀off,w.frozen? (ai b off)=false)/\(∀o1 off,(w.alloc o1).frozen? (ai b off)=false)/\(∀o1 o2 off,((w.alloc o1).alloc o2).frozen? (ai b off)=false)/\(∀o1 o2 o3 off,(((w.alloc o1).alloc o2).alloc o3).frozen? (ai b off)=false)/\b<w.heap.size/\(b=w.heap.size)=False/\(w.heap.size=b)=False:=by
 have a:=h.lt;exact⟨h.I.1,λ_=>(h.alloc _).I.1,λ_ _=>((h.alloc _).alloc _).I.1,λ_ _ _=>(((h.alloc _).alloc _).alloc _).I.1,h.I.2,λ_=>(h.alloc _).I.2,λ_ _=>((h.alloc _).alloc _).I.2,λ_ _ _=>(((h.alloc _).alloc _).alloc _).I.2,a,eq_false Te,eq_false Te⟩
def jw {w w2:aw}(b:Below w.drew.heap.size w.drew w2):aj w w2:=dL (Below.refl _ _).drew b
section
variable {w w2:aw} {c1 c2 c3:aq} {T1 T2 T3:TypeId}
def DU (b:Below (w.alloc (.cells c1 T1)).heap.size (w.alloc (.cells c1 T1)) w2):aj w w2/\dP w2 w.heap.size c1 T1:=by
 have a:=dP.new w c1 T1;exact⟨dL ((Below.refl _ _).alloc (aD _) _) b,a.G b a.lt⟩
def DV (b:Below ((w.alloc (.cells c1 T1)).alloc (.cells c2 T2)).heap.size ((w.alloc (.cells c1 T1)).alloc (.cells c2 T2)) w2):aj w w2/\dP w2 w.heap.size c1 T1/\dP w2 (w.heap.size+1) c2 T2:=by
 have a:=(dP.new w c1 T1).alloc (.cells c2 T2);have c:=dP.newAt (w:=w.alloc (.cells c1 T1)) (n:=w.heap.size+1) Tf c2 T2;exact⟨dL (Below.a2 w _ _) b,a.G b a.lt,c.G b c.lt⟩
end
def dP.far {w:aw}{b:Nat}{cs:aq}{T:TypeId}(h:dP w b cs T):(b=w.heap.size)=False/\(w.heap.size=b)=False/\(b=w.heap.size+1)=False/\(w.heap.size+1=b)=False/\(b=w.heap.size+1+1)=False/\(w.heap.size+1+1=b)=False:=by
 have a:=h.lt;exact⟨eq_false Te,eq_false Te,eq_false Te,eq_false Te,eq_false Te,eq_false Te⟩
def dP.on {w w':aw}{b:Nat}{cs:aq}{T:TypeId}(h:dP w b cs T)(a:aj w w'):dP w' b cs T:=h.G a h.lt
def Of (x:Int)(w:aw)(a:0<=x)(h1:x<=18446744073709551615):S9 255 #[.int .u64 x] w λe w'=>e= .returned (aa (Lib.bitLen x.toNat))/\w'=w:=Any.bits_Len64 Tryz.laysLn x w a h1
def OP (w:aw)(e:Ending)(w':aw):Prop:=∃n,e= .returned (aa n)/\aj w w'
def Og (x:Int):0<=IntKind.u64.wrap x/\IntKind.u64.wrap x<=18446744073709551615:=by
 simp[IntKind.wrap,IntKind.bits,IntKind.signed];omega
def L8 (op:BinOp)(x y:Int):0<=bits op .u64 x y/\bits op .u64 x y<=18446744073709551615:=by
 unfold bits;exact Og _
def Qh {w:aw}{fb:Nat}{a b c d e:Value}{T:TypeId}(h:dP w fb #[a,b,c,d,e] T):w.cell? (ai fb 0)=some a/\w.cell? (ai fb 2)=some c/\w.cell? (ai fb 3)=some d:=⟨h.cell 0,h.cell 2,h.cell 3⟩
section
variable (w:aw) (P:ax) (mp:am) (g:GF) (fb:Nat)
def BP (x:Int):Calls prog 328 #[.int .u64 x] w (OP w):=by
 have⟨a,b⟩:=L8 .or x 1;have c:=Of _ w a b;clear a b;go_in
 go_wp2_with fail;refine c.V ?_;rintro e w2 ⟨rfl,rfl⟩;go_wp2;go_ret;exact⟨_,rfl,Below.refl _ _⟩
def Qi (n k:Int):Calls prog 316 #[.agg #[aa n,aa k]] w λe w'=>∃x,e= .returned (.int .u64 x)/\aj w w':=by
 have⟨a,b⟩:=(dP.new w #[aa n,aa k] 237).I;go_in
 go_wp2;go_ret;exact⟨_,rfl,(Below.refl _ _).alloc (aD _) _⟩
def Qj (n k:Int):Calls prog 242 #[.agg #[aa n,aa k]] w (OP w):=by
 have⟨d,f⟩:=(dP.new w #[aa n,aa k] 237).I;have a:aj w (w.S6 #[aa n,aa k] 237):=(Below.refl _ _).alloc (aD _) _;go_in
 go_wp2_with fail;refine(Qi _ n k).V ?_;rintro e w2 ⟨x,rfl,b⟩;go_wp2_with fail;refine(BP _ x).V ?_;rintro e w3 ⟨m,rfl,c⟩;go_wp2;go_ret;exact⟨_,rfl,dL a (dL b c)⟩
def L9 (h:eR w P mp g fb):Calls prog 231 #[ag fb] w λe w'=>∃n k,e= .returned (.agg #[aa n,aa k])/\aj w w':=by
 have⟨K,L,m,_,q,s⟩:=h.blk;obtain⟨t,rfl⟩:=g8 s;obtain⟨F,H,G,rfl⟩:=dO q.1;have⟨i,o⟩:=eY w #[aa 0,aa 0] 237;have f:=oX _ P mp g fb (h.O (λb _ B=>i.block b B))
 have v:eG mp g<=16:=by
  unfold eG;split;.exact aD _
  .exact nP _ _
 have y:=λW=>rQ W (eG mp g) (.pointer t) v
 clear s q h
 cases hpk:it mp g with
 |true=>
  rw[hpk]at f;go_in
  go_wp2_with fail;refine f.V ?_;rintro e w2 ⟨rfl,c⟩;have d:=dL i c;have⟨I,J⟩:=(m.on d).I;have a:=o.on c;have⟨D,E⟩:=a.I;go_wp2;refine dJ (dW results231 _ _ rfl ((a.set 0 _).set 1 _) underlying237 Tj) rfl ?_
  exact⟨_,_,rfl,(d.setCell (p:=(ai w.heap.size 0)) (aD _) _).setCell (p:=(ai w.heap.size 1)) (aD _) _⟩
 |false=>
  rw[hpk]at f;go_in
  go_wp2_with fail;refine f.V ?_;rintro e w2 ⟨rfl,c⟩;have d:=dL i c;have j:=m.on d;have a:=o.on c;have z:=j.lt;have C:=a.lt;have A:=m.lt;go_upto_region 3 with fail
  go_region_held2 (λW=>W.cell? (ai fb 0)=some (aa g.f.num)/\W.cell? (ai fb 2)=some (aa (eG mp g))/\W.cell? (ai fb 3)=some (.pointer t))
   ((refine Qh (b:=aa g.form) (e:= .slice F H G) (T:=220) ?_;repeat (first|exact u|exact j|refine dP.drew ?_|refine dP.other ?_ _ _ (by first|exact of_eq_false To|omega))))
   (first|(go_at_call 208;refine(y _).V ?_;rintro e w3 ⟨rfl,x⟩;have l:=jw x;have u:=j.on l;have r:=a.on l;have⟨D,E⟩:=r.I))
  all_goals
   go_wp2;refine dJ (dW results231 _ _ rfl ((r.set 0 _).set 1 _) underlying237 Tj) rfl ?_;exact⟨_,_,rfl,((dL d l).setCell (p:=(ai w.heap.size 0)) (aD _) _).setCell (p:=(ai w.heap.size 1)) (aD _) _⟩
end
end
end Go.Proofs.YtfebdimolnobaaaGreatDoor
