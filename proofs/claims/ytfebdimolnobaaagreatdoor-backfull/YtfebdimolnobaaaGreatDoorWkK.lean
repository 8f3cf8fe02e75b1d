import Derived.Test.YtfebdimolnobaaaGreatDoorDfR
set_option maxRecDepth 100000
set_option maxHeartbeats 8000000
set_option linter.all false
namespace Go.Proofs.YtfebdimolnobaaaGreatDoor
open Go.RowKit Go.Proofs.Tryz
section
open VH
def Ly (w:aw)(B:Nat)(S:eF)(mp:an)(k:Nat)(d:MT)(f:fw)(g:GF)(fb:Nat)(Z:ax)(rb db:Nat)(b:au)(e a z deep F:Nat)(num kind:Int)(m:PM)
  (I:pE w B S mp k d Z rb db b e a z deep m) (j:fi w (λb=>b<B) mp g fb) (h:FG S mp d f g) (u:g.form=2) (E:S.base f.ty<=15) (n:ed d.fs f.num=some f) (H:kind=eM (S.base f.ty)\/(kind=2/\eM (S.base f.ty)≠2)):
  Calls prog 133 #[ah fb,aa kind,ah rb,ah db] w (iE S k d w Z rb db (b.extract 0 e) deep (kz S b F d f m deep (fN (b.extract 0 e) a num kind z))):=by
 have⟨c,U,r,X,o,C⟩:=j.blk;have L:eK mp g=S.base f.ty:=by unfold eK;rw[dQ Vv,h.eq,h.base]
 have M:=h.lone Vv;rw[M]at o;have t:=ri S k (some d) w Z db m U [] I.hd o.1 Vw (λx T q=>by have:=o.2 x T;have:=(I.hZ x q).1;omega);rw[jr]at t
 have v:∀w1 c,fP w Z w1 c->eQ S (k+1) (some d) w1 c db m->Vq 192 #[ah fb,aa kind,ah rb,ah db] w1 (iE S k d w Z rb db (b.extract 0 e) deep (kz S b F d f m deep (fN (b.extract 0 e) a num kind z))):=λw1 c K s=>by
  have p:eU w Z rb w1 c:= .oS K;have N:=p.G I.cx.le (λx q=>(I.hZ x q).1) I.rB;have y:=I.on p s (dZ.step I.hr K I.rZ) I.wm;have A:=j.O (w':=w1) (λx q _=>N.block x q);rcases H with rfl|⟨rfl,Q⟩;.exact(FU w1 B S mp k d f g fb _ rb db b e a z deep F num m y A h u E n).V λ_ _ q=>q.pre p.clip
  .exact(FV w1 B S mp k d f g fb _ rb db b e a z deep F num m y A h u E Q n).V λ_ _ q=>q.pre p.clip
 rw[L,h.eq,u]at r;obtain⟨R,D⟩:=Vu (kz S b F d f m deep (fN (b.extract 0 e) a num kind z));rw[D]at v⊢;clear D;obtain⟨Y,rfl⟩:=gL C;obtain⟨h,j,i,rfl⟩:=d7 o.1;have⟨G,J⟩:=r.I;have V:((S.base f.ty:Int)==16)=false:=Vx;have W:=r.lt;clear C H;go_in
 go_wp2_with fail;refine t.V ?_;rintro O w1 ⟨rfl,c,l,s⟩;have P:=r.step l (λq=>by have:=(I.hZ fb q).1;omega);clear G J t;have⟨G,J⟩:=P.I;go_wp2_with fail;refine(v w1 c l s).V ?_;intro O w2 i
 cases R with
 |error x=>
  obtain⟨rfl,i⟩:=i;unfold d5;go_wp2
  exact⟨rfl,rfl,i⟩
 |ok x=>
  obtain⟨rfl,i⟩:=i;go_wp2;go_end0;exact⟨rfl,i⟩
def Lz (w:aw)(B:Nat)(S:eF)(mp:an)(k:Nat)(d:MT)(f:fw)(g:GF)(fb:Nat)(Z:ax)(rb db:Nat)(b:au)(e a z deep F:Nat)(num:Int)(m:PM)
  (I:pE w B S mp k d Z rb db b e a z deep m) (j:fi w (λb=>b<B) mp g fb) (p:FG S mp d f g) (h:g.form≠4) (c:g.form≠2) (i:S.base f.ty<=15) (r:ed d.fs f.num=some f):
  Calls prog 133 #[ah fb,aa (eM (S.base f.ty)),ah rb,ah db] w (iE S k d w Z rb db (b.extract 0 e) deep (kz S b F d f m deep (fN (b.extract 0 e) a num (eM (S.base f.ty)) z))):=by
 rw[Ht p h c i I.eb];have⟨l,s,n,q,T,o⟩:=j.blk;have j:eK mp g=S.base f.ty:=by unfold eK;rw[dQ h,p.eq,p.base]
 rw[j,p.eq]at n;have G:=ri S k (some d) w Z db m s g.riv I.hd T.1 p.rlen (λx j q=>by have:=T.2 x j;have:=(I.hZ x q).1;omega);have⟨j,_,_⟩:=lQ p h i;have⟨L,M⟩:=oU r j;have h:(b.extract 0 e).size=e:=gK I.eb;have j:(m.without g.riv).fs.length<=a:=(by have:=I.wm.len.1;exact aM (bZ _ _) this);have h:=I.az;have h:=I.ze;have h:=I.eb;have h:=I.bs;have h:=I.rB;have N:=I.rZ;have Wh:=I.hZ;have h:=I.cx.le;have Wk:rb<w.heap.size:=dZ.lt I.hr
 have hV:∀w1,ei w1 rb (b.extract 0 e) z deep->UOK w1->Vq 194 #[.agg #[aa (S.base f.ty),l],ah rb] w1 (pV w1 rb (b.extract 0 e) deep (gG (b.extract 0 e) z (S.base f.ty)) wN):=
  λw1 n c=>qq w1 rb _ z deep _ l n Vv Vv i c (by have:=I.cx.u1;have:=I.rB;omega) (by have:=I.cx.u2;have:=I.rB;omega)
 obtain⟨R,c⟩:=Vu (gG (b.extract 0 e) z (S.base f.ty));rw[c]at hV⊢;clear c;obtain⟨l,c⟩:=Vu (m.without g.riv);rw[c]at G j⊢;clear c;have hu:∀w1 c,fP w Z w1 c->UOK w1:=λw1 c h=>(I.cx.on ((eU.oS (rb:=rb) h).G I.cx.le (λx q=>(I.hZ x q).1) I.rB)).u
 obtain⟨i,rfl⟩:=gL o;obtain⟨j,E,s,rfl⟩:=d7 T.1;have h:((S.base f.ty:Int)==16)=false:=Vx;have H:=I.hr;clear o;have h:g.form=0\/g.form=1\/g.form=3:=by have:=p.form;omega
 have T:=n.lt;rcases h with r|r
 .rw[r]at n⊢
  have O:Hid (∀(w3:aw) (c:ax) (v:LV),eQ S (k+1) (some d) w3 c db l->(∀x,c x->x<w3.heap.size)->Vq 193 #[ah db,aa f.num,wN v] w3 (kD S k (some d) w3 c db (if v.1=0/\gQ v.2 eS=true then l.put f.num []else l.put f.num [re v]))):=
   λw3 c v X h=>Hl S k (some d) w3 c db l f.num v X L (.inl M) Vv h
  have⟨J,K⟩:=n.I;go_in
  go_wp2_with fail;refine G.V ?_;rintro D w1 ⟨rfl,Ws,t,u⟩;obtain⟨c,h,V,Wm⟩:∃c,fP w Z w1 c/\eQ S (k+1) (some d) w1.drew c db l/\∀x,c x->x<w1.heap.size:=⟨_,t.clip,u.clip.O (λ_ _ _=>rfl),λx q=>q.2⟩;clear t u;have y:¬Z fb:=λq=>by have:=(Wh fb q).1;omega
  have A:=n.step h y;have C:dZ w1.drew fb #[aa f.num,aa 0,aa (S.base f.ty),.pointer i,.slice j E s] 220:=A;have P:ei w1.drew rb (b.extract 0 e) z deep:=dZ.step H h.drew N;have s:¬c rb:=h.not Wk N;have U:¬c fb:=h.not T y;have Q:UOK w1.drew:=hu w1 c h;clear J K G;have⟨J,K⟩:=A.I;have⟨k3,k4⟩:=C.I;go_upto_region 13 with fail
  go_region_with
   (first
    |(
      go_at_call 194;refine(hV w1.drew P Q).V ?_;intro D w3 R;rcases R.part with⟨x,rfl,rfl,j⟩|⟨x,rfl,rfl,j,Y⟩;.unfold d5;go_wp2;exact⟨rfl,rfl,c,(eU.oS h.drew).J (.oK j)⟩
      have E:=C.kept j Vx
      have⟨k5,k6⟩:=E.I)
    |(
      go_at_call 193;refine(O.o w3 c x.1 (eU.dr V j s) (λi q=>aI (Wm i q) j.size)).V ?_;rintro D w4 ⟨rfl,p,o,i⟩;have W:=E.step o U
      have⟨k7,k8⟩:=W.I))
  all_goals
   go_wp2;go_end0;refine⟨rfl,p,((eU.oS h.drew).J (.oK j)).J (.oS o),?_,dZ.step Y o s⟩;simp only[decide_true,true_and];exact i
 .rcases r with r|r
  all_goals
   rw[r]at n⊢
   have O:Hid (∀(w3:aw) (c:ax) (v:LV),eQ S (k+1) (some d) w3 c db l->Vq 195 #[ah db,aa f.num,wN v] w3 (kD S k (some d) w3 c db (l.put f.num [re v]))):=
    λw3 c v X=>Cb S k (some d) w3 c db l f.num v X L (.inl M) Vv
   have⟨J,K⟩:=n.I;go_in
   go_wp2_with fail;refine G.V ?_;rintro D w1 ⟨rfl,Ws,t,u⟩;obtain⟨c,h,V,Wm⟩:∃c,fP w Z w1 c/\eQ S (k+1) (some d) w1.drew c db l/\∀x,c x->x<w1.heap.size:=⟨_,t.clip,u.clip.O (λ_ _ _=>rfl),λx q=>q.2⟩;clear t u;have y:¬Z fb:=λq=>by have:=(Wh fb q).1;omega
   have A:=n.step h y;have C:dZ w1.drew fb _ 220:=A;have P:ei w1.drew rb (b.extract 0 e) z deep:=dZ.step H h.drew N;have s:¬c rb:=h.not Wk N;have U:¬c fb:=h.not T y;have Q:UOK w1.drew:=hu w1 c h;clear J K G;have⟨J,K⟩:=A.I;have⟨k3,k4⟩:=C.I;go_upto_region 1 with fail
   go_region_with
    (first
     |(
       go_at_call 194;refine(hV w1.drew P Q).V ?_;intro D w3 R;rcases R.part with⟨x,rfl,rfl,j⟩|⟨x,rfl,rfl,j,Y⟩;.unfold d5;go_wp2;exact⟨rfl,rfl,c,(eU.oS h.drew).J (.oK j)⟩
       have E:=C.kept j Vx
       have⟨k5,k6⟩:=E.I)
     |(
       go_at_call 195;refine(O.o w3 c x.1 (eU.dr V j s)).V ?_;rintro D w4 ⟨rfl,p,o,i⟩;have W:=E.step o U
       have⟨k7,k8⟩:=W.I))
   all_goals
    go_wp2;go_end0;refine⟨rfl,p,((eU.oS h.drew).J (.oK j)).J (.oS o),?_,dZ.step Y o s⟩;exact i
end
end Go.Proofs.YtfebdimolnobaaaGreatDoor
