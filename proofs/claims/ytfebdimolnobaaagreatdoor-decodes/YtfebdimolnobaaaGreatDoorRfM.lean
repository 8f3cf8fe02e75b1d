import Derived.Test.YtfebdimolnobaaaGreatDoorPxE
set_option maxRecDepth 100000
set_option maxHeartbeats 8000000
set_option linter.all false
namespace Go.Proofs.YtfebdimolnobaaaGreatDoor
open Go.RowKit Go.Proofs.Tryz
section
variable (w:aw) {wx:aw} {d:MT} {fv mv:Value} {f:fB} {m:PM} {r:pO} {s:au}
def oA (w:aw)(xb:Nat)(b:au)(k:Nat)(Z:ax)(r:Fx PM)(en:Ending)(w':aw):Prop:=
 match r with
 | .ok m=>∃mv,en= .returned (.agg #[mv,ae m.unk])/\gQ k w' Z mv m/\aj w w'
 | .error (c,p)=>(∃a n c u,en= .returned (.agg #[.slice a n c,ae u]))/\kr w' xb b c p/\c≠0/\dY [xb] w w'
structure FB (w wx:aw)(d:MT)(fv:Value)(f:fB)(mv:Value)(m:PM)(r:pO):Prop where
 b9:dP wx w.heap.size #[ae d.name,fv] 111
 b10:dP wx (w.heap.size+1) #[ae f.name,ae f.ty,ae f.key,ae f.how,aa f.num] 178
 b11:dP wx (w.heap.size+1+1) #[mv,ae m.unk] 49
 b12:dP wx (w.heap.size+1+1+1) #[aa r.num,aa r.kind,aa r.a,aa r.fr,aa r.e,.int .u64 r.n] 339
 b14:dP wx (w.heap.size+1+1+1+1) #[ah,S8] 49
theorem FB.on {w wy:aw}(h:FB w wx d fv f mv m r)(a:Below wx.heap.size wx wy):FB w wy d fv f mv m r:=
 ⟨h.b9.G a h.b9.lt,h.b10.G a h.b10.lt,h.b11.G a h.b11.lt,h.b12.G a h.b12.lt,h.b14.G a h.b14.lt⟩
theorem FB.kept {w wy:aw}{xb:Nat}(h:FB w wx d fv f mv m r)(a:dY [xb] wx wy)(b:xb<w.heap.size):FB w wy d fv f mv m r:=
 ⟨h.b9.kept a Tg,h.b10.kept a Tg,h.b11.kept a Tg,h.b12.kept a Tg,h.b14.kept a Tg⟩
theorem FB.other {w:aw}(h:FB w wx d fv f mv m r){c:Nat}(a:w.heap.size+5<=c)(off:Nat)(u:Value):FB w (wx.setCell (ai c off) u) d fv f mv m r:=
 ⟨h.b9.other off u Te,h.b10.other off u Te,h.b11.other off u Te,h.b12.other off u Te,h.b14.other off u Te⟩
theorem FB.sets11 {w:aw}(h:FB w wx d fv f mv m r)(m2:PM)(a:m2.unk=m.unk)(mv2:Value):FB w (wx.setCells (w.heap.size+1+1) 0 [mv2,ae m.unk]) d fv f mv2 m2 r:=
 ⟨h.b9.sets_other Te [_,_] 0,h.b10.sets_other Te [_,_] 0,by rw[a];exact h.b11.sets_all [_,_] rfl,h.b12.sets_other Te [_,_] 0,h.b14.sets_other Te [_,_] 0⟩
theorem FB.size {w:aw}(h:FB w wx d fv f mv m r):w.heap.size+5<=wx.heap.size:=by
 have:=h.b14.lt;omega
theorem FB.start (d:MT)(fv:Value)(f:fB)(mv:Value)(m:PM)(r:pO):
  FB w (((((w.alloc (ak #[ae d.name,fv] 111)).alloc (ak #[ae f.name,ae f.ty,ae f.key,ae f.how,aa f.num] 178)).alloc (ak #[mv,ae m.unk] 49)).alloc (ak #[aa r.num,aa r.kind,aa r.a,aa r.fr,aa r.e,.int .u64 r.n] 339)).alloc (ak #[ah,S8] 49)) d fv f mv m r:=by
 refine⟨((((dP.new w _ _).alloc _).alloc _).alloc _).alloc _,(((dP.new1 w _ _ _).alloc _).alloc _).alloc _,((dP.new2 w _ _ _ _).alloc _).alloc _,?_,?_⟩;.have:=(dP.new (((w.alloc (ak #[ae d.name,fv] 111)).alloc (ak #[ae f.name,ae f.ty,ae f.key,ae f.how,aa f.num] 178)).alloc (ak #[mv,ae m.unk] 49)) #[aa r.num,aa r.kind,aa r.a,aa r.fr,aa r.e,.int .u64 r.n] 339).alloc (ak #[ah,S8] 49);simpa using this
 .have:=dP.new ((((w.alloc (ak #[ae d.name,fv] 111)).alloc (ak #[ae f.name,ae f.ty,ae f.key,ae f.how,aa f.num] 178)).alloc (ak #[mv,ae m.unk] 49)).alloc (ak #[aa r.num,aa r.kind,aa r.a,aa r.fr,aa r.e,.int .u64 r.n] 339)) #[ah,S8] 49;simpa using this
theorem NA (h:1<=s.size):((s.extract 0 1).toList== [46])=iL s:=by
 unfold iL;rw[<-gX (t:=s) (k:=0) Te,ByteArray.toList_eq,cT,Array.toList_extract];have a:0<s.data.toList.length:=by simp;exact h
 have e:s[0]=s.data.toList[0]:=rfl;rw[e]
 match hq:s.data.toList,a with
 |x::l,_=>
  have c:(x::l)[0]=x:=rfl;simp only[List.extract_eq_take_drop,List.drop_zero,Nat.sub_zero,List.take_succ_cons,List.take_zero,aH];rw[bV];simp only[beq_iff_eq,List.cons.injEq,and_true];constructor;.intro h;rw[h];rfl
  .intro h;apply UInt8.toNat_inj.1;have b:(x.toNat:Int)=((46:Nat):Int):=h;exact Int.ofNat.inj b
theorem Lq (h:¬1<=s.size):iL s=false:=by
 unfold iL fR;rw[dif_neg Te];rfl
theorem E3 {fs:List fB}{j:Nat}{o:fB}(h:fs[j]?=some o)(m:PM):
  iG f (fs.drop j) m=iG f (fs.drop (j+1)) (if gP o.how f.how&&iL o.how&&decide (o.num≠f.num)then m.put o.num []else m):=by
 have a:=gl h;rw[aS a];rw[aP a]at h;cases h;rfl
theorem NB (xb sb:Nat)(b:au)(p0:Int)(P Z:ax)(S:eE)(d:MT)(f:fB)(m:PM)(r:pO)(k deep F:Nat)(fv mv:Value)
  (KX:kr w xb b 0 p0) (HS:iE w P sb S) (hP:∀b,w.heap.size<=b->P b) (hE:Bo S) (hle:S.es.length<=4000) (hlm:S.ms.length<=4000)
  (hfd:kB w P fv d.fs) (hdl:d.fs.length<=4000) (h:gQ (k+2) w Z mv m) (hZ:∀b,w.heap.size<=b->Z b) (Vd:¬Z xb)
  (hsz:b.size<=268435456) (hrf:r.fr<=r.e) (hre:r.e<=b.size) (hn0:0<=r.n) (hn1:r.n<2^64) (hkd:k+deep=8) (hml:m.fs.length<=268435456) (hgl:(m.get f.num).length<=268435456)
  (hKo:f.isMap=true->∀x∈m.get f.num,Ij x)
  (hKn:f.isMap=true->∀sub sm,fS S f=some sub->pz S b F sub (eP f m).2.2 r.fr r.e (deep+1)= .ok sm->Ij ((eP f m).1,(eP f m).2.1,fY sm)/\sm.fs.length<=268435456)
  (HM:∀(w1:aw) (Y:ax) (sub:MT) (sv mv1:Value),fS S f=some sub->kr w1 xb b 0 p0->iE w1 P sb S->(∀b,w1.heap.size<=b->P b)->kB w1 P sv sub.fs->gQ (k+1) w1 Y mv1 (eP f m).2.2->(∀b,w1.heap.size<=b->Y b)->¬Y xb->
   S9 149 #[ag xb,ag sb,.agg #[ae sub.name,sv],.agg #[mv1,ae (eP f m).2.2.unk],aa r.fr,aa r.e,aa ((deep:Int)+1)] w1 (oA w1 xb b (k+1) Y (pz S b F sub (eP f m).2.2 r.fr r.e (deep+1)))):
  Calls prog 224 #[ag xb,ag sb,.agg #[ae d.name,fv],.agg (fI f).toArray,.agg #[mv,ae m.unk],.agg (kF r),aa deep] w (oA w xb b (k+2) Z (rj S b F d f m r deep)):=by
 obtain⟨ma,mc,rfl⟩:=h.form;obtain⟨fa,fc,rfl⟩:=hfd.form;have Uf:xb<w.heap.size:=dP.lt KX;have F0:=FB.start w d (.slice fa d.fs.length fc) f (.slice ma m.fs.length mc) m r
 have B0:aj w (((((w.alloc (ak #[ae d.name,.slice fa d.fs.length fc] 111)).alloc (ak #[ae f.name,ae f.ty,ae f.key,ae f.how,aa f.num] 178)).alloc (ak #[.slice ma m.fs.length mc,ae m.unk] 49)).alloc (ak #[aa r.num,aa r.kind,aa r.a,aa r.fr,aa r.e,.int .u64 r.n] 339)).alloc (ak #[ah,S8] 49)):=
  ((((Tc w _).alloc Tf _).alloc Tg _).alloc Tg _).alloc Tg _
 obtain⟨R,hR⟩:=Td (xh S b F f m r deep);have HR:Hid (xh S b F f m r deep=R):=hR;have HF:Hid (rj S b F d f m r deep=CK S d f m R):=by unfold rj;rw[hR];rfl
 clear hR;unfold fI kF;go_in
 go_upto_region 1 with fail
 generalize((((w.alloc (ak #[ae d.name,.slice fa d.fs.length fc] 111)).alloc (ak #[ae f.name,ae f.ty,ae f.key,ae f.how,aa f.num] 178)).alloc (ak #[.slice ma m.fs.length mc,ae m.unk] 49)).alloc (ak #[aa r.num,aa r.kind,aa r.a,aa r.fr,aa r.e,.int .u64 r.n] 339)).alloc (ak #[ah,S8] 49)=w1 at*;have⟨O,Q⟩:=F0.b10.I;have⟨V,W⟩:=F0.b11.I;go_wp2_with fail;refine(FY w w1 B0 (k+1) Z _ m m.unk f.num h Te).V ?_;rintro e w2 ⟨ov,rfl,Uu,B2⟩;obtain⟨oa,oc,rfl⟩:=Uu.form;have F2:=F0.on B2;have B3:=dL B0 B2;clear O Q V W F0;have F3:=F2.on ((Tb w2).alloc (aD _) (ak #[.int .u64 0,S8,ah,S8] 55));have B4:=dL B3 ((Tb w2).alloc (aD _) (ak #[.int .u64 0,S8,ah,S8] 55));have I:=dP.new w2 #[.int .u64 0,S8,ah,S8] 55;have hc16:w.heap.size+5<=w2.heap.size:=F2.size;go_upto_region 3 with fail
 generalize w2.alloc (ak #[.int .u64 0,S8,ah,S8] 55)=w3 at*;generalize w2.heap.size=kK at*;clear F2 B3 B2 B0;have⟨O,Q⟩:=F3.b10.I;have UO:=HS.G B4;go_wp2_with fail;refine(RO w3 P sb S f UO hlm (λb a=>hP b (aL B4.size a))).V ?_;intro e w4 TZ
 have TR:∃sn sa sl sc,e= .returned (.tuple #[.agg #[ae sn,.slice sa sl sc],.bool (fS S f).isSome])/\Hid (∀sub,fS S f=some sub->sn=sub.name/\kB w4 P (.slice sa sl sc) sub.fs)/\aj w3 w4:=by
  cases hsub:fS S f with
  |none=>
   rw[hsub]at TZ;obtain⟨rfl,B5⟩:=TZ
   exact⟨_,none,0,0,rfl,(λsub h=>by cases h),B5⟩
  |some sub=>
   rw[hsub]at TZ;obtain⟨sv,rfl,TC,B5⟩:=TZ;obtain⟨sa,sc,rfl⟩:=TC.form;exact⟨_,_,_,_,rfl,(λsub2 h=>by cases h;exact⟨rfl,TC⟩),B5⟩
 clear TZ;obtain⟨is,Uv⟩:=Td ((fS S f).isSome);have T7:Hid ((fS S f).isSome=is):=Uv;rw[Uv]at TR;clear Uv;obtain⟨sn,sa,sl,sc,rfl,Uw,B5⟩:=TR;have q:=(F3.on B5).on ((Tb w4).alloc (aD _) (ak #[ae sn,.slice sa sl sc] 111));have E:=dL (dL B4 B5) ((Tb w4).alloc (aD _) (ak #[ae sn,.slice sa sl sc] 111));have N:=(I.G B5 I.lt).alloc (ak #[ae sn,.slice sa sl sc] 111);have TD:=dP.new w4 #[ae sn,.slice sa sl sc] 111;have hc17:kK<w4.heap.size:=aI I.lt B5.size;have Tx:Hid (∀sub,fS S f=some sub->sn=sub.name/\kB (w4.alloc (ak #[ae sn,.slice sa sl sc] 111)) P (.slice sa sl sc) sub.fs):=λsub h=>⟨(Uw.o sub h).1,(Uw.o sub h).2.G (Tc w4 _)⟩
 obtain⟨Y,hY⟩:∃Y:ax,Y=λb=>(Z b/\b<w.heap.size)\/kK<b:=⟨_,rfl⟩
 have T8:Hid (∀b,Y b->Z b):=λb a=>by rw[hY]at a;rcases a with a|a;exact a.1;exact hZ b Te
 have TS:Hid (∀b,kK<b->Y b):=λb a=>by rw[hY];exact .inr a
 have Tv:Hid (¬Y kK):=λa=>by rw[hY]at a;rcases a with a|a<;>omega
 have TL:Hid (∀b,w.heap.size<=b->b<=kK->¬Y b):=λb n z a=>by rw[hY]at a;rcases a with a|a<;>omega
 have U1:Hid (¬Y xb):=λa=>by rw[hY]at a;rcases a with a|a;exact Vd a.1;omega
 have UP:gQ (k+2) w Y (.slice ma m.fs.length mc) m:=h.V (λb a hl=>by rw[hY];exact .inl ⟨a,hl⟩);have TE:fk (gQ (k+1) w Y) w Y (.slice oa (m.get f.num).length oc) (m.get f.num):=Uu.V (λ_ _ h=>h.V (λb a hl=>by rw[hY];exact .inl ⟨a,hl⟩)) (λb a hl=>by rw[hY];exact .inl ⟨a,hl⟩);clear hY Uw F3 B4 UO I h Uu O Q;go_upto_block 0 with fail
 generalize w4.alloc (ak #[ae sn,.slice sa sl sc] 111)=w5 at*;generalize w4.heap.size=FF at*;clear B5
 go_cut []from 33 to 98 (λt=>FB w t d (.slice fa d.fs.length fc) f (.slice ma m.fs.length mc) m r/\
  (
   (∃(v:PV) (UC:Value),Hid (R= .ok v)/\dP t kK #[.int .u64 v.1,ae v.2.1,UC,ae v.2.2.unk] 55/\gQ (k+1) t Y UC v.2.2/\kr t xb b 0 p0/\aj w t)\/ (∃(c p:Int) (q0 q1 q2 q3:Value),c≠0/\Hid (R= .error (c,p))/\dP t kK #[q0,q1,q2,q3] 55/\kr t xb b c p/\dY [xb] w t)))
 case first=>
  have K:=KX.G E Uf;have UQ:=HS.G E;have⟨O,Q⟩:=q.b10.I;have⟨V,W⟩:=q.b12.I;have⟨y5,y6⟩:=N.I;have⟨y7,y8⟩:=TD.I;have TF:dP w5 xb #[ae b,aa 0,aa p0] 279:=K;have⟨y9,Ua⟩:=TF.I;cases is
  .have U2:Hid (fS S f=none):=by
    have:=T7.o
    cases hs:fS S f with
    |none=>rfl
    |some x=>rw[hs]at this;cases this
   have J:Hid (R=rg S b f r):=by rw[<-HR.o,xh,U2.o];rfl
   clear HR Tx;by_cases hk2:r.kind=2
   .have Ug:((r.kind:Int)==2)=true:=by simp[hk2]
    have Uh:Hid (r.kind=2):=hk2;clear hk2;have hbe:(r.e:Int)<=(b.size:Int):=Te;have hfe:(r.fr:Int)<=(r.e:Int):=Te;go_upto_region 10 with fail
    go_cut []from 33 to 98 (λt=>t=(w5.setCell (ai kK 1) (ae (b.extract r.fr r.e))).drew)
    case first=>
     go_region
     all_goals
      go_wp2;go_meet
      case rel=>rfl
    case rest=>
     obtain rfl:=hcut;have F6:=(q.other (c:=kK) Te 1 (ae (b.extract r.fr r.e))).on (Below.refl _ _).drew;have Ty:=(N.set 1 (ae (b.extract r.fr r.e))).drew;have Ui:kr (w5.setCell (ai kK 1) (ae (b.extract r.fr r.e))).drew xb b 0 p0:=(dP.other K 1 _ Te).drew;have H:=(E.setCell (p:=(ai kK 1)) Tg (ae (b.extract r.fr r.e))).drew;generalize(w5.setCell (ai kK 1) (ae (b.extract r.fr r.e))).drew=w6 at*;clear O Q V W y5 y6 y7 y8 y9 Ua;have⟨O,Q⟩:=F6.b10.I;have⟨V,W⟩:=F6.b12.I;have⟨y5,y6⟩:=Ty.I;go_wp2_with fail;refine(PA _ (b.extract r.fr r.e) (by rw[aU];omega)).V ?_;rintro e _ ⟨rfl,rfl⟩;obtain⟨U,hU⟩:=Td (Qx (b.extract r.fr r.e));have HU:Hid (Qx (b.extract r.fr r.e)=U):=hU;rw[hU];clear hU;cases hs:(f.ty.toList== [115,116,114,105,110,103])
     .have TG:Hid (R= .ok (0,b.extract r.fr r.e,PM.none)):=(by rw[J.o,rg,dH Uh.o,gP,uj,hs];rfl);go_wp2;go_meet
      case rel=>exact⟨F6,.inl ⟨_,ah,TG,Ty,gQ.none k _ _,Ui,H⟩⟩
     .cases U
      .have TG:Hid (R= .error (10,(r.fr:Int))):=(by rw[J.o,rg,dH Uh.o,gP,uj,hs,HU.o];rfl);go_wp2_with fail;refine(ku _ xb b 0 p0 10 r.fr Ui rfl).V ?_;rintro e L ⟨rfl,Ve,Ux⟩;go_wp2;go_meet
       case rel=>exact⟨F6.kept Ux Uf,.inr ⟨10,r.fr,_,_,_,_,Th,TG,Ty.kept Ux Tg,Ve,(dY.oB H).J Ux⟩⟩
      .have TG:Hid (R= .ok (0,b.extract r.fr r.e,PM.none)):=(by rw[J.o,rg,dH Uh.o,gP,uj,hs,HU.o];rfl);go_wp2;go_meet
       case rel=>exact⟨F6,.inl ⟨_,ah,TG,Ty,gQ.none k _ _,Ui,H⟩⟩
   .have Ug:¬(r.kind:Int)=2:=Te;have TG:Hid (R= .ok (jc (S.base f.ty) r.n,eS,PM.none)):=by rw[J.o,rg,dG hk2];rfl
    go_wp2_with fail;refine(tq _ P sb S f.ty r.n UQ hE hle hn0 hn1).V ?_;rintro e _ ⟨rfl,rfl⟩;go_wp2;go_meet
    case rel=>exact⟨q.other Te 0 _,.inl ⟨_,ah,TG,N.set 0 _,gQ.none k _ _,dP.other K 0 _ Te,E.setCell (p:=(ai kK 0)) Tg _⟩⟩
  .obtain⟨sub,Uy⟩:∃sub,Hid (fS S f=some sub):=by
    have:=T7.o
    cases hs:fS S f with
    |none=>rw[hs]at this;cases this
    |some x=>exact⟨x,rfl⟩
   have⟨Vf,TC⟩:=Tx.o sub Uy.o;subst Vf;have J:Hid (R=match pz S b F sub (eP f m).2.2 r.fr r.e (deep+1)with| .error x=> .error x| .ok sm=> .ok ((eP f m).1,(eP f m).2.1,sm)):=(by rw[<-HR.o,xh,Uy.o];rfl);clear HR Tx T7;have Uj:=TE.G E (aD _);obtain⟨vcs,UV,UW⟩:=Uj;obtain⟨B,hB⟩:=Td ((decide (0<(m.get f.num).length)&&(!(f.how.toList== [114,101,112,101,97,116,101,100])&& !(f.how.toList== [109,97,112]))));have HB:Hid ((decide (0<(m.get f.num).length)&&(!(f.how.toList== [114,101,112,101,97,116,101,100])&& !(f.how.toList== [109,97,112])))=B):=hB;clear hB;go_upto_region 6 with fail
   go_cut [54]from 33 to 98 (λVg t=>Vg= .bool B/\t=w5)
   case first=>
    by_cases hg0:0<(m.get f.num).length
    .have Uk:(0:Int)<((m.get f.num).length:Int):=Te;cases n:(f.how.toList== [114,101,112,101,97,116,101,100])
     .cases z:(f.how.toList== [109,97,112])
      .obtain rfl:B=true:=by rw[<-HB.o,n,z];simp[hg0]
       go_wp2;go_meet
       case rel=>exact⟨rfl,rfl⟩
      .obtain rfl:B=false:=by rw[<-HB.o,n,z];simp
       go_wp2;go_meet
       case rel=>exact⟨rfl,rfl⟩
     .obtain rfl:B=false:=by rw[<-HB.o,n];simp
      go_wp2;go_meet
      case rel=>exact⟨rfl,rfl⟩
    .obtain rfl:B=false:=by rw[<-HB.o];simp;omega
     have Uk:¬(0:Int)<((m.get f.num).length:Int):=Te;go_wp2;go_meet
     case rel=>exact⟨rfl,rfl⟩
   case rest=>
    obtain⟨rfl,T0⟩:=hcut;obtain rfl:=T0.sy;obtain⟨X,Uz⟩:=Td (eP f m);have UR:Hid (eP f m=X):=Uz;rw[Uz]at J HM;clear Uz;go_upto_if 54 with fail
    go_cut []from 33 to 98 (λt=>∃UA,FB w t d (.slice fa d.fs.length fc) f (.slice ma m.fs.length mc) m r/\dP t kK #[.int .u64 X.1,ae X.2.1,UA,ae X.2.2.unk] 55/\gQ (k+1) t Y UA X.2.2/\kr t xb b 0 p0/\dP t FF #[ae sub.name,.slice sa sl sc] 111/\kB t P (.slice sa sl sc) sub.fs/\aj w t)
    case first=>
     cases B
     .have e0:X=PV.none:=by
       rw[<-UR.o,eP];have a:=HB.o;cases n:(f.how.toList== [114,101,112,101,97,116,101,100])
       .cases z:(f.how.toList== [109,97,112])
        .rw[n,z]at a
         have hz:(m.get f.num)= []:=by
          cases hq:m.get f.num with
          |nil=>rfl
          |cons x y=>rw[hq]at a;simp at a
         rw[hz];split<;>rfl
        .have:f.isMap=true:=by unfold fB.isMap gP;rw[jb];exact z
         rw[this];simp
       .have:f.isRep=true:=by unfold fB.isRep gP;rw[mh];exact n
        rw[this];simp
      subst e0;go_wp2;go_meet
      case rel=>exact⟨ah,q,N,gQ.none k _ _,K,TD,TC,E⟩
     .obtain⟨x,rest,HX⟩:∃x rest,Hid (m.get f.num=x::rest):=by
       have a:=HB.o
       cases hq:m.get f.num with
       |nil=>rw[hq]at a;simp at a
       |cons x y=>exact⟨x,y,rfl⟩
      have e0:X=x:=by
       have a:=HB.o;rw[<-UR.o,eP]
       have n:f.isRep=false:=by
        unfold fB.isRep gP;rw[mh];cases n:(f.how.toList== [114,101,112,101,97,116,101,100]);.rfl
        .rw[n]at a;simp at a
       have z:f.isMap=false:=by
        unfold fB.isMap gP;rw[jb];cases z:(f.how.toList== [109,97,112]);.rfl
        .rw[z]at a;simp at a
       rw[n,z,HX.o];rfl
      subst e0;have hlen0:(0:Int)<((m.get f.num).length:Int):=by rw[HX.o];simp
      have⟨xm,p1,p2,p3,p4,p5⟩:=UW.get (i:=0) (v:=X) (by rw[HX.o];rfl);obtain⟨xa,xc,rfl⟩:=p1.form;obtain⟨g,rfl,_,hg,Ts⟩:=dV UV.1 (by rw[HX.o];simp);have c0:=Ts w5 rfl _ _ p2;have c1:=Ts w5 rfl _ _ p3;have c2:=Ts w5 rfl _ _ p4;have c3:=Ts w5 rfl _ _ p5;simp only[Nat.zero_mul,dg]at c0 c1 c2 c3;clear Ts p2 p3 p4 p5;go_wp2;go_meet
      case rel=>
       refine⟨_,?_,N.sets_all [_,_,_,_] rfl,p1.O (λb a _=>eI (c:=kK) _ b (λe=>Tv.o (by subst e;exact a)) [_,_,_,_] 0),dP.sets_other K Te [_,_,_,_] 0,TD.sets_other Te [_,_,_,_] 0,TC.sets N Th [_,_,_,_] 0,fH Te [_,_,_,_] 0 E⟩;exact(((q.other Te 0 _).other Te 1 _).other Te 2 _).other Te 3 _
    case rest=>
     clear q N K TD TC E O Q V W y5 y6 y7 y8 y9 Ua UV UW TF UQ;obtain⟨UA,q,N,Ub,K,TD,TC,E⟩:=hcut;obtain⟨na,nc,rfl⟩:=Ub.form;have⟨V,W⟩:=q.b12.I;have⟨y5,y6⟩:=N.I;have⟨y7,y8⟩:=TD.I;have hdi:(deep:Int)<=8:=Te;go_wp2_with fail;refine(HM wc Y sub _ _ Uy.o K (HS.G E) (λb a=>hP b (aL E.size a)) TC Ub (λb a=>TS.o b (aI N.lt a)) U1.o).V ?_;intro e C Uc
     cases hmp:pz S b F sub X.2.2 r.fr r.e (deep+1)with
     |error xx=>
      obtain⟨c,p⟩:=xx;rw[hmp]at Uc;obtain⟨⟨ea,en_,ec,eu,rfl⟩,Vh,hc,UB⟩:=Uc;have HE:Hid (R= .error (c,p)):=by rw[J.o,hmp];rfl
      have Tw:=N.kept UB Tg;have⟨z1,z2⟩:=Tw.I;have l:=q.kept UB Uf;go_wp2;go_meet
      case rel=>exact⟨(l.other Te 2 _).other Te 3 _,.inr ⟨c,p,_,_,_,_,hc,HE,(Tw.set 2 _).set 3 _,dP.other (dP.other Vh 2 _ Te) 3 _ Te,(((dY.oB E).J UB).fresh Te 2 _).fresh Te 3 _⟩⟩
     |ok sm=>
      rw[hmp]at Uc;obtain⟨Ud,rfl,G,u⟩:=Uc;obtain⟨ea,ec,rfl⟩:=G.form;have HE:Hid (R= .ok (X.1,X.2.1,sm)):=by rw[J.o,hmp];rfl
      have Tw:=N.G u N.lt;have⟨z1,z2⟩:=Tw.I;have l:=q.on u;go_wp2;go_meet
      case rel=>
       refine⟨(l.other Te 2 _).other Te 3 _,.inl ⟨_,_,HE,(Tw.set 2 _).set 3 _,?_,dP.other (dP.other (K.G u (dP.lt K)) 2 _ Te) 3 _ Te,((dL E u).setCell (p:=(ai kK 2)) Tg _).setCell (p:=(ai kK 3)) Tg _⟩⟩;exact G.O (λb a _=>(Below.heap_setCell _ _ _ _ (λe=>Tv.o (by have e2:b=kK:=e;subst e2;exact a))).J (Below.heap_setCell _ _ _ _ (λe=>Tv.o (by have e2:b=kK:=e;subst e2;exact a))))
 case rest=>
  clear q E N TD Tx HM;obtain⟨q,hr⟩:=hcut;rcases hr with⟨v,UC,J,I,T4,K,E⟩|⟨c,p,q0,q1,q2,q3,hc,J,I,K,Vi⟩
  .obtain⟨va,vc,rfl⟩:=T4.form;have Ul:=UP.G E (aD _);have Um:=TE.G E (aD _);have TF:dP wc xb #[ae b,aa 0,aa p0] 279:=K;have⟨x1,x2⟩:=TF.I;have⟨O,Q⟩:=q.b10.I;have⟨V,W⟩:=q.b11.I;have⟨y5,y6⟩:=I.I;have⟨y7,y8⟩:=q.b14.I;have TT:Hid (rj S b F d f m r deep= .ok (g9 S d f m v)):=by rw[HF.o,J.o];rfl
   have hsz5:=q.size;have TM:Hid (∀(wq:aw),wc.heap.size<=wq.heap.size->∀b,wq.heap.size<=b->Y b):=λwq hq b a=>TS.o b (by have:=I.lt;omega)
   cases hmap:(f.how.toList== [109,97,112])
   .cases hrep:(f.how.toList== [114,101,112,101,97,116,101,100])
    .obtain⟨T,hT⟩:=Td (((f.how.toList== [])&&(!is&&(v.1==0&&(v.2.1.toList== [])))));have HT:Hid (((f.how.toList== [])&&(!is&&(v.1==0&&(v.2.1.toList== []))))=T):=hT
     have TH:Hid (g9 S d f m v=if T then m.put f.num []else(iG f d.fs m).put f.num [v]):=by
      unfold g9 fB.isMap fB.isRep gP;rw[jb,mh,hmap,hrep,<-hT,tm];have e1:(fS S f).isNone= !is:=by rw[<-T7.o];cases fS S f<;>rfl
      have e2:decide (v.1=0)=(v.1==0):=by rw[bV];simp
      rw[e1,e2];simp only[Bool.and_assoc];rfl
     clear hT;go_upto_region 21 with fail
     go_cut [135]from 106 to 200 (λUD t=>UD= .bool T/\t=wc)
     case first=>
      obtain rfl:=HT.o;clear HT TH TT HF J HR;cases n:(f.how.toList== [])
      .go_wp2;go_meet
       case rel=>exact⟨by rw[n];rfl,rfl⟩
      .cases is
       .cases z:(v.1==0)
        .have h2i:¬v.1=0:=by simpa using z
         go_wp2;go_meet
         case rel=>exact⟨by rw[n,z];rfl,rfl⟩
        .cases h3:(v.2.1.toList== [])
         .go_wp2;go_meet
          case rel=>exact⟨by rw[n,z,h3];rfl,rfl⟩
         .go_wp2;go_meet
          case rel=>exact⟨by rw[n,z,h3];rfl,rfl⟩
       .go_wp2;go_meet
        case rel=>exact⟨by rw[n];rfl,rfl⟩
     case rest=>
      obtain⟨rfl,T0⟩:=hcut;obtain rfl:=T0.sy;cases T
      .have Un:=hfd;have hvY:=T4;have HD:Hid (iG f (d.fs.drop 0) m=iG f d.fs m):=rfl;clear x1 x2 O Q V W y5 y6 y7 y8 TF;go_wp2;go_loopw [20] (λi wr=>∃(j:Nat) (s:PM) (a2:aC) (c2:Nat),j<=d.fs.length/\i=aa j/\Hid (iG f (d.fs.drop j) s=iG f d.fs m)/\Hid (s.unk=m.unk)/\s.fs.length<=m.fs.length/\FB w wr d (.slice fa d.fs.length fc) f (.slice a2 s.fs.length c2) s r/\dP wr kK (S5 v va vc) 55/\gQ (k+2) wr Y (.slice a2 s.fs.length c2) s/\gQ (k+1) wr Y (.slice va v.2.2.fs.length vc) v.2.2/\aj w wr) (λi _=>d.fs.length-(intOf i).toNat)
       case atStart=>exact⟨0,m,_,_,aM _,rfl,HD,rfl,aD _,q,I,Ul,T4,E⟩
       case round=>
        obtain⟨j,s,a2,c2,hj,rfl,UE,UX,Vj,F2,K2,z,UF,B2⟩:=hrel;have⟨O,Q⟩:=F2.b10.I;have⟨V,W⟩:=F2.b11.I;have⟨y5,y6⟩:=K2.I;have⟨y7,y8⟩:=F2.b14.I;have⟨y9,Ua⟩:=F2.b9.I;by_cases T6:j<d.fs.length
        .have hli:(j:Int)<(d.fs.length:Int):=Te;have⟨o,ho⟩:=gx T6;obtain⟨g,rfl,hPg,hg,Ts⟩:=Un.get ho;have⟨t0,t1,t2,t3,t4⟩:=Ts wr (B2.block g hg);clear Ts;have A:=(Tb wr).alloc (aD _) (ak #[ae o.name,ae o.ty,ae o.key,ae o.how,aa o.num] 178);have F3:=F2.on A;have K3:=K2.G A K2.lt;have h3:=z.G A (aD _);have US:=UF.G A (aD _);have B3:=dL B2 A;have U3:=dP.new wr #[ae o.name,ae o.ty,ae o.key,ae o.how,aa o.num] 178;go_upto_region 27 with fail
         generalize wr.alloc (ak #[ae o.name,ae o.ty,ae o.key,ae o.how,aa o.num] 178)=wq at*;generalize wr.heap.size=RA at*;clear O Q V W y5 y6 y7 y8 y9 Ua t0 t1 t2 t3 t4 A F2 K2 z UF B2;have⟨O,Q⟩:=F3.b10.I;have⟨V,W⟩:=F3.b11.I;have⟨y5,y6⟩:=U3.I;obtain⟨D,hD⟩:=Td (((o.how.toList==f.how.toList)&&iL o.how&&decide (o.num≠f.num)));have UT:Hid (((o.how.toList==f.how.toList)&&iL o.how&&decide (o.num≠f.num))=D):=hD;have Uo:Hid (iG f (d.fs.drop (j+1)) (if D then s.put o.num []else s)=iG f d.fs m):=(by rw[<-hD,<-UE.o,E3 ho];rfl);clear hD UE;go_cut [190]from 157 to 194 (λUG t=>UG= .bool D/\t=wq)
         case first=>
          obtain rfl:=UT.o;clear UT Uo;cases he:(o.how.toList==f.how.toList)
          .go_wp2;go_meet
           case rel=>exact⟨by rw[he];rfl,rfl⟩
          .by_cases hs1:1<=o.how.size
           .have U4:min (1:Int) (o.how.size:Int)=1:=Te;have TN:=(NA hs1).sy;cases z:((o.how.extract 0 1).toList== [46])
            .rw[z]at TN;have T9:Hid (iL o.how=false):=TN;clear TN;go_wp2;go_meet
             case rel=>exact⟨by rw[he,T9.o];rfl,rfl⟩
            .rw[z]at TN;have T9:Hid (iL o.how=true):=TN;clear TN;by_cases h3:o.num=f.num
             .have h3b:(o.num==f.num)=true:=by simp[h3]
              have Up:decide (o.num≠f.num)=false:=by simp[h3]
              have Uq:Hid ((o.num !=f.num)=false):=by show(o.num !=f.num)=false;simp[h3]
              clear h3;go_wp2;go_meet
              case rel=>exact⟨by rw[he,T9.o,Up,Uq.o];rfl,rfl⟩
             .have Up:decide (o.num≠f.num)=true:=by simp[h3]
              have Uq:Hid ((o.num !=f.num)=true):=by show(o.num !=f.num)=true;simp[h3]
              go_wp2;go_meet
              case rel=>exact⟨by rw[he,T9.o,Up,Uq.o];rfl,rfl⟩
           .have U4:min (1:Int) (o.how.size:Int)=0:=Te;have U5:Hid (iL o.how=false):=Lq hs1;have hse:((o.how.extract 0 0).toList== [46])=false:=(by rw[ByteArray.toList_eq,cT,Array.toList_extract];rfl);go_wp2;go_meet
            case rel=>exact⟨by rw[he,U5.o];rfl,rfl⟩
         case rest=>
          obtain⟨rfl,T0⟩:=hcut;obtain rfl:=T0.sy;cases D
          .go_wp2;go_roundw
           case rel=>exact⟨j+1,s,_,_,Te,by go_num,Uo,UX,Vj,F3,K3,h3,US,B3⟩
           case measure=>simp[intOf];omega
          .have Tz:Hid (S9 225 #[.agg #[.slice a2 s.fs.length c2,ae s.unk],aa o.num,ah] wq λe w'=>∃mv',e= .returned (.agg #[mv',ae s.unk])/\gQ (k+2) w' Y mv' (s.put o.num [])/\Below wq.heap.size wq w'):=
            xZ wq (k+1) Y _ _ s o.num [] h3 (fk.nil _ _ _) Te (λb a=>TS.o b (by have:=K3.lt;omega))
           have hpl:(s.put o.num []).fs.length<=s.fs.length:=tt o.num [] s.fs true;go_wp2_with fail;refine Tz.o.V ?_;rintro e C ⟨Ud,rfl,G,u⟩;obtain⟨TP,TQ,rfl⟩:=G.form;have l:=F3.on u;have M:=K3.G u K3.lt;have U6:=US.G u (aD _);have⟨z1,z2⟩:=l.b11.I;go_wp2;go_roundw
           case rel=>
            refine⟨j+1,s.put o.num [],_,_,Te,by go_num,Uo,UX,Te,l.sets11 (s.put o.num []) rfl _,M.sets_other Te [_,_] 0,?_,?_,fH Te [_,_] 0 (dL B3 u)⟩;.exact G.O (λb a _=>eI (c:=w.heap.size+1+1) _ b (λe=>TL.o (w.heap.size+1+1) Te Te (by rw[e];exact a)) [_,_] 0)
            .exact U6.O (λb a _=>eI (c:=w.heap.size+1+1) _ b (λe=>TL.o (w.heap.size+1+1) Te Te (by rw[e];exact a)) [_,_] 0)
           case measure=>simp[intOf];omega
        .have U7:j=d.fs.length:=Te;have Ur:Hid (g9 S d f m v=s.put f.num [v]):=(by have n:=UE.o;rw[U7,cL (aD _)]at n;have h4:s=iG f d.fs m:=n;rw[TH.o,h4];rfl);have⟨A,Kv⟩:=eY wr (S5 v va vc) 55
         have Tz:Hid (S9 225 #[.agg #[.slice a2 s.fs.length c2,ae s.unk],aa f.num,Ta wr.heap.size 1 1] (wr.alloc (Obj.cells (S5 v va vc) 55)) λe w'=>∃mv',e= .returned (.agg #[mv',ae s.unk])/\gQ (k+2) w' Y mv' (s.put f.num [v])/\Below (wr.alloc (Obj.cells (S5 v va vc) 55)).heap.size (wr.alloc (Obj.cells (S5 v va vc) 55)) w'):=
          xZ _ (k+1) Y _ _ s f.num [v] (z.G A (aD _)) ⟨_,⟨⟨rfl,.inr ⟨wr.heap.size,1,_,rfl,aM _,Kv,aD 1,Th,rfl,rfl⟩⟩,λb a=>by
           simp[Value.ownBlock]at a
           exact TS.o b (by have:=K2.lt;omega)⟩,⟨_,[],rfl,UF.G A (aD _),rfl⟩⟩ Te (λb a=>TS.o b (by have:=K2.lt;have:=A.size;omega))
         go_wp2_with fail;refine Tz.o.V ?_;rintro e C ⟨Ud,rfl,G,u⟩;obtain⟨TP,TQ,rfl⟩:=G.form;have l:=(F2.on A).on u;have⟨z7,z8⟩:=l.b14.I;go_wp2;refine dJ (dW results224 _ _ rfl (l.b14.sets_all [_,_] rfl) underlying49 Tj) rfl ?_;rw[TT.o,Ur.o];refine⟨_,rfl,?_,fH Te [_,_] 0 (dL (dL B2 A) u)⟩;exact(G.O (λb a _=>eI (c:=w.heap.size+1+1+1+1) _ b (λe=>TL.o (w.heap.size+1+1+1+1) Te Te (by rw[e];exact a)) [_,_] 0)).V (λb a _=>T8.o b a)
      .have Tz:Hid (S9 225 #[.agg #[.slice ma m.fs.length mc,ae m.unk],aa f.num,ah] wc λe w'=>∃mv',e= .returned (.agg #[mv',ae m.unk])/\gQ (k+2) w' Y mv' (m.put f.num [])/\aj wc w'):=
        xZ wc (k+1) Y _ _ m f.num [] Ul (fk.nil _ _ _) Te (TM.o _ (aD _))
       go_wp2_with fail;refine Tz.o.V ?_;rintro e C ⟨Ud,rfl,G,u⟩;obtain⟨TP,TQ,rfl⟩:=G.form;have l:=q.on u;have⟨z7,z8⟩:=l.b14.I;go_wp2;refine dJ (dW results224 _ _ rfl (l.b14.sets_all [_,_] rfl) underlying49 Tj) rfl ?_;rw[TT.o,TH.o];refine⟨_,rfl,?_,fH Te [_,_] 0 (dL E u)⟩;exact(G.O (λb a _=>eI (c:=w.heap.size+1+1+1+1) _ b (λe=>TL.o (w.heap.size+1+1+1+1) Te Te (by rw[e];exact a)) [_,_] 0)).V (λb a _=>T8.o b a)
    .have TH:Hid (g9 S d f m v=m.put f.num (m.get f.num++ [v])):=(by unfold g9 fB.isMap fB.isRep gP;rw[jb,mh,hmap,hrep];rfl);go_upto_region 20 with fail
     have Us:Hid (S9 312 #[.slice oa (m.get f.num).length oc,.agg (S5 v va vc)] wc.drew λe w'=>∃vv,e= .returned vv/\fk (gQ (k+1) w' Y) w' Y vv (m.get f.num++ [v])/\Below wc.drew.heap.size wc.drew w'):=
      AS wc.drew (k+1) Y _ _ (m.get f.num) v (Um.G (Tb wc).drew (aD _)) (T4.G (Tb wc).drew (aD _)) Te (TM.o wc.drew (aD _))
     have Tz:Hid (∀L T5,fk (gQ (k+1) L Y) L Y T5 (m.get f.num++ [v])->Below wc.drew.heap.size wc.drew L->S9 225 #[.agg #[.slice ma m.fs.length mc,ae m.unk],aa f.num,T5] L λe w'=>∃mv',e= .returned (.agg #[mv',ae m.unk])/\gQ (k+2) w' Y mv' (m.put f.num (m.get f.num++ [v]))/\aj L w'):=
      λL T5 UH H=>xZ L (k+1) Y _ _ m f.num (m.get f.num++ [v]) ((Ul.G (Tb wc).drew (aD _)).G H (aD _)) UH Te (TM.o _ H.size)
     have F6:FB w wc.drew d (.slice fa d.fs.length fc) f (.slice ma m.fs.length mc) m r:=q.on (Tb wc).drew;have K6:=I.drew;have U8:aj w wc.drew:=E.drew
     go_region_held3 (λw'=>w'.cell? (ai (w.heap.size+1+1) 0)=some (.slice ma m.fs.length mc)/\w'.cell? (ai (w.heap.size+1+1) 1)=some (ae m.unk)/\w'.cell? (ai (w.heap.size+1) 2)=some (ae f.key)/\w'.cell? (ai (w.heap.size+1) 4)=some (aa f.num)/\w'.cell? (ai kK 0)=some (.int .u64 v.1)/\w'.cell? (ai kK 1)=some (ae v.2.1)/\w'.cell? (ai kK 2)=some (.slice va v.2.2.fs.length vc)/\w'.cell? (ai kK 3)=some (ae v.2.2.unk))
      (first|exact⟨TU.cell 0,TU.cell 1,TV.cell 2,TV.cell 4,TA.cell 0,TA.cell 1,TA.cell 2,TA.cell 3⟩|exact⟨l.b11.cell 0,l.b11.cell 1,l.b10.cell 2,l.b10.cell 4,M.cell 0,M.cell 1,M.cell 2,M.cell 3⟩|exact⟨F7.b11.cell 0,F7.b11.cell 1,F7.b10.cell 2,F7.b10.cell 4,K7.cell 0,K7.cell 1,K7.cell 2,K7.cell 3⟩|exact⟨F6.b11.cell 0,F6.b11.cell 1,F6.b10.cell 2,F6.b10.cell 4,K6.cell 0,K6.cell 1,K6.cell 2,K6.cell 3⟩|exact⟨q.b11.cell 0,q.b11.cell 1,q.b10.cell 2,q.b10.cell 4,I.cell 0,I.cell 1,I.cell 2,I.cell 3⟩|go_keep)
      (first|(go_at_call 312;refine Us.o.V ?_;rintro e L ⟨T5,rfl,UH,H⟩;have F7:=F6.on H;have K7:=K6.G H K6.lt)|(go_at_call 225;refine(Tz.o L T5 UH H).V ?_;rintro e C ⟨Ud,rfl,G,u⟩;obtain⟨TP,TQ,rfl⟩:=G.form;have l:=F7.on u;have M:=K7.G u K7.lt;have⟨z7,z8⟩:=l.b14.I;have TU:=(l.b11.other (c:=w.heap.size+1+1+1+1) 0 (.slice TP (m.put f.num (m.get f.num++ [v])).fs.length TQ) Te).other (c:=w.heap.size+1+1+1+1) 1 (ae m.unk) Te;have TV:=(l.b10.other (c:=w.heap.size+1+1+1+1) 0 (.slice TP (m.put f.num (m.get f.num++ [v])).fs.length TQ) Te).other (c:=w.heap.size+1+1+1+1) 1 (ae m.unk) Te;have TA:=(M.other (c:=w.heap.size+1+1+1+1) 0 (.slice TP (m.put f.num (m.get f.num++ [v])).fs.length TQ) Te).other (c:=w.heap.size+1+1+1+1) 1 (ae m.unk) Te))
     all_goals
      go_wp2;refine dJ (dW results224 _ _ rfl (l.b14.sets_all [_,_] rfl) underlying49 Tj) rfl ?_;rw[TT.o,TH.o];refine⟨_,rfl,?_,fH Te [_,_] 0 (dL (dL U8 H) u)⟩;exact(G.O (λb a _=>eI (c:=w.heap.size+1+1+1+1) _ b (λe=>TL.o (w.heap.size+1+1+1+1) Te Te (by rw[e];exact a)) [_,_] 0)).V (λb a _=>T8.o b a)
   .have UU:Hid (fS S f=some (eX f)):=(by unfold fS fB.isMap gP;rw[jb,hmap];rfl);have TI:f.isMap=true:=by unfold fB.isMap gP;rw[jb];exact hmap
    obtain⟨sm,UI,UJ⟩:∃sm,Hid (pz S b F (eX f) (eP f m).2.2 r.fr r.e (deep+1)= .ok sm)/\Hid (v=((eP f m).1,(eP f m).2.1,sm)):=by
     have n:=HR.o;rw[J.o,xh,UU.o]at n;simp only at n;split at n;.cases n
     .rename_i sm Ub;cases n;exact⟨sm,Ub,rfl⟩
    obtain⟨k',rfl⟩:∃k',k=k'+1:=by
     cases k with
     |zero=>
      exfalso;have G:deep=8:=Te;have n:=UI.o;rw[pz,dH]at n;.cases n
      .rw[G];unfold ng;rw[dH Tf]
       rfl
     |succ k'=>exact⟨k',rfl⟩
    have⟨UY,UZ⟩:=hKn TI (eX f) sm UU.o UI.o;have U9:v.2.2.fs.length<=268435456:=by rw[UJ.o];exact UZ
    have Va:Ij (v.1,v.2.1,fY v.2.2):=by rw[UJ.o];exact UY
    have TH:Hid (g9 S d f m v=m.put f.num (iF f.key (m.get f.num) (v.1,v.2.1,fY v.2.2))):=(by unfold g9;rw[TI];rfl);clear UI UJ UY UZ HR J HF;go_wp2_with fail;refine(PE wc k' Y _ v.2.2 T4 U9 (TM.o _ (aD _))).V ?_;rintro e L ⟨mv7,rfl,h7,H⟩;obtain⟨a7,c7,rfl⟩:=h7.form;have K7:=I.G H I.lt;have⟨z1,z2⟩:=K7.I;have l:=((q.on H).other (c:=kK) Te 2 (.slice a7 (fY v.2.2).fs.length c7)).other (c:=kK) Te 3 (S8);have M:dP ((L.setCell (ai kK 2) (.slice a7 (fY v.2.2).fs.length c7)).setCell (ai kK 3) (S8)) kK #[.int .u64 v.1,ae v.2.1,.slice a7 (fY v.2.2).fs.length c7,S8] 55:=(K7.set 2 _).set 3 _;have u:=((dL E H).setCell (p:=(ai kK 2)) Tg (.slice a7 (fY v.2.2).fs.length c7)).setCell (p:=(ai kK 3)) Tg (S8)
    have G:gQ (k'+2) ((L.setCell (ai kK 2) (.slice a7 (fY v.2.2).fs.length c7)).setCell (ai kK 3) (S8)) Y (.slice a7 (fY v.2.2).fs.length c7) (fY v.2.2):=
     h7.O (λb a _=>(Below.heap_setCell _ _ _ _ (λe=>Tv.o (by have e2:b=kK:=e;subst e2;exact a))).J (Below.heap_setCell _ _ _ _ (λe=>Tv.o (by have e2:b=kK:=e;subst e2;exact a))))
    have TW:wc.heap.size<=((L.setCell (ai kK 2) (.slice a7 (fY v.2.2).fs.length c7)).setCell (ai kK 3) (S8)).heap.size:=by simpa [World.setCell]using H.size
    go_upto_region 18 with fail
    generalize(L.setCell (ai kK 2) (.slice a7 (fY v.2.2).fs.length c7)).setCell (ai kK 3) (S8)=C at*;have Vb:=UP.G u (aD _);have Ut:=TE.G u (aD _)
    have Us:Hid (S9 311 #[ae f.key,.slice oa (m.get f.num).length oc,.agg #[.int .u64 v.1,ae v.2.1,.slice a7 (fY v.2.2).fs.length c7,S8]] C.drew λe w'=>∃vv,e= .returned vv/\fk (gQ (k'+1+1) w' Y) w' Y vv (iF f.key (m.get f.num) (v.1,v.2.1,fY v.2.2))/\Below C.drew.heap.size C.drew w'):=
     Nz C.drew (k'+1) Y f.key _ _ (m.get f.num) (v.1,v.2.1,fY v.2.2) (Ut.G (Tb C).drew (aD _)) (G.G (Tb C).drew (aD _)) Te (TM.o C.drew TW) Va (hKo TI)
    have Tz:Hid (∀w9 UK,fk (gQ (k'+1+1) w9 Y) w9 Y UK (iF f.key (m.get f.num) (v.1,v.2.1,fY v.2.2))->Below C.drew.heap.size C.drew w9->S9 225 #[.agg #[.slice ma m.fs.length mc,ae m.unk],aa f.num,UK] w9 λe w'=>∃mv',e= .returned (.agg #[mv',ae m.unk])/\gQ (k'+1+2) w' Y mv' (m.put f.num (iF f.key (m.get f.num) (v.1,v.2.1,fY v.2.2)))/\aj w9 w'):=
     λw9 UK Vk B9=>xZ w9 (k'+1+1) Y _ _ m f.num _ ((Vb.G (Tb C).drew (aD _)).G B9 (aD _)) Vk Te (TM.o _ (aL TW B9.size))
    have F9:FB w C.drew d (.slice fa d.fs.length fc) f (.slice ma m.fs.length mc) m r:=l.on (Tb C).drew;have Vc:aj w C.drew:=u.drew;clear x1 x2 O Q V W y5 y6 y7 y8 z1 z2;have⟨O,Q⟩:=l.b10.I;have⟨V,W⟩:=l.b11.I;have⟨y5,y6⟩:=M.I;have⟨y7,y8⟩:=l.b14.I;have K9:=M.drew
    go_region_held3 (λw'=>w'.cell? (ai (w.heap.size+1+1) 0)=some (.slice ma m.fs.length mc)/\w'.cell? (ai (w.heap.size+1+1) 1)=some (ae m.unk)/\w'.cell? (ai (w.heap.size+1) 2)=some (ae f.key)/\w'.cell? (ai (w.heap.size+1) 4)=some (aa f.num)/\w'.cell? (ai kK 0)=some (.int .u64 v.1)/\w'.cell? (ai kK 1)=some (ae v.2.1)/\w'.cell? (ai kK 2)=some (.slice a7 (fY v.2.2).fs.length c7)/\w'.cell? (ai kK 3)=some (S8))
     (first|exact⟨TU.cell 0,TU.cell 1,TV.cell 2,TV.cell 4,TA.cell 0,TA.cell 1,TA.cell 2,TA.cell 3⟩|exact⟨TB.b11.cell 0,TB.b11.cell 1,TB.b10.cell 2,TB.b10.cell 4,TY.cell 0,TY.cell 1,TY.cell 2,TY.cell 3⟩|exact⟨TX.b11.cell 0,TX.b11.cell 1,TX.b10.cell 2,TX.b10.cell 4,TO.cell 0,TO.cell 1,TO.cell 2,TO.cell 3⟩|exact⟨F9.b11.cell 0,F9.b11.cell 1,F9.b10.cell 2,F9.b10.cell 4,K9.cell 0,K9.cell 1,K9.cell 2,K9.cell 3⟩|exact⟨l.b11.cell 0,l.b11.cell 1,l.b10.cell 2,l.b10.cell 4,M.cell 0,M.cell 1,M.cell 2,M.cell 3⟩|go_keep)
     (first|(go_at_call 311;refine Us.o.V ?_;rintro e Vl ⟨UL,rfl,UM,Ue⟩;have TX:=F9.on Ue;have TO:=K9.G Ue K9.lt)|(go_at_call 225;refine(Tz.o Vl UL UM Ue).V ?_;rintro e w11 ⟨mv11,rfl,U0,UN⟩;obtain⟨TJ,TK,rfl⟩:=U0.form;have TB:=TX.on UN;have TY:=TO.G UN TO.lt;have⟨z7,z8⟩:=TB.b14.I;have TU:=(TB.b11.other (c:=w.heap.size+1+1+1+1) 0 (.slice TJ (m.put f.num (iF f.key (m.get f.num) (v.1,v.2.1,fY v.2.2))).fs.length TK) Te).other (c:=w.heap.size+1+1+1+1) 1 (ae m.unk) Te;have TV:=(TB.b10.other (c:=w.heap.size+1+1+1+1) 0 (.slice TJ (m.put f.num (iF f.key (m.get f.num) (v.1,v.2.1,fY v.2.2))).fs.length TK) Te).other (c:=w.heap.size+1+1+1+1) 1 (ae m.unk) Te;have TA:=(TY.other (c:=w.heap.size+1+1+1+1) 0 (.slice TJ (m.put f.num (iF f.key (m.get f.num) (v.1,v.2.1,fY v.2.2))).fs.length TK) Te).other (c:=w.heap.size+1+1+1+1) 1 (ae m.unk) Te))
    all_goals
     go_wp2;refine dJ (dW results224 _ _ rfl (TB.b14.sets_all [_,_] rfl) underlying49 Tj) rfl ?_;rw[TT.o,TH.o];refine⟨_,rfl,?_,fH Te [_,_] 0 (dL (dL Vc Ue) UN)⟩;exact(U0.O (λb a _=>eI (c:=w.heap.size+1+1+1+1) _ b (λe=>TL.o (w.heap.size+1+1+1+1) Te Te (by rw[e];exact a)) [_,_] 0)).V (λb a _=>T8.o b a)
  .have⟨V,W⟩:=q.b11.I;have TF:dP wc xb #[ae b,aa c,aa p] 279:=K;have⟨x1,x2⟩:=TF.I;have⟨y7,y8⟩:=q.b14.I;go_wp2;refine dJ (dW results224 _ _ rfl (q.b14.sets_all [_,_] rfl) underlying49 Tj) rfl ?_;rw[HF.o,J.o];exact⟨⟨_,_,_,_,rfl⟩,dP.sets_other K Te [_,_] 0,hc,Vi.sets (.inr Te) [_,_] 0⟩
end
end Go.Proofs.YtfebdimolnobaaaGreatDoor
