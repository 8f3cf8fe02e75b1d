import Derived.Test.YtfebdimolnobaaaGreatDoorWkN
import Derived.Laws.EntriesVeiled
import Derived.Lib.Builder
import Derived.Lib.UnsafeStr
import Derived.Lib.MakeNoZero
import Derived.Shelf.RegionOpenPlain
import Derived.Shelf.Small.Bits
import Derived.Shelf.Strconv.Itoa0
set_option maxRecDepth 100000
set_option maxHeartbeats 8000000
set_option linter.all false
namespace Go.Proofs.YtfebdimolnobaaaGreatDoor
open Go.RowKit Go.Proofs.Tryz
section
open Go.Maps
open Uq
def PJ (R:Fx PM)(w:an)(q0 q1 q2 q3 mb:Nat)(b:am)(hc0:w.cell? (ai q0 0)=some (aa 1))(hc1:w.cell? (ai q1 0)=some (ag mb))(hc2:w.cell? (ai q2 0)=some (ae b))
  (h:∀w0,aj w w0->Ua 47 #[ag mb,ae b] w0 (lI w0 R)):
  Calls prog 46 #[ag q0,ag q1,ag q2,ag q3] w (lI w R):=by
 have⟨B0,KM⟩:=dS w #[ah,T9] 49;have d0:=(B0.cell (p:=(ai q0 0)) (aQ _ _ hc0)).trans hc0;have d1:=(B0.cell (p:=(ai q1 0)) (aQ _ _ hc1)).trans hc1;have d2:=(B0.cell (p:=(ai q2 0)) (aQ _ _ hc2)).trans hc2;have HC:Hid (Ua 47 #[ag mb,ae b] _ (lI _ R)):=h _ B0;clear h;go_in
 go_wp2_with fail;generalize w.alloc (ak #[ah,T9] 49)=w1 at*;refine HC.out.mono ?_
 cases R with
 |error x=>
  rintro e w2 ⟨rfl,Uq⟩;unfold dL;go_wp2;exact⟨rfl,rfl,dI B0 Uq⟩
 |ok m=>
  rintro e w2 ⟨v,Z',rfl,hm,hZ,Uq⟩;obtain⟨va,vc,rfl⟩:=hm.form;have Ur:=KM.below Uq KM.lt;have C2:=dI B0 Uq;have z1:=KM.lt;have⟨k5,k6⟩:=Ur.rules;clear d0 d1 d2 hc0 hc1 hc2;go_wp2
  have Us:=hm.keep (w':=(w2.setCell (ai w.heap.size 0) (.slice va m.fs.length vc)).setCell (ai w.heap.size 1) (ae m.unk)) (λx hx _=>by
   have:=(hZ x hx).1
   rw[dK,dD Ue,dK,dD Ue])
  exact dG (ec results46 _ _ rfl ((Ur.set 0 _).set 1 _) underlying49 Uj) rfl ⟨_,Z',rfl,Us,λx hx=>⟨by have:=(hZ x hx).1;omega,by simp only[cy];exact(hZ x hx).2⟩,(C2.setCell (p:=(ai w.heap.size 0)) (ay _) _).setCell (p:=(ai w.heap.size 1)) (ay _) _⟩
def tX {fn:Func}{p q r:Tmp}{ty:TypeId}{b:Nat}{cs:Array Value}{fs:Array Field}(h:fn.results= #[.cell p ty,.tmp q,.tmp r])(tmps:Array Value)(W:an)(hp:tmps.getD p undef=ag b)(K:dM W b cs ty)
  (hu:prog.underlying ty=some (.struct fs)) (hi:(prog.info? ty).map (·.size)=some cs.size):
  (results fn tmps).run prog W= .ok (.tuple #[.agg cs,tmps.getD q undef,tmps.getD r undef]) W:=by
 have hl:=run_loadVar_row (P:=prog) W b ty ty cs (0,0) _ K hu rfl hi;have Ut:tmps[p]?.getD undef=ag b:=by simpa using hp
 simp only[results,h];simp[Ut,asAddr,hl]
end
section
variable {bs:List dQ} {t:am} {w:an} {P:ap} {v:Value} {y:List YM}
theorem Du (h:jK bs)(hm:eM (dY bs) t=true):dJ t=1/\eM (fi bs) t=true:=by
 have⟨x,hx,Us⟩:=(iF _ _).1 hm;obtain⟨c,hc,rfl⟩:=aP.1 hx;have Uu:=(bw.1 hc).1;exact⟨by rw[<-rx Us];exact h.nm c Uu,(iF _ _).2 ⟨_,aP.2 ⟨c,Uu,rfl⟩,Us⟩⟩
theorem Gp (h:((dU bs).msg t).isSome=true):eM (dY bs) t=true:=by
 cases hm:eM (dY bs) t with
 |true=>rfl
 |false=>
  rw[(wO (z:=(dY bs).map λn=>(n,0)) (by rw[bB];simp[Function.comp_def]) hm).1]at h
  cases h
theorem zN (bs:List dQ):((dY bs).map λn=>((n,0):am×Nat)).map (·.1)=dY bs:=by rw[bB];simp[Function.comp_def]
theorem Ke (h3:dJ t=3)(hk:gM 3 t=true):(ee (nw t)=2->gG t kE=true)/\(gG t kE=true->ee (nw t)=2):=by
 have hm:t.toList∈mN:=by have:=mm h3;simpa [je]using this
 unfold nw gG;unfold gM at hk;generalize t.toList=l at hm hk
 revert l;decide+kernel
theorem rD (h:jK bs)(h3:dJ t=3):(dU bs).base t=nw t:=by
 rw[vG h.ok (zN bs) (.inl h3)];unfold i8;rw[dE h3]
theorem OV (h:jK bs){b:dQ}(hb:b∈bs)(he:b.enum=false):lw (dU bs) (nP b):=by
 intro f hf Ur;obtain⟨p,hp,f0,Uy,rfl⟩:=tS.1 hf;have⟨_,f2,_⟩:=tR (h.ok.shape b hb p hp) Uy;rw[f2]at Ur;have⟨k3,kg⟩:=xz h hb he hp Uy (of_decide_eq_true Ur);have⟨w1,w2⟩:=Ke k3 kg;refine⟨sG h k3,λe=>w1 ?_,λe=> ?_⟩
 ·rw[<-rD h k3];exact e
 ·show ee ((dU bs).base (jg f0.key))=2;rw[rD h k3];exact w2 e
theorem PL (h:jK bs):Eo (dU bs):=by
 have Uv:∀d∈(dU bs).ms,∃b,b∈bs/\b.enum=false/\d=nP b:=λd hd=>by
  obtain⟨b,hb,rfl⟩:=aP.1 hd;have:=bw.1 hb
  grind
 refine⟨⟨λt ht=> ?_,λd hd=> ?_⟩,λd hd=> ?_⟩
 ·have hk:=Du h (Gp ht);have:=(tQ h (zN bs) (.inr hk)).2 ht;show ee _=2;rw[this];rfl
 ·obtain⟨b,hb,he,rfl⟩:=Uv d hd;exact OV h hb he
 ·obtain⟨b,hb,he,rfl⟩:=Uv d hd
  cases q:gG (nP b).name eS with
  |false=>rfl
  |true=>
   have h1:=h.nm b hb;rw[rx (gw.1 q:b.name.1.toList=eS.toList)]at h1;exact absurd h1 Ui
theorem qq (hM:fI w P v bs y)(h:jK bs){d:MT}(ht:(dU bs).msg t=some d):
  ∃(i:Nat) (m:YM),y[i]?=some m/\yH (lR (y.map (·.1))) t=some m.1.2/\m.1.1=d.name/\m.1.1.toList=t.toList/\iE w (λb=>b<w.heap.size) (lR (y.map (·.1))) m.1.2 d.name m.2/\kG (dU bs) (lR (y.map (·.1))) d m.2/\lw (dU bs) d:=by
 have hz:(y.map (·.1)).map (·.1)=dY bs:=by rw[bB];exact hM.names
 have hm:=Gp (bs:=bs) (t:=t) (by simp_all);have⟨i,b,blk,h1,h2,h3,h4⟩:=px h.ok hz hm;rw[ht]at h2
 cases h2
 have⟨m,Ut,hg⟩:=hM.g i b h1;rw[aO,Ut]at h3;have e:m.1=(b.name.1,blk):=Option.some.inj h3;have Uw:=bw.1 (aI h1);have Ux:b.enum=false:=by simp_all
 have hk:=Du h hm;have Uq:=hM.msg m (aI Ut);rw[e]at Uq
 have hnm:b.name.1.toList=t.toList:=by
  have⟨i2,b2,q1,q2,q3⟩:=pu (t:=t) (l:=gh bs) (by
   have⟨x,hx,Us⟩:=(iF _ _).1 hm;obtain⟨c,hc,rfl⟩:=aP.1 hx
   exact⟨c,hc,Us⟩)
  have:(dU bs).msg t=some (nP b2):=q3;rw[ht]at this;have e2:=dH MT.name (Option.some.inj this);have e3:b.name.1=b2.name.1:=e2
  simp_all
 refine⟨i,m,Ut,?_,by rw[e];rfl,by simp_all,?_,Ri h hz Uw.1 Ux hg,OV h Uw.1 Ux⟩
 ·unfold yH;rw[dD Ue,h4,e]
 ·rw[e];exact Uq.mono λb _ hl=>hl
theorem Bq (hM:fI w P v bs y)(h:jK bs)(hu:UOK w):sF w w.heap.size (dU bs) (lR (y.map (·.1))):=
 ⟨hu,hu.lt1,hu.lt2,ay _,λ_ _ ht=>by
  have⟨_,m,_,h1,_,_,h2,h3,_⟩:=qq hM h ht
  grind⟩
end
section
open Uq
def Cp (f:Nat):Value:= .func (.func f) #[] #[]
def Gq (k:Nat):Nat:=if ee k=0 then 182 else if ee k=5 then 352 else 353
def Dv (k:Nat):Option Nat:=
 if k=0\/k=9\/k=15 then some 347 else if k=2 then some 348 else if k=4 then some 349 else if k=5 then some 350 else if k=6 then some 351 else none
def mE (w:an)(Q:ap)(k:Nat)(v:Value):Prop:=
 (Dv k=none/\v=Cp (Gq k))\/∃t nb bb,Dv k=some t/\v= .func (.func 447) #[] #[ag nb,ag bb]/\dM w nb #[Cp t] 423/\dM w bb #[Cp (Gq k)] 489/\Q nb/\Q bb
def mE.keep {w w':an}{Q:ap}{k:Nat}{v:Value}(h:mE w Q k v)(hk:∀b,Q b->b<w.heap.size->w'.heap[b]?=w.heap[b]?):mE w' Q k v:=by
 rcases h with h|⟨t,nb,bb,h1,h2,h3,h4,h5,h6⟩
 ·exact .inl h
 ·exact .inr ⟨t,nb,bb,h1,h2,(hk nb h5 h3.lt).trans h3,(hk bb h6 h4.lt).trans h4,h5,h6⟩
def Kf (w:an)(f t:Nat):Calls prog 444 #[Cp f,Cp t] w λe w'=>∃nb bb,e= .returned (.func (.func 447) #[] #[ag nb,ag bb])/\
  dM w' nb #[Cp t] 423/\dM w' bb #[Cp f] 489/\w.heap.size<=nb/\w.heap.size<=bb/\aj w w':=by
 have hmf:= @vD;unfold Cp;go_in
 go_wp2;go_ret;exact⟨_,_,rfl,dM.newAt Uf _ _,(dM.new w _ _).alloc _,Ue,ay _,((Below.refl _ _).alloc (ay _) _).alloc Uf _⟩
def Rn (w:an)(k:Nat)(e:Ending)(w':an):Prop:=∃v,e= .returned v/\mE w' (λb=>w.heap.size<=b) k v/\aj w w'
def E7 (w:an)(k:Nat)(hn:eO k=true):Calls prog 437 #[aa k] w (Rn w k):=by
 have hk:k=0\/k=1\/k=2\/k=3\/k=4\/k=5\/k=6\/k=7\/k=8\/k=9\/k=10\/k=11\/k=12\/k=15:=by
  unfold eO at hn;simp at hn;omega
 clear hn;have hT:∀f t,Ua 444 #[.func (.func f) #[] #[],.func (.func t) #[] #[]] w _:=Kf w
 rcases hk with rfl|rfl|rfl|rfl|rfl|rfl|rfl|rfl|rfl|rfl|rfl|rfl|rfl|rfl
 all_goals
  go_in
  go_wp2_with (first|(go_at_call 444;refine(hT _ _).mono ?_;rintro e w' ⟨nb,bb,rfl,h1,h2,h3,h4,h5⟩))
  go_ret
  first
   |exact⟨_,rfl,.inl ⟨Uh,rfl⟩,Below.refl _ _⟩
   |exact⟨_,rfl,.inr ⟨_,nb,bb,rfl,rfl,h1,h2,h3,h4⟩,h5⟩
section
variable (w:an) {s:am} {a k:Nat} {x:Int×Nat}
theorem dX.ofDrew {bs:au}{w w':an}(h:dX bs w.drew w'):dX bs w w':=⟨h.os,h.tape,h.output,h.size,h.block⟩
def lJ (v:Value)(args:aq)(w:an)(R:Ending->an->Prop):Prop:=∃(f:Nat) (cap:aq),v= .func (.func f) #[] cap.toArray/\(∀args w,(callFunc f args).run prog w= .ok (.enter f args) w)/\Ua f (args++cap).toArray w R
def tY (s:am)(a k:Nat):Fx (Int×Nat):=if ee k=0 then g9 s a s.size else if ee k=5 then iT s a 4 else iT s a 8
theorem Hz {x:Int×Int}(h:tY s a k= .error x):jb s a k= .error x:=by
 unfold jb;unfold tY at h;rw[h]
theorem Kg (h:tY s a k= .ok x):jb s a k= .ok (kD k x.1,x.2):=by
 unfold jb;unfold tY at h;rw[h]
theorem Nw (h:g9 s a s.size= .ok x):0<=x.1/\x.1<18446744073709551616:=by
 obtain⟨n,z⟩:=x;have⟨v0,v1,v2,v3⟩:=iG h;exact⟨Uo,Uo⟩
def Ss (n:Int):Int:=if 0<n then 1 else 0
theorem Kh (n:Int)(h0:0<=n):Ua 351 #[.int .u64 n] w λe w'=>e= .returned (.int .u64 (Ss n))/\w'=w:=vJ w n h0
theorem E8 (rb:Nat)(s:am)(a:Nat)(deep:Int)(k t nb bb:Nat)(h:dW w rb s a deep)(ha:a<=s.size)(hs:s.size<=140737488355328)(ht:Dv k=some t)(hn:dM w nb #[Cp t] 423)(hb:dM w bb #[Cp (Gq k)] 489)(hnr:nb≠rb)(hbr:bb≠rb):
  Calls prog 447 #[ag rb,ag nb,ag bb] w (oU w rb s deep (jb s a k) (Value.int .u64)):=by
 have hk:k=0\/k=2\/k=4\/k=5\/k=6\/k=9\/k=15:=by
  unfold Dv at ht
  by_cases h1:k=0\/k=9\/k=15
  ·omega
  ·rw[dD h1]at ht
   by_cases h2:k=2
   ·omega
   ·rw[dD h2]at ht
    by_cases h3:k=4
    ·omega
    ·rw[dD h3]at ht
     by_cases h4:k=5
     ·omega
     ·rw[dD h4]at ht
      by_cases h5:k=6
      ·omega
      ·rw[dD h5]at ht;cases ht
 have hV:=mt w.drew rb s a deep h hs;have hF:=AS w.drew rb s a deep h ha hs;have Ur:=hn.drew;have Us:=hb.drew;have n0:=Ur.cell 0;have b0:=Us.cell 0;obtain⟨r,HR⟩:∃r,Hid (jb s a k=r):=⟨_,rfl⟩;have HE:Hid (∀x,tY s a k= .error x->r= .error x):=λx hx=>HR.out.symm.trans (Hz hx)
 have HO:Hid (∀x,tY s a k= .ok x->r= .ok (kD k x.1,x.2)):=λx hx=>HR.out.symm.trans (Kg hx)
 rw[HR.out];obtain⟨fb,Uu⟩:∃fb,Gq k=fb:=⟨_,rfl⟩
 have Ut:fb=if k=9 then 352 else 182:=by
  rw[<-Uu]
  rcases hk with rfl|rfl|rfl|rfl|rfl|rfl|rfl<;>decide
 rw[Uu]at b0;unfold Cp at n0 b0
 rcases hk with rfl|rfl|rfl|rfl|rfl|rfl|rfl
 all_goals
  cases ht
  simp at Ut;subst Ut;clear Uu;go_in
  go_upto_region 1 with fail
  go_region_held2 (λW=>W.cell? (ai nb 0)=w.drew.cell? (ai nb 0)/\W.cell? (ai bb 0)=w.drew.cell? (ai bb 0))
   (first|exact a1|exact⟨rfl,rfl⟩)
   (first
    |(
      go_at_call 182;refine hV.mono ?_;intro e w1 hq
      rcases hq.part with⟨x,hx,rfl,Uq⟩|⟨x,hx,rfl,Uq,Uv⟩
      ·obtain rfl:=HE.out x hx;unfold dL;go_wp2;exact⟨rfl,Uq.ofDrew,rfl⟩
      obtain rfl:=HO.out x hx;have⟨v0,v1⟩:=Nw hx
      have a1:w1.cell? (ai nb 0)=w.drew.cell? (ai nb 0)/\w1.cell? (ai bb 0)=w.drew.cell? (ai bb 0):=⟨((Ur.kept Uq (by simpa using hnr)).cell 0).trans (Ur.cell 0).symm,((Us.kept Uq (by simpa using hbr)).cell 0).trans (Us.cell 0).symm⟩)
    |(
      go_at_call 352;refine hF.mono ?_;intro e w1 hq
      rcases hq.part with⟨x,hx,rfl,Uq⟩|⟨x,hx,rfl,Uq,Uv⟩
      ·obtain rfl:=HE.out x hx;unfold dL;go_wp2;exact⟨rfl,Uq.ofDrew,rfl⟩
      obtain rfl:=HO.out x hx
      have a1:w1.cell? (ai nb 0)=w.drew.cell? (ai nb 0)/\w1.cell? (ai bb 0)=w.drew.cell? (ai bb 0):=⟨((Ur.kept Uq (by simpa using hnr)).cell 0).trans (Ur.cell 0).symm,((Us.kept Uq (by simpa using hbr)).cell 0).trans (Us.cell 0).symm⟩)
    |(go_at_call 347;refine(oA _ _).mono ?_;rintro e w2 ⟨rfl,rfl⟩)
    |(go_at_call 348;refine(sf _ _).mono ?_;rintro e w2 ⟨rfl,rfl⟩)
    |(go_at_call 349;refine(Jh _ _).mono ?_;rintro e w2 ⟨rfl,rfl⟩)
    |(go_at_call 350;refine(Ex _ _ v0 v1).mono ?_;rintro e w2 ⟨rfl,rfl⟩)
    |(go_at_call 351;refine(Kh _ _ v0).mono ?_;rintro e w2 ⟨rfl,rfl⟩))
  go_wp2;go_ret;exact⟨Uq.ofDrew,rfl,Uv⟩
theorem Ro {w:an}{Q:ap}{v:Value}(hv:mE w Q k v)(rb:Nat)(s:am)(a:Nat)(deep:Int)(h:dW w rb s a deep)(ha:a<=s.size)(hs:s.size<=140737488355328)(hQ:¬Q rb)(hn:eO k=true):
  lJ v [ag rb] w (oU w rb s deep (jb s a k) (Value.int .u64)):=by
 rcases hv with⟨ht,rfl⟩|⟨t,nb,bb,ht,rfl,h1,h2,q1,q2⟩
 ·have hk:k=1\/k=3\/k=7\/k=8\/k=10\/k=11\/k=12:=by
   have Uw:k<=15:=by unfold eO at hn;simp at hn;omega
   have:∀j:Nat,j<=15->eO j=true->Dv j=none->j=1\/j=3\/j=7\/j=8\/j=10\/j=11\/j=12:=Uh;exact this k Uw hn ht
  have e:∀(r:Fx (Int×Nat)),(match r with| .error x=> .error x| .ok x=> .ok (x.1,x.2):Fx (Int×Nat))=r:=λr=>by cases r<;>rfl
  rcases hk with rfl|rfl|rfl|rfl|rfl|rfl|rfl
  ·exact⟨182,[],rfl,enters_of func182 Uj rfl,by have:=mt w rb s a deep h hs;rw[<-e (g9 s a s.size)]at this;exact this⟩
  ·exact⟨182,[],rfl,enters_of func182 Uj rfl,by have:=mt w rb s a deep h hs;rw[<-e (g9 s a s.size)]at this;exact this⟩
  ·exact⟨352,[],rfl,enters_of func352 Uj rfl,by have:=AS w rb s a deep h ha hs;rw[<-e (iT s a 4)]at this;exact this⟩
  ·exact⟨353,[],rfl,enters_of func353 Uj rfl,by have:=vI w rb s a deep h ha hs;rw[<-e (iT s a 8)]at this;exact this⟩
  ·exact⟨353,[],rfl,enters_of func353 Uj rfl,by have:=vI w rb s a deep h ha hs;rw[<-e (iT s a 8)]at this;exact this⟩
  ·exact⟨352,[],rfl,enters_of func352 Uj rfl,by have:=AS w rb s a deep h ha hs;rw[<-e (iT s a 4)]at this;exact this⟩
  ·exact⟨353,[],rfl,enters_of func353 Uj rfl,by have:=vI w rb s a deep h ha hs;rw[<-e (iT s a 8)]at this;exact this⟩
 ·exact⟨447,[_,_],rfl,enters_of func447 Uj rfl,E8 w rb s a deep k t nb bb h ha hs ht h1 h2 (λe=>hQ (e▸q1)) (λe=>hQ (e▸q2))⟩
end
section
variable {w:an} {Q:ap} {k:Nat} {v:Value}
def mF (w:an)(Q:ap)(k:Nat)(v:Value):Prop:=
 (k=13/\v=Cp 435)\/(k=14/\v=Cp 436)\/(eO k=true/\∃nb nv,v= .func (.func 438) #[] #[ag nb]/\dM w nb #[nv] 489/\Q nb/\mE w Q k nv)
theorem mF.keep {w':an}(h:mF w Q k v)(hk:∀b,Q b->b<w.heap.size->w'.heap[b]?=w.heap[b]?):mF w' Q k v:=by
 rcases h with h|h|⟨h0,nb,nv,h1,h2,h3,h4⟩
 ·exact .inl h
 ·exact .inr (.inl h)
 ·exact .inr (.inr ⟨h0,nb,nv,h1,(hk nb h3 h2.lt).trans h2,h3,h4.keep hk⟩)
theorem mE.form (h:mE w Q k v):∃f cap,v= .func (.func f) #[] cap:=by
 rcases h with⟨_,rfl⟩|⟨t,nb,bb,_,rfl,_⟩
 ·exact⟨_,_,rfl⟩
 ·exact⟨_,_,rfl⟩
theorem mE.mono {Q':ap}(h:mE w Q k v)(hq:∀b,Q b->Q' b):mE w Q' k v:=by
 rcases h with h|⟨t,nb,bb,h1,h2,h3,h4,h5,h6⟩
 ·exact .inl h
 ·exact .inr ⟨t,nb,bb,h1,h2,h3,h4,hq _ h5,hq _ h6⟩
def Rp (w:an)(k:Nat)(e:Ending)(w':an):Prop:=∃v,e= .returned v/\mF w' (λb=>w.heap.size<=b) k v/\aj w w'
theorem z9 (w:an)(k:Nat)(pv:Value)(hk:k<=15):Calls prog 420 #[.agg #[aa k,pv]] w (Rp w k):=by
 have hmf:= @vD;have B0:∀o,aj w (w.alloc o):=λo=>(Uc w).alloc (ay _) o
 have KT:=dM.new w #[aa k,pv] 216;have⟨k1,k2⟩:=KT.rules
 by_cases h13:k=13
 ·subst h13;go_in
  go_wp2;go_ret;exact⟨_,rfl,.inl ⟨rfl,rfl⟩,B0 _⟩
 ·by_cases h14:k=14
  ·subst h14;go_in
   go_wp2;go_ret;exact⟨_,rfl,.inr (.inl ⟨rfl,rfl⟩),B0 _⟩
  ·have hn:eO k=true:=by
    have:∀j:Nat,j<=15->j≠13->j≠14->eO j=true:=Uh;exact this k hk h13 h14
   have e13:((k:Int)==13)=false:=Ug;have e14:((k:Int)==14)=false:=Ug;have hN:=E7 (w.alloc (ak #[aa k,pv] 216)) k hn;go_in
   go_wp2_with fail;refine hN.mono ?_;rintro e w1 ⟨nv,rfl,Uq,Ur⟩;obtain⟨nf,ncap,rfl⟩:=Uq.form;go_wp2;go_ret;have C1:=dI (B0 _) Ur;refine⟨_,rfl,.inr (.inr ⟨hn,_,_,rfl,dM.new w1 _ _,C1.size,?_⟩),C1.alloc C1.size _⟩;exact(Uq.mono (λb hb=>by simp at hb;omega)).keep λb _ hl=>Below.heap_alloc _ _ b hl
end
def Br {w w1 w2:an}{rb vb:Nat}{s:am}{z:Nat}{deep:Int}(x:LV)(k1:dX [rb] w w1)(v1:dM w1 vb #[.int .u64 0,T9,ah,T9] 55)(hv:w.heap.size<=vb)(hr:rb<w.heap.size)(k2:dX [rb] w1 w2)(r2:dW w2 rb s z deep):
  dM (((((w2.setCell (ai vb 0) (.int .u64 x.1)).setCell (ai vb 1) (ae x.2)).setCell (ai vb 2) (ah)).setCell (ai vb 3) (T9))) vb #[.int .u64 x.1,ae x.2,ah,T9] 55/\
  dX [rb] w (((((w2.setCell (ai vb 0) (.int .u64 x.1)).setCell (ai vb 1) (ae x.2)).setCell (ai vb 2) (ah)).setCell (ai vb 3) (T9)))/\
  dW (((((w2.setCell (ai vb 0) (.int .u64 x.1)).setCell (ai vb 1) (ae x.2)).setCell (ai vb 2) (ah)).setCell (ai vb 3) (T9))) rb s z deep:=by
 have v2:dM w2 vb #[.int .u64 0,T9,ah,T9] 55:=(k2.block _ v1.lt Ug).trans v1;refine⟨(((v2.set 0 _).set 1 _).set 2 _).set 3 _,?_,(((dM.other r2 0 _ Ue).other 1 _ Ue).other 2 _ Ue).other 3 _ Ue⟩;have k3:=k1.trans k2
 exact⟨k3.os,k3.tape,k3.output,by simpa using k3.size,λi hi hn=>by
  rw[dK,dD Ue,dK,dD Ue,dK,dD Ue,dK,dD Ue]
  exact k3.block i hi hn⟩
def Ki {w:an}{Q:ap}{k:Nat}{v:Value}(hv:mF w Q k v)(rb:Nat)(s:am)(a:Nat)(deep:Int)(h:dW w rb s a deep)(ha:a<=s.size)(hs:s.size<=140737488355328)(hQ:¬Q rb)(hu:UOK w)(hu1:rb≠2)(hu2:rb≠3):
  lJ v [ag rb] w (oU w rb s deep (gi s a k) vg):=by
 have K1:dX [rb] w (w.alloc (ak #[.int .u64 0,T9,ah,T9] 55)):=(dX.refl _ _).alloc _;have h1:dW (w.alloc (ak #[.int .u64 0,T9,ah,T9] 55)) rb s a deep:=dM.alloc h _;have V1:=dM.new w #[.int .u64 0,T9,ah,T9] 55;have Uv:UOK (w.alloc (ak #[.int .u64 0,T9,ah,T9] 55)):=hu.keep (K1.block _ hu.lt1 (by simp;exact λe=>hu1 e.symm)) (K1.block _ hu.lt2 (by simp;exact λe=>hu2 e.symm));have Ut:rb<w.heap.size:=dM.lt h;obtain⟨r,HR⟩:∃r,Hid (gi s a k=r):=⟨_,rfl⟩;rw[HR.out]
 rcases hv with⟨rfl,rfl⟩|⟨rfl,rfl⟩|⟨hn,nb,nv,rfl,Uw,qn,Ux⟩
 ·refine⟨435,[],rfl,enters_of func435 Uj rfl,?_⟩;have HV:Hid (gi s a 13=(match qU s a with| .error x=> .error x| .ok x=> .ok ((0,x.1),x.2))):=rfl;show Ua 435 #[ag rb] w _;go_enter func435,ntmps435;go_wp2_with fail;generalize(w.alloc (ak #[.int .u64 0,T9,ah,T9] 55))=w1 at*;refine(Ji w1 rb s a deep h1 hs Uv hu1 hu2).mono ?_
  cases hv:qU s a with
  |error x=>
   rintro e w2 ⟨Uq,he⟩;obtain rfl:e=dL x.1 x.2:=he;obtain rfl:r= .error x:=by rw[<-HR.out,HV.out,hv]
   unfold dL;go_wp2;exact⟨rfl,K1.trans Uq,rfl⟩
  |ok x=>
   rintro e w2 ⟨Uq,rfl,hr⟩;obtain rfl:r= .ok (((0,x.1):LV),x.2):=by rw[<-HR.out,HV.out,hv]
   obtain⟨q1,q2,q3⟩:=Br ((0,x.1):LV) K1 V1 (ay _) Ut Uq hr;obtain⟨y7,y8⟩:=(show dM w2 w.heap.size _ _ from(Uq.block _ V1.lt Ug).trans V1).rules;go_wp2;exact dG (ec results435 _ _ rfl q1 underlying55 Uj) rfl ⟨q2,rfl,q3⟩
 ·refine⟨436,[],rfl,enters_of func436 Uj rfl,?_⟩;have HV:Hid (gi s a 14=(match nA s a with| .error x=> .error x| .ok x=> .ok ((0,x.1),x.2))):=rfl;show Ua 436 #[ag rb] w _;go_enter func436,ntmps436;go_wp2_with fail;generalize(w.alloc (ak #[.int .u64 0,T9,ah,T9] 55))=w1 at*;refine(FY w1 rb s a deep h1 hs).mono ?_
  cases hv:nA s a with
  |error x=>
   rintro e w2 ⟨Uq,he⟩;obtain rfl:e=dL x.1 x.2:=he;obtain rfl:r= .error x:=by rw[<-HR.out,HV.out,hv]
   unfold dL;go_wp2;exact⟨rfl,K1.trans Uq,rfl⟩
  |ok x=>
   rintro e w2 ⟨Uq,rfl,hr⟩;obtain rfl:r= .ok (((0,x.1):LV),x.2):=by rw[<-HR.out,HV.out,hv]
   obtain⟨q1,q2,q3⟩:=Br ((0,x.1):LV) K1 V1 (ay _) Ut Uq hr;obtain⟨y7,y8⟩:=(show dM w2 w.heap.size _ _ from(Uq.block _ V1.lt Ug).trans V1).rules;go_wp2;exact dG (ec results436 _ _ rfl q1 underlying55 Uj) rfl ⟨q2,rfl,q3⟩
 ·have Ur:k≠13/\k≠14:=by
   constructor
   ·intro e;rw[e]at hn;exact absurd hn Uh
   ·intro e;rw[e]at hn;exact absurd hn Uh
  have HV:Hid (gi s a k=(match jb s a k with| .error x=> .error x| .ok x=> .ok ((x.1,⟨#[]⟩),x.2))):=by
   show gi s a k=_;unfold gi;rw[dD Ur.1,dD Ur.2]
   all_goals (cases jb s a k<;>rfl)
  refine⟨438,[ag nb],rfl,enters_of func438 Uj rfl,?_⟩;have Uu:mE (w.alloc (ak #[.int .u64 0,T9,ah,T9] 55)) Q k nv:=Ux.keep λb _ hl=>Below.heap_alloc _ _ b hl
  obtain⟨f,cap,rfl,eg,Us⟩:=Ro Uu rb s a deep h1 ha hs hQ hn;have n0:=(Uw.alloc (ak #[.int .u64 0,T9,ah,T9] 55)).cell 0;simp only[cG,cD]at n0;show Ua 438 #[ag rb,ag nb] w _;go_enter func438,ntmps438;go_wp2_with fail;clear n0;generalize(w.alloc (ak #[.int .u64 0,T9,ah,T9] 55))=w1 at*;refine Us.mono ?_;clear Us
  cases hv:jb s a k with
  |error x=>
   rintro e w2 ⟨Uq,he⟩;obtain rfl:e=dL x.1 x.2:=he;obtain rfl:r= .error x:=by rw[<-HR.out,HV.out,hv]
   unfold dL;go_wp2;exact⟨rfl,K1.trans Uq,rfl⟩
  |ok x=>
   rintro e w2 ⟨Uq,rfl,hr⟩;obtain rfl:r= .ok (((x.1,⟨#[]⟩):LV),x.2):=by rw[<-HR.out,HV.out,hv]
   obtain⟨q1,q2,q3⟩:=Br ((x.1,⟨#[]⟩):LV) K1 V1 (ay _) Ut Uq hr;obtain⟨y7,y8⟩:=(show dM w2 w.heap.size _ _ from(Uq.block _ V1.lt Ug).trans V1).rules;go_wp2;exact dG (ec results438 _ _ rfl q1 underlying55 Uj) rfl ⟨q2,rfl,q3⟩
structure rE where
 n:Int
 c1:Value
 c2:Value
 c3:Value
 c4:Value
 c5:Value
 c6:Value
 c7:Value
def iB (x:rE):aq:= [aa x.n,x.c1,x.c2,x.c3,x.c4,x.c5,x.c6,x.c7]
def pL (x:rE):(iB x).length=8:=rfl
def E9 (x:rE)(n:Int)(w:an):
  Calls prog 215 #[.agg #[aa x.n,x.c1,x.c2,x.c3,x.c4,x.c5,x.c6,x.c7],aa n] w λe w'=>e= .returned (aa (kr x.n n))/\aj w w':=by
 have hC:=qd x.n n;have B0:∀o,aj w (w.alloc o):=λo=>(Uc w).alloc (ay _) o
 generalize kr x.n n=c at hC⊢;go_in
 go_wp2_with fail;refine(hC _).mono ?_;rintro e w' ⟨rfl,rfl⟩;go_wp2;go_ret;exact⟨rfl,B0 _⟩
def Kj (w:an)(v:Value)(l:List rE)(t:Int)(lo:Nat)(hrow:w.ownsRow lo 268 8 v l.length (l.flatMap iB))(h1:∀x∈l,x.c1.oneCell'=true/\x.c2.oneCell'=true/\x.c3.oneCell'=true/\x.c4.oneCell'=true/\x.c5.oneCell'=true/\x.c6.oneCell'=true/\x.c7.oneCell'=true)(hs:l.Pairwise (λa b=>a.n<=b.n))(hl:l.length<=1073741824):
  Calls prog 214 #[v,aa t,.func (.func 215) #[] #[]] w λe w'=>vM (l.map (·.n)) t e/\aj w w':=by
 obtain⟨a,c,rfl⟩:=iD hrow
 have HS:Hid (∀(i j:Nat) (x y:rE),l[i]?=some x->l[j]?=some y->i<=j->x.n<=y.n):=λi j x y hx hy Ut=>by
  by_cases e:i=j
  ·subst e;rw[hx]at hy;obtain rfl:=Option.some.inj hy;exact dm _
  ·rw[bM]at hs;have hi:=gl hx;have hj:=gl hy;have:=hs i j hi hj Ue;rw[aK hi]at hx;rw[aK hj]at hy;rw[<-Option.some.inj hx,<-Option.some.inj hy];exact this
 have HG:Hid (∀(i:Nat) (x:rE),l[i]?=some x->∃g,a=some (ai g 0)/\g<w.heap.size/\∀w':an,w'.heap[g]?=w.heap[g]?->w'.cell? (ai g (i*8))=some (aa x.n)/\w'.cell? (ai g (i*8+1))=some x.c1/\w'.cell? (ai g (i*8+2))=some x.c2/\w'.cell? (ai g (i*8+3))=some x.c3/\w'.cell? (ai g (i*8+4))=some x.c4/\w'.cell? (ai g (i*8+5))=some x.c5/\w'.cell? (ai g (i*8+6))=some x.c6/\w'.cell? (ai g (i*8+7))=some x.c7):=λi x hx=>by
  have hi:=gl hx;obtain⟨g,rfl,_,Ur,Uq⟩:=el hrow Ue;have hf:=λj hj=>fP iB 8 pL l i x hx j hj
  refine⟨g,rfl,Ur,λw' hw=>⟨?_,?_,?_,?_,?_,?_,?_,?_⟩⟩
  ·exact Uq w' hw _ _ ((hf 0 Ue).trans rfl)
  ·exact Uq w' hw _ _ ((hf 1 Ue).trans rfl)
  ·exact Uq w' hw _ _ ((hf 2 Ue).trans rfl)
  ·exact Uq w' hw _ _ ((hf 3 Ue).trans rfl)
  ·exact Uq w' hw _ _ ((hf 4 Ue).trans rfl)
  ·exact Uq w' hw _ _ ((hf 5 Ue).trans rfl)
  ·exact Uq w' hw _ _ ((hf 6 Ue).trans rfl)
  ·exact Uq w' hw _ _ ((hf 7 Ue).trans rfl)
 clear hs hrow;go_in
 go_wp2;go_loopw [9,10] (λiv jv wr=>∃(i j:Nat),i<=j/\j<=l.length/\iv=aa i/\jv=aa j/\Hid (∀(k:Nat) (x:rE),l[k]?=some x->k<i->x.n<t)/\Hid (∀(k:Nat) (x:rE),l[k]?=some x->j<=k->t<=x.n)/\aj w wr) (λiv jv _=>((intOf jv)-(intOf iv)).toNat)
 case atStart=>exact⟨0,l.length,aL _,ay _,rfl,rfl,(λk x _ h=>Ue),(λk x hx h=>by rw[aY Ue]at hx;cases hx),Below.refl _ _⟩
 case round=>
  obtain⟨i,j,Ut,Uu,rfl,rfl,H1,H2,CW⟩:=hrel
  by_cases hlt:i<j
  ·obtain⟨h,hh⟩:∃h,(i+j)/2=h:=⟨_,rfl⟩;have Uv:h<l.length:=Ue;have Uw:i<=h:=Ue;have hhj:h<j:=Ue;have⟨x,hx⟩:=gx Uv;obtain⟨g,rfl,Ur,Us⟩:=HG.out h x hx;have⟨c0,c1,c2,c3,c4,c5,c6,c7⟩:=Us wr (CW.block g Ur);have⟨o1,o2,o3,o4,o5,o6,o7⟩:=h1 x (aI hx);clear Us;have hw1:IntKind.u64.wrap ((i:Int)+(j:Int))=(i:Int)+(j:Int):=gm Ue Ue;have hdiv:((i:Int)+(j:Int))/2=(h:Int):=Ue;have hw2:IntKind.i64.wrap (h:Int)=(h:Int):=by simp[IntKind.wrap,IntKind.bits,IntKind.signed];omega
   by_cases hxt:x.n<t
   ·have hd:decide (kr x.n t<0)=true:=by simp[mY,hxt]
    have HX:Hid (l[h]?=some x):=hx;clear hh hx HG;go_wp2_with fail;refine(E9 x t _).mono ?_;rintro e w2 ⟨rfl,b2⟩;go_wp2;go_roundw
    case rel=>exact⟨h+1,j,Ue,Uu,rfl,rfl,(λk y hy hk=>Int.lt_of_le_of_lt (HS.out k h y x hy HX.out Ue) hxt),H2,ew CW b2⟩
    case measure=>simp[intOf];omega
   ·have hd:decide (kr x.n t<0)=false:=decide_eq_false (λq=>hxt ((mY _ _).1 q));have HX:Hid (l[h]?=some x):=hx;clear hh hx HG;go_wp2_with fail;refine(E9 x t _).mono ?_;rintro e w2 ⟨rfl,b2⟩;go_wp2;go_roundw
    case rel=>exact⟨i,h,Uw,Ue,rfl,rfl,H1,(λk y hy hk=>Int.le_trans Ue (HS.out h k x y HX.out hy hk)),ew CW b2⟩
    case measure=>simp[intOf];omega
  ·obtain rfl:i=j:=Ue;have hli:decide ((i:Int)<(i:Int))=false:=Uf
   by_cases hil:i<l.length
   ·have⟨x,hx⟩:=gx hil;obtain⟨g,rfl,Ur,Us⟩:=HG.out i x hx;have⟨c0,c1,c2,c3,c4,c5,c6,c7⟩:=Us wr (CW.block g Ur);have⟨o1,o2,o3,o4,o5,o6,o7⟩:=h1 x (aI hx);clear Us;have HX:Hid (l[i]?=some x):=hx;have hti:=H2.out i x hx (ay _)
    have hd:(kr x.n t==0)=decide (x.n=t):=by
     rw[co];unfold kr
     by_cases q1:x.n<t
     ·simp[q1];omega
     ·by_cases q2:t<x.n
      ·simp[q1,q2];omega
      ·simp[q1,q2];omega
    have hN:decide ((l.map (·.n))[i]?=some t)=decide (x.n=t):=by rw[aO,hx];simp
    have HE:Hid (decide ((l.map (·.n))[i]?=some t)=decide (x.n=t)):=hN;clear hx HG hN hlt Ut;go_wp2_with fail;refine(E9 x t _).mono ?_;rintro e w2 ⟨rfl,b2⟩;go_wp2;go_ret2;refine⟨⟨i,by rw[HE.out];rfl,by simpa using Uu,?_,?_⟩,ew CW b2⟩
    ·intro k y hy hk;rw[aO]at hy;obtain⟨z,hz,rfl⟩:=aW.1 hy;exact H1.out k z hz hk
    ·intro k y hy hk;rw[aO]at hy;obtain⟨z,hz,rfl⟩:=aW.1 hy;exact H2.out k z hz hk
   ·have hli2:decide ((i:Int)<(l.length:Int))=false:=Ug
    have HE:Hid (decide ((l.map (·.n))[i]?=some t)=false):=by
     show decide ((l.map (·.n))[i]?=some t)=false;rw[aY (by rw[bE];omega)];simp
    clear HG hlt Ut;go_wp2;go_ret2;refine⟨⟨i,by rw[HE.out];rfl,by simpa using Uu,?_,?_⟩,CW⟩
    ·intro k y hy hk;rw[aO]at hy;obtain⟨z,hz,rfl⟩:=aW.1 hy;exact H1.out k z hz hk
    ·intro k y hy hk;rw[aO]at hy;obtain⟨z,hz,rfl⟩:=aW.1 hy;exact H2.out k z hz hk
def PO (l:List rE)(v:Value)(t:Int)(e:Ending):Prop:=
 (∃(i g:Nat) (x:rE),l[i]?=some x/\x.n=t/\(∀j y,l[j]?=some y->j<i->y.n≠t)/\v.ownBlock=some g/\e= .returned (.pointer (some (ai g (i*8)))))\/((∀x∈l,x.n≠t)/\e= .returned (.pointer none))
def PP (w:an)(pb:Nat)(v:Value)(l:List rE)(t:Int)(lo:Nat)(hP:dM w pb #[v] 254)(hrow:w.ownsRow lo 268 8 v l.length (l.flatMap iB))(h1:∀x∈l,x.c1.oneCell'=true/\x.c2.oneCell'=true/\x.c3.oneCell'=true/\x.c4.oneCell'=true/\x.c5.oneCell'=true/\x.c6.oneCell'=true/\x.c7.oneCell'=true)
  (hs:l.Pairwise (λa b=>a.n<=b.n)) (hl:l.length<=1073741824):
  Calls prog 141 #[ag pb,aa t] w λe w'=>PO l v t e/\aj w w':=by
 have hS:=Kj w v l t lo hrow h1 hs hl;obtain⟨a,c,rfl⟩:=iD hrow;have⟨k1,k2⟩:=hP.rules;go_in
 go_wp2_with fail;refine hS.mono ?_;rintro e w1 ⟨⟨i,rfl,q1,q2,q3⟩,hb⟩;have⟨k3,k4⟩:=(hP.below hb hP.lt).rules;clear hS k1 k2
 by_cases hf:(l.map (·.n))[i]?=some t
 ·have hd:decide ((l.map (·.n))[i]?=some t)=true:=by simpa using hf
  rw[hd]
  have Uq:i<l.length:=by
   by_cases q:i<l.length
   ·exact q
   ·rw[aY Ug]at hf;cases hf
  rw[aO]at hf;have⟨x,hx,Uu⟩:=aW.1 hf;obtain⟨g,rfl,_,hgl,_⟩:=el hrow Ue;have HX:Hid (l[i]?=some x):=hx
  have Us:Hid (∀j y,l[j]?=some y->j<i->y.n≠t):=λj y hy hj=>by
   have:=q2 j y.n (by rw[aO,hy];rfl) hj;omega
  clear hf hx hd q1 q2 q3;go_wp2;go_ret;exact⟨.inl ⟨i,g,x,HX.out,Uu,Us.out,rfl,Uf⟩,hb⟩
 ·have hd:decide ((l.map (·.n))[i]?=some t)=false:=by simpa using hf
  rw[hd]
  have Ut:∀x∈l,x.n≠t:=λx hx e=>by
   have⟨j,hj⟩:=bK.1 hx;have hm:(l.map (·.n))[j]?=some x.n:=by rw[aO,hj];rfl
   by_cases hji:j<i
   ·have:=q2 j x.n hm hji;omega
   ·by_cases he:j=i
    ·subst he;rw[hm,e]at hf;exact hf rfl
    ·have Ur:j<l.length:=by
      by_cases q:j<l.length
      ·exact q
      ·rw[aY Ue]at hj;cases hj
     have Uq:i<l.length:=Ue;rw[bM]at hs;have h3:=hs i j Uq Ur Ue;have h4:=q3 i (l[i].n) (by rw[aO,aK Uq];rfl) (ay _);rw[aK Ur]at hj;rw[Option.some.inj hj]at h3;have h5:l[i].n=t:=Ue;exact hf (by rw[aO,aK Uq];simp[h5])
  clear hf hd q1 q2 q3 hs;go_wp2;go_ret;exact⟨.inr ⟨Ut,rfl⟩,hb⟩
end
def fh (w:an)(B b:Nat)(p:Value)(l:List UInt8):Prop:=Lib.BuilderAt 285 5 B b p (Lib.byteCells l) w
abbrev d7 (b:Nat):Value:=ag b
def Aa:(prog.info? 5).map (λi=>(i.zero,i.size,i.bytes))=some (some (.int .u8 0),1,1):=Uj
def Dw:(prog.info? 283).map (·.size)=some 2:=Uj
def Kk:liesAt prog prog.depth 285 (2/prog.cellsOf 285) 0 283 1=true:=Uj
structure Wr (B:Nat)(w w':an):Prop where
 bel:Below B w w'
 fr:∀i cs T,T≠5->T≠285->dM w i cs T->dM w' i cs T
def Wr.refl (B:Nat)(w:an):Wr B w w:=⟨Below.refl _ _,λ_ _ _ _ _ h=>h⟩
def Wr.trans {B:Nat}{a b c:an}(h:Wr B a b)(k:Wr B b c):Wr B a c:=⟨h.bel.trans k.bel,λi cs T q1 q2 q=>k.fr i cs T q1 q2 (h.fr i cs T q1 q2 q)⟩
def Wr.of {B:Nat}{w w':an}(h:aj w w')(hB:B<=w.heap.size):Wr B w w':=
 ⟨⟨h.os,h.tape,h.output,h.size,λi hi=>h.block i Ue⟩,λ_ _ _ _ _ q=>q.below h q.lt⟩
def Kl {w:an}{B n k:Nat}{v:Value}{xs:aq}{e T:TypeId}{i:Nat}{cs:Array Value}(h:w.ownsRow B e k v n xs)(hT:T≠e)(hb:dM w i cs T):some i≠v.ownBlock:=by
 rcases h.2 with⟨rfl,_⟩|⟨g,cap,UE,rfl,_,hg,_⟩
 ·intro q;cases q
 ·intro q;obtain rfl:i=g:=Option.some.inj q;unfold dM at hb;rw[hg]at hb
  injection hb with hb
  injection hb with _ h2 _
  exact hT h2.symm
def Km {w:an}{b i:Nat}{cs cs':Array Value}{T T':TypeId}(h:dM w b cs T)(h':dM w i cs' T')(hT:T'≠T):b≠i:=by
 rintro rfl;unfold dM at h h';rw[h]at h'
 injection h' with h'
 injection h' with _ h2 _
 exact hT h2.symm
def xK (b:Nat)(w:an)(h0:w.cell? (ai b 0)=some (d7 b)):
  Calls prog 228 #[d7 b] w λe w'=>e= .returned (.tuple #[])/\w'=w:=by
 have⟨j,hj,_⟩:=aW.1 Dw;go_in
 go_wp2;rw[Lib.run_neq_ptr_same w _ underlying281 hj];go_wp2;go_end0;exact⟨rfl,rfl⟩
def Dx (b:Nat)(w:an)(h0:w.cell? (ai b 0)=some (.pointer none))(hsh:w.shape? b=some (285,2))(hfz:w.frozen? (ai b 0)=false):
  Calls prog 228 #[d7 b] w λe w'=>e= .returned (.tuple #[])/\w'=w.setCell (ai b 0) (d7 b):=by
 have⟨j,hj,UF⟩:=aW.1 Dw;go_in
 go_wp2;rw[Lib.run_to_unsafe w (ai b 0) underlying281 underlying322 hj (by rw[UF];decide) hsh (Nat.zero_lt_succ 1)];simp only[Result.andThen];rw[Oper.upon_value];go_wp2;rw[run_callFunc_extern func313 Uj Uj Uj (e:=Extern.AbiNoEscape.same) Uj];rw[Lib.run_noEscape];simp only[Result.andThen];rw[Oper.upon_value];go_wp2;rw[Lib.run_from_unsafe w (ai b 0) underlying322 underlying281 hj hsh Kk];simp only[Result.andThen];rw[Oper.upon_value];go_wp2;go_end0;exact⟨rfl,rfl⟩
def Dy (B b:Nat)(l:List UInt8)(c:UInt8)(w:an)(h:fh w B b (d7 b) l)(hlen:l.length+1<=140737488355328)(hBw:B<=w.heap.size):
  Calls prog 391 #[d7 b,.int .u8 c.toNat] w λe w'=>e= .returned .nilIface/\fh w' B b (d7 b) (l++ [c])/\Wr B w w':=by
 have⟨i0,hi,Uy,Uz,UA⟩:=info_parts Aa;obtain⟨hB,v,Us,Ut,UB⟩:=h;have c0:w.cell? (ai b 0)=some (d7 b):=by rw[Lib.cell_of_heap Us];rfl
 have c1:w.cell? (ai b 1)=some v:=by rw[Lib.cell_of_heap Us];rfl
 have Ux:(Lib.byteCells l).length=l.length:=Lib.byteCells_length l;go_in
 go_wp2_with fail;refine(xK b w c0).mono ?_;rintro e w1 ⟨rfl,rfl⟩;go_wp2_with (at_builtin;refine wpList_append_own _ rfl _ _ 140 rfl B 5 i0 (.int .u8 0) 1 1 underlying140 hi Uy Uz UA rfl Uh _ _ _ rfl (Ut.alloc _) (ai w1.heap.size 0) 1 1 [.int .u8 c.toNat] rfl rfl ?c1 ?c2 ?c3 ?c4 ?c5 ?_)
 case c1=>
  intro j u hj
  match j,hj with
  |0,hj=>simp at hj;subst hj;simp[Addr.add]
 case c2=>intro u hu;simp at hu;subst hu;rfl
 case c3=>unfold maxLen;omega
 case c4=>omega
 case c5=>simp;omega
 intro v' w2 Ur Uq _;have Uv:b<w1.heap.size:=dM.lt Us
 have Uu:w2.heap[b]?=some (.cells #[d7 b,v] 285 (0,0)):=by
  rw[Uq.block b Ug (λe=>UB e.symm),Lib.alloc_old w1 _ b Uv];exact Us
 have d0:w2.cell? (ai b 0)=some (d7 b):=by rw[Lib.cell_of_heap Uu];rfl
 have d1:w2.cell? (ai b 1)=some v:=by rw[Lib.cell_of_heap Uu];rfl
 have f1:w2.frozen? (ai b 1)=false:=Lib.frozen_of_heap Uu 1
 obtain⟨g,cap,rfl⟩:∃g cap,v'= Ub g (l.length+1) cap:=by
  rcases Ur.2 with⟨_,h0⟩|⟨g,cap,UE,hv,_⟩
  ·omega
  ·exact⟨g,cap,hv⟩
 go_wp2;go_ret;refine⟨rfl,?_,?_⟩
 ·unfold fh;rw[Lib.byteCells_append];exact Lib.BuilderAt.put (T:=285) (e:=5) hB Uu (bs':=Lib.byteCells l++Lib.byteCells [c]) (by simpa [Lib.byteCells,Ux]using Ur) Uh
 ·exact⟨(((Below.refl B _).alloc Ue _).grown Uq Ug (λk hk=>(Ut.lt k hk).1)).setCell (p:=(ai b 1)) hB _,λi cs T q1 q2 q=>((q.alloc _).grown Uq (Kl Ut q1 q)).other _ _ (Km Us q q2)⟩
def yV (B b:Nat)(l:List UInt8)(s:am)(w:an)(h:fh w B b (d7 b) l)(hlen:l.length+s.size<=140737488355328)(hBw:B<=w.heap.size):
  Calls prog 237 #[d7 b,ae s] w λe w'=>e= .returned (.tuple #[aa s.size,.nilIface])/\fh w' B b (d7 b) (l++s.data.toList)/\Wr B w w':=by
 have⟨i0,hi,Uy,Uz,UA⟩:=info_parts Aa;obtain⟨hB,v,Us,Ut,UB⟩:=h;have c0:w.cell? (ai b 0)=some (d7 b):=by rw[Lib.cell_of_heap Us];rfl
 have c1:w.cell? (ai b 1)=some v:=by rw[Lib.cell_of_heap Us];rfl
 have Ux:(Lib.byteCells l).length=l.length:=Lib.byteCells_length l;go_in
 go_wp2_with fail;refine(xK b w c0).mono ?_;rintro e w1 ⟨rfl,rfl⟩;go_wp2_with (at_builtin;refine Lib.wpList_append_own_string _ rfl _ _ 140 9 rfl B 5 i0 underlying140 underlying9 hi Uy Uz UA _ _ _ rfl Ut s rfl ?c3 ?c4 ?c5 ?_)
 case c3=>unfold maxLen;omega
 case c4=>omega
 case c5=>omega
 intro v' w2 Ur Uq _;have Uv:b<w1.heap.size:=dM.lt Us
 have Uu:w2.heap[b]?=some (.cells #[d7 b,v] 285 (0,0)):=by
  rw[Uq.block b Uv (λe=>UB e.symm)];exact Us
 have d0:w2.cell? (ai b 0)=some (d7 b):=by rw[Lib.cell_of_heap Uu];rfl
 have d1:w2.cell? (ai b 1)=some v:=by rw[Lib.cell_of_heap Uu];rfl
 have f1:w2.frozen? (ai b 1)=false:=Lib.frozen_of_heap Uu 1
 obtain⟨ao,n',cap,rfl⟩:∃ao n' cap,v'= .slice ao n' cap:=by
  rcases Ur.2 with⟨hv,_⟩|⟨g,cap,UE,hv,_⟩
  ·exact⟨_,_,_,hv⟩
  ·exact⟨_,_,_,hv⟩
 go_wp2;go_ret2;refine⟨rfl,?_,?_⟩
 ·unfold fh;rw[Lib.byteCells_append];exact Lib.BuilderAt.put (T:=285) (e:=5) hB Uu (bs':=Lib.byteCells l++Lib.strCells s) (by simpa [Lib.strCells_length,Ux]using Ur) Uh
 ·exact⟨((Below.refl B _).grown Uq Ue (λk hk=>(Ut.lt k hk).1)).setCell (p:=(ai b 1)) hB _,λi cs T q1 q2 q=>(q.grown Uq (Kl Ut q1 q)).other _ _ (Km Us q q2)⟩
def PQ (B b n:Nat)(w:an)(hB:B<=b)(Us:dM w b #[d7 b,ah] 285)(hBw:B<=w.heap.size)(hn:n<=140737488355328):
  Calls prog 229 #[d7 b,aa n] w λe w'=>e= .returned (.tuple #[])/\fh w' B b (d7 b) []/\Below B w w':=by
 have mixed:prog.follows Departure.mixedOrders=true:=Uj;have⟨cs,UC,hle,UD⟩:=Lib.run_makeNoZero (P:=prog) w.drew #[3] 140 5 underlying140 n Ue
 have hw:IntKind.i64.wrap (IntKind.i64.wrap 0+(n:Int))=n:=by
  rw[IntKind.wrap_i64,IntKind.wrap_i64];omega
 have hcall:(callFunc 314 #[aa (IntKind.i64.wrap (IntKind.i64.wrap 0+(n:Int)))]).run prog w.drew= .ok (.value (Ub w.drew.heap.size n cs.size)) (w.drew.drew.drew.alloc (.cells cs 5)):=by
  rw[hw,run_callFunc_extern func314 Uj Uj Uj (e:=Extern.BytealgMakeNoZero.makeNoZero #[3] #[140]) Uj,UC];rfl
 have Uv:=Us.lt;have c1:w.drew.cell? (ai b 1)=some (ah):=Us.cell 1;have k2:dM (w.alloc (.cells cs 5)) b #[d7 b,ah] 285:=Us.alloc _;have c2:(w.alloc (.cells cs 5)).cell? (ai b 1)=some (ah):=k2.cell 1;have f2:(w.alloc (.cells cs 5)).frozen? (ai b 1)=false:=k2.rules.2 1
 have hcopy:∀W:an,(Builtin.copy_ #[140,140] 3 #[Ub w.heap.size 0 cs.size,ah]).run prog W= .ok (goInt 0) W:=
  λW=>run_copy_none W 140 140 3 5 _ _ 0 cs.size 0 0 underlying140 Uj rfl
 clear hw;have Uw:=Lib.grown_fresh (T:=285) (e:=5) (cs:=cs) hB Us hBw (UD Ul) Uh;rw[World.setCell_alloc_past _ _ _ _ Uv]at Uw;go_in
 go_wp2;go_region_o
 all_goals (go_wp2;go_end0;exact⟨rfl,Uw⟩)
def PT (B b n:Nat)(w:an)(hB:B<=b)(Uq:dM w b #[.pointer none,ah] 285)(hBw:B<=w.heap.size)(hn:n<=140737488355328):
  Calls prog 151 #[d7 b,aa n] w λe w'=>e= .returned (.tuple #[])/\fh w' B b (d7 b) []/\Below B w w':=by
 have mixed:prog.follows Departure.mixedOrders=true:=Uj;have Ur:dM (w.setCell (ai b 0) (d7 b)) b #[d7 b,ah] 285:=Uq.set 0 _;have c1:(w.setCell (ai b 0) (d7 b)).cell? (ai b 1)=some (ah):=Ur.cell 1;have Uw:Below B w (w.setCell (ai b 0) (d7 b)):=(Below.refl B w).setCell (p:=(ai b 0)) hB _;have hU:fh (w.setCell (ai b 0) (d7 b)) B b (d7 b) []:=⟨hB,ah,Ur,bm _ _ _ _,by simp[Value.ownBlock]⟩;have c1':(w.setCell (ai b 0) (d7 b)).drew.cell? (ai b 1)=some (ah):=c1;go_in
 go_wp2_with fail;refine(Dx b w (Uq.cell 0) (by simp[World.shape?,show w.heap[b]?=_ from Uq]) (Uq.rules.2 0)).mono ?_;rintro e w' ⟨rfl,rfl⟩;go_wp2;go_region_o
 all_goals go_wp2_with (go_at_call 229;refine(PQ B b n (w.setCell (ai b 0) (d7 b)).drew hB Ur (by simpa [World.setCell,World.drew,-World.drew_eq]using hBw) hn).mono ?_;rintro e w' ⟨rfl,h1,h2⟩)
 all_goals first
  |(go_end0;exact⟨rfl,h1,Uw.drew.trans h2⟩)
  |(go_end0;exact⟨rfl,hU.drew,Uw.drew⟩)
def Kn (B b:Nat)(l:List UInt8)(w:an)(h:fh w B b (d7 b) l)(hBw:B<=w.heap.size):
  Calls prog 155 #[d7 b] w λe w'=>e= .returned (ae ⟨l.toArray⟩)/\Below B w w':=by
 have mixed:prog.follows Departure.mixedOrders=true:=Uj;obtain⟨hB,v,Uq,Us,hne⟩:=h;have Uz:∀(W:an) (q:aw),(Builtin.unsafeString_ #[357,3] 9 #[.pointer q,aa 0]).run prog W= .ok (.string .empty) W:=λW q=>Lib.run_unsafeString_none W _ _ _ q
 rw[Lib.byteCells_length]at Us;have hlt:=dM.lt Uq
 rcases Us.2 with⟨rfl,hz⟩|⟨g,cap,Ut,rfl,UB,hg,Ux,UC,Uy,htake⟩
 ·obtain rfl:=List.length_eq_zero_iff.1 hz;have c1:w.drew.cell? (ai b 1)=some (ah):=dM.cell Uq 1;have Uu:(Builtin.unsafeSliceData_ #[140] 357 #[ah]).run prog w.drew= .ok (.pointer none) w.drew:=rfl;go_in
  go_wp2;go_region_o
  all_goals (go_wp2;go_ret;exact⟨rfl,Below.drew (Below.refl B w)⟩)
 ·cases l with
  |nil=>
   by_cases hc0:cap=0
   ·subst hc0;have c1:w.drew.cell? (ai b 1)=some (Ub g 0 0):=dM.cell Uq 1
    have Uu:(Builtin.unsafeSliceData_ #[140] 357 #[Ub g 0 0]).run prog w.drew= .ok (ag w.drew.heap.size) (w.drew.alloc (.view (ai g 0) 5)):=
     Lib.run_unsafeSliceData_zero w.drew _ _ 5 underlying357 (ai g 0) 0 (5,Ut.size) (by have Uv:w.drew.heap[g]?=some (.cells Ut 5 (0,0)):=hg;simp[World.shape?,Uv])
    have c2:(w.drew.alloc (.view (ai g 0) 5)).cell? (ai b 1)=some (Ub g 0 0):=(dM.alloc (w:=w.drew) Uq _).cell 1;have c3:(w.alloc (.view (ai g 0) 5)).drew.cell? (ai b 1)=some (Ub g 0 0):=c2;have c0:w.cell? (ai b 1)=some (Ub g 0 0):=c1;go_in
    go_wp2;go_region_o
    all_goals (go_wp2;go_ret;exact⟨rfl,(Below.drew (Below.refl B w)).alloc hBw _⟩)
   ·have c1:w.drew.cell? (ai b 1)=some (Ub g 0 cap):=dM.cell Uq 1
    have Uu:(Builtin.unsafeSliceData_ #[140] 357 #[Ub g 0 cap]).run prog w.drew= .ok (ag g) w.drew:=
     Lib.run_unsafeSliceData_row _ _ _ _ _ _ hc0
    clear hc0 Ux Uy;go_in
    go_wp2;go_region_o
    all_goals (go_wp2;go_ret;exact⟨rfl,Below.drew (Below.refl B w)⟩)
  |cons x r=>
   have h0:x::r≠ []:=Uf;generalize x::r=l at*;have UA:l.length≠0:=by simpa using h0
   have c1:w.drew.cell? (ai b 1)=some (Ub g l.length cap):=dM.cell Uq 1
   have Uu:(Builtin.unsafeSliceData_ #[140] 357 #[Ub g l.length cap]).run prog w.drew= .ok (ag g) w.drew:=
    Lib.run_unsafeSliceData_row _ _ _ _ _ _ Ue
   have Uz:(Builtin.unsafeString_ #[357,3] 9 #[ag g,aa l.length]).run prog w.drew= .ok (ae ⟨l.toArray⟩) (w.drew.freeze (ai g 0) l.length):=by
    refine Lib.run_unsafeString_row w.drew 357 3 9 5 underlying357 Uj g Ut.size (by have Uv:w.drew.heap[g]?=some (.cells Ut 5 (0,0)):=hg;simp[World.shape?,Uv]) l h0 Ue (by unfold maxLen at UC;omega) ?_;intro j x hx;exact Us.cells (g:=g) rfl j (.int .u8 x.toNat) (by simp[Lib.byteCells,hx])
   clear UA Ux Uy;go_in
   go_wp2;go_region_o
   all_goals (go_wp2;go_ret;exact⟨rfl,Lib.below_freeze (Below.drew (Below.refl B w)) (p:=(ai g 0)) UB _⟩)
section
open Uq
def Cq (n:Int):UInt8:=UInt8.ofNat n.toNat
def xL {n:Int}(h0:0<=n)(h1:n<256):((Cq n).toNat:Int)=n:=by
 unfold Cq;rw[UInt8.toNat_ofNat'];omega
def tZ:Nat->Int->List UInt8
 |0,v=> [Cq v]
 |f+1,v=>if v<128 then [Cq v]else Cq (v%128+128)::tZ f (v/128)
def vi (v:Int):List UInt8:=tZ 9 v
def ol:Nat->Int->List UInt8
 |0,_=> []
 |n+1,v=>Cq (v%256)::ol n (v/256)
def ia:∀(n:Nat) (v:Int),(ol n v).length=n
 |0,_=>rfl
 |n+1,v=>by simp[ol,ia n]
def m8:∀(f:Nat) (v:Int),(tZ f v).length<=f+1/\0<(tZ f v).length
 |0,_=>by simp[tZ]
 |f+1,v=>by
  rw[tZ];have:=m8 f (v/128)
  split<;>simp<;>omega
def PU {v:Int}(h0:0<=v):bits .or .u8 (v%256) 128=v%128+128:=by
 obtain⟨n,rfl⟩:=bt h0;have h:∀k:Fin 256,bits .or .u8 (k.val:Int) 128=((k.val%128+128:Nat):Int):=Ui;rw[show(n:Int)%256=((n%256:Nat):Int)by omega,h ⟨n%256,Ue⟩];simp only;omega
def iw (B b:Nat)(l x:List UInt8)(w:an)(e:Ending)(w':an):Prop:=e= .returned (.tuple #[])/\fh w' B b (d7 b) (l++x)/\Wr B w w'
section
variable {B b:Nat} {l:List UInt8} {w:an}
def fh.lt (h:fh w B b (d7 b) l):b<w.heap.size:=dM.lt h.2.choose_spec.1
def Ko (c:Int)(h:fh w B b (d7 b) l)(h0:0<=c)(h1:c<256)(hlen:l.length+1<=140737488355328)(hBw:B<=w.heap.size):
  Ua 391 #[d7 b,.int .u8 c] w λe w'=>e= .returned .nilIface/\fh w' B b (d7 b) (l++ [Cq c])/\Wr B w w':=by
 have:=Dy B b l (Cq c) w h hlen hBw
 rwa [xL h0 h1]at this
def nX (v:Int)(h:fh w B b (d7 b) l)(h0:0<=v)(h1:v<18446744073709551616)(hlen:l.length+(vi v).length<=140737488355328)(hBw:B<=w.heap.size):
  Calls prog 315 #[d7 b,.int .u64 v] w (iw B b l (vi v) w):=by
 have hb0:=h.lt;go_in
 go_wp2;go_loopw [1] (λuv wr=>∃(u:Int) (f:Nat) (l1:List UInt8),uv= .int .u64 u/\0<=u/\u<18446744073709551616/\u<128^(f+1)/\Hid (l1++tZ f u=l++vi v)/\fh wr B b (d7 b) l1/\Wr B w wr) (λuv _=>(intOf uv).toNat)
 case atStart=>exact⟨v,9,l,rfl,h0,h1,Ue,rfl,h,Wr.refl _ _⟩
 case round=>
  obtain⟨u,f,l1,rfl,u0,u1,u2,HL,hW,hB⟩:=hrel
  have Uq:l1.length+(tZ f u).length<=140737488355328:=by
   have:=dH List.length HL.out;simp only[aH]at this;omega
  have hsz:=hB.bel.size
  by_cases Ur:u<128
  ·have hd:decide (128<=u)=false:=by simpa using Ur
   have hn:tZ f u= [Cq u]:=by cases f<;>simp[tZ,Ur]
   have hw:u%256=u:=Ue;rw[hn]at HL Uq;rw[List.length_singleton]at Uq;go_wp2_with fail;refine(Ko u hW u0 Ue Uq Ue).mono ?_;rintro e w2 ⟨rfl,q1,q2⟩;go_wp2;go_end0;exact⟨rfl,by rw[<-HL.out];exact q1,hB.trans q2⟩
  ·have hd:decide (128<=u)=true:=by simpa using Ur
   obtain⟨f,rfl⟩:∃g,f=g+1:=⟨f-1,by
    cases f with
    |zero=>simp at u2;omega
    |succ f=>rfl⟩
   have hn:tZ (f+1) u=Cq (u%128+128)::tZ f (u/128):=by rw[tZ,dD Ur]
   have hor:=PU u0;rw[hn]at HL Uq;simp only[be]at Uq;go_wp2_with fail;refine(Ko (u%128+128) hW Ue Ue Ue Ue).mono ?_;rintro e w2 ⟨rfl,q1,q2⟩;go_wp2;refine⟨⟨u/128,f,l1++ [Cq (u%128+128)],?_,Ue,Ue,?_,?_,q1,hB.trans q2⟩,?_⟩
   ·rfl
   ·rw[Int.pow_succ]at u2;omega
   ·show l1++ [Cq (u%128+128)]++tZ f (u/128)=l++vi v;rw[aZ];exact HL.out
   ·simp[intOf];omega
def Dz (v:Int)(n:Nat)(h:fh w B b (d7 b) l)(h0:0<=v)(h1:v<18446744073709551616)(hn:n<=8)(hlen:l.length+n<=140737488355328)(hBw:B<=w.heap.size):
  Calls prog 392 #[d7 b,.int .u64 v,aa n] w (iw B b l (ol n v) w):=by
 go_in
 go_wp2;go_loopw [1,7] (λuv iv wr=>∃(u:Int) (i j:Nat) (l1:List UInt8),uv= .int .u64 u/\iv=aa i/\0<=u/\u<18446744073709551616/\i+j=n/\Hid (l1++ol j u=l++ol n v)/\fh wr B b (d7 b) l1/\Wr B w wr) (λ_ iv _=>n-(intOf iv).toNat)
 case atStart=>exact⟨v,0,n,l,rfl,rfl,h0,h1,Ue,rfl,h,Wr.refl _ _⟩
 case round=>
  obtain⟨u,i,j,l1,rfl,rfl,u0,u1,Us,HL,hW,hB⟩:=hrel
  have Uq:l1.length+j<=140737488355328:=by
   have:=dH List.length HL.out;simp only[aH,ia]at this;omega
  have hsz:=hB.bel.size
  cases j with
  |zero=>
   obtain rfl:i=n:=Ue;clear Us;go_wp2;go_end0;exact⟨rfl,by rw[<-HL.out,ol,bN];exact hW,hB⟩
  |succ j=>
   have Ur:(i:Int)<n:=Ue;go_wp2_with fail;refine(Ko (u%256) hW Ue Ue Ue Ue).mono ?_;rintro e w2 ⟨rfl,q1,q2⟩;go_wp2;refine⟨⟨u/256,i+1,j,l1++ [Cq (u%256)],rfl,rfl,Ue,Ue,Ue,((aZ _ _ _).trans HL.out:_=_),q1,hB.trans q2⟩,?_⟩;simp[intOf];omega
def Kq (v:Int)(h:fh w B b (d7 b) l)(h0:0<=v)(h1:v<18446744073709551616)(hlen:l.length+(ol 4 v).length<=140737488355328)(hBw:B<=w.heap.size):
  Calls prog 319 #[d7 b,.int .u64 v] w (iw B b l (ol 4 v) w):=by
 rw[ia]at hlen;go_in
 go_wp2_with fail;refine(Dz v 4 h h0 h1 Ue hlen hBw).mono ?_;rintro e w2 ⟨rfl,q⟩;go_wp2;go_end0;exact⟨rfl,q⟩
def Gr (v:Int)(h:fh w B b (d7 b) l)(h0:0<=v)(h1:v<18446744073709551616)(hlen:l.length+(ol 8 v).length<=140737488355328)(hBw:B<=w.heap.size):
  Calls prog 320 #[d7 b,.int .u64 v] w (iw B b l (ol 8 v) w):=by
 rw[ia]at hlen;go_in
 go_wp2_with fail;refine(Dz v 8 h h0 h1 Ue hlen hBw).mono ?_;rintro e w2 ⟨rfl,q⟩;go_wp2;go_end0;exact⟨rfl,q⟩
def pM (n:Nat)(h:fh w B b (d7 b) l)(hn:n<=140737488355328)(hlen:l.length+(vi n).length<=140737488355328)(hBw:B<=w.heap.size):
  Calls prog 232 #[d7 b,aa n] w (iw B b l (vi n) w):=by
 have hw:IntKind.u64.wrap (n:Int)=n:=gm Ue Ue;have hm:(n:Int)%18446744073709551616=n:=Ue;go_in
 go_wp2_with fail;refine(nX (n:Int) h Ue Ue hlen hBw).mono ?_;rintro e w2 ⟨rfl,q⟩;go_wp2;go_end0;exact⟨rfl,q⟩
def ue (s:am)(h:fh w B b (d7 b) l)(hlen:l.length+s.data.toList.length<=140737488355328)(hBw:B<=w.heap.size):
  Calls prog 154 #[d7 b,ae s] w (iw B b l s.data.toList w):=by
 go_in
 go_wp2_with fail;refine(yV B b l s w h hlen hBw).mono ?_;rintro e w2 ⟨rfl,q⟩;go_wp2;go_end0;exact⟨rfl,q⟩
def eZ (x:List UInt8):List UInt8:=vi x.length++x
def Gs (s:am)(h:fh w B b (d7 b) l)(hlen:l.length+(eZ s.data.toList).length<=140737488355328)(hBw:B<=w.heap.size):
  Calls prog 318 #[d7 b,ae s] w (iw B b l (eZ s.data.toList) w):=by
 unfold eZ at*;have hs:s.data.toList.length=s.size:=Uf;rw[aH]at hlen;rw[hs]at hlen⊢;go_in
 go_wp2_with fail;refine(pM s.size h Ue Ue hBw).mono ?_;rintro e w2 ⟨rfl,q1,q2⟩;have:=q2.bel.size;go_wp2_with fail;refine(ue s q1 (by rw[hs,aH];omega) Ue).mono ?_;rintro e w3 ⟨rfl,r1,r2⟩;go_wp2;go_end0;exact⟨rfl,by rw[aZ]at r1;exact r1,q2.trans r2⟩
def Ab (h:fh w B b (d7 b) l)(hBw:B<=w.heap.size):
  Calls prog 98 #[d7 b] w λe w'=>e= .returned (ae ⟨l.toArray⟩)/\Below B w w':=by
 go_in
 go_wp2_with fail;refine(Kn B b l w h hBw).mono ?_;rintro e w2 ⟨rfl,q⟩;go_wp2;go_ret;exact⟨rfl,q⟩
def uS (n:Nat)(hn:n<=140737488355328)(hBw:B<=w.heap.size):
  Calls prog 96 #[aa n] w λe w'=>∃b,e= .returned (d7 b)/\w.heap.size<=b/\fh w' B b (d7 b) []/\Below B w w':=by
 have K:=dM.new w #[.pointer none,ah] 285;have B1:Below B w (w.alloc (.cells #[.pointer none,ah] 285)):=(Below.refl _ _).alloc hBw _;have hs1:w.heap.size+1=(w.alloc (.cells #[.pointer none,ah] 285)).heap.size:=Uf;go_in
 go_wp2_with fail;refine(PT B w.heap.size n _ hBw K Ue hn).mono ?_;rintro e w2 ⟨rfl,q1,q2⟩;go_wp2;go_ret;exact⟨_,rfl,ay _,q1,B1.trans q2⟩
end
end
end Go.Proofs.YtfebdimolnobaaaGreatDoor
namespace Go.Proofs
open Go.Shelf
def Tryz.laysLn_ren:Go.Shelf.Ren:=⟨fun|129=>255|n=>n,fun|53=>53|3=>3|4=>4|46=>295|5=>5|9=>9|n=>n,fun|n=>n⟩
theorem Tryz.laysLn:Go.Proofs.Lays.n129 Tryz.prog Tryz.laysLn_ren:=by constructor<;>first|kernel_rfl|(intro w;kernel_rfl)
end Go.Proofs
namespace Go.Proofs.YtfebdimolnobaaaGreatDoor
open Go.RowKit Go.Proofs.Tryz
section
open Uq
def uT (x:Nat):(x|||1)/2=x/2:=by
 have h1:=Nat.shiftRight_or_distrib (a:=x) (b:=1) (i:=1);simpa [Nat.shiftRight_succ]using h1
def Bt (x:Nat):(x|||1)=x\/(x|||1)=x+1:=by
 have h:=uT x
 have h2:(x|||1)%2=1:=by
  have:=Nat.and_one_is_mod (x|||1);rw[<-this,Nat.and_or_distrib_right];simp
  rcases Nat.mod_two_eq_zero_or_one x with q|q<;>rw[q]<;>rfl
 omega
def Ac {x:Nat}(h:x≠0)(h1:x<18446744073709551616):Lib.bitLen (x|||1)=Lib.bitLen x:=by
 have:=Bt x;have hh:=uT x;have Ut:x|||1<2^64:=Nat.or_lt_two_pow h1 Uh
 rw[Lib.bitLen_half x h h1,Lib.bitLen_half (x|||1) Ue Ut,hh]
def DB:∀(f x:Nat),x<128^(f+1)->x<18446744073709551616->(tZ f x).length=(Lib.bitLen (x|||1)+6)/7
 |f,x,h,h1=>by
  by_cases hx:x<128
  ·have e:(tZ f (x:Int)).length=1:=by
    have:(x:Int)<128:=Ue
    cases f<;>simp[tZ,this]
   have:∀k:Fin 128,1=(Lib.bitLen (k.val|||1)+6)/7:=Ui;rw[e];exact this ⟨x,hx⟩
  ·cases f with
   |zero=>simp at h;omega
   |succ f=>
    have hb:Lib.bitLen (x|||1)=7+Lib.bitLen (x/128):=by
     rw[Ac Ue h1];exact Lib.bitLen_shift 7 x Ue h1
    have ih:=DB f (x/128) (by rw[Nat.pow_succ]at h;omega) Ue;rw[Ac Ue Ue]at ih;rw[tZ,dD Ue,be,show((x:Int)/128)=((x/128:Nat):Int)by omega,ih,hb];omega
def DC (x:Int)(w:an)(h0:0<=x)(h1:x<=18446744073709551615):Ua 255 #[.int .u64 x] w λe w'=>e= .returned (aa (Lib.bitLen x.toNat))/\w'=w:=Any.bits_Len64 Tryz.laysLn x w h0 h1
def Rq {w:an}{fb:Nat}{a b c d e:Value}{T:TypeId}(h:dM w fb #[a,b,c,d,e] T):w.cell? (ai fb 0)=some a/\w.cell? (ai fb 2)=some c/\w.cell? (ai fb 3)=some d:=⟨h.cell 0,h.cell 2,h.cell 3⟩
section
variable (w:an)
def nY (x:Int)(h0:0<=x)(h1:x<18446744073709551616):Calls prog 328 #[.int .u64 x] w λe w'=>e= .returned (aa (vi x).length)/\w'=w:=by
 obtain⟨n,rfl⟩:=bt h0;have hor:bits .or .u64 (n:Int) 1=((n|||1:Nat):Int):=bits_or_u64_nat n 1 Ue Ue;have Ut:n|||1<2^64:=Nat.or_lt_two_pow Ue Uh
 have hl:=DC ((n|||1:Nat):Int) w Ue Ue;have hs:(vi (n:Int)).length=(Lib.bitLen (n|||1)+6)/7:=DB 9 n Ue Ue;have Uu:=(m8 9 (n:Int)).1;rw[Int.toNat_natCast]at hl;rw[hs];have hle2:(Lib.bitLen (n|||1)+6)/7<=10:=by rw[<-hs];exact Uu
 clear hs Uu;generalize Lib.bitLen (n|||1)=y at*;generalize n|||1=o at*
 go_in
 go_wp2_with fail;refine hl.mono ?_;rintro e w2 ⟨rfl,rfl⟩;go_wp2;go_ret;exact⟨by rw[show(((y+6)/7:Nat):Int)=((y:Int)+6)/7 by omega];rfl,rfl⟩
def PW {n k:Int}(h0:0<=n)(h1:n<=536870911)(k0:0<=k)(k1:k<8):bits .or .u64 (n*8) k=n*8+k:=by
 obtain⟨a,rfl⟩:=bt h0;obtain⟨c,rfl⟩:=bt k0;rw[show(a:Int)*8=((a*8:Nat):Int)by omega,bits_or_u64_nat (a*8) c Ue Ue,show a*8=a<<<3 by rw[df],<-cX (by omega:c<2^3),df];omega
def Kr (n k:Int)(h0:0<=n)(h1:n<=536870911)(k0:0<=k)(k1:k<8):Calls prog 316 #[.agg #[aa n,aa k]] w λe w'=>e= .returned (.int .u64 (n*8+k))/\aj w w':=by
 have ho:=PW h0 h1 k0 k1;have m1:n%18446744073709551616=n:=Ue;have m2:k%18446744073709551616=k:=Ue;have m3:n*8%18446744073709551616=n*8:=Ue;have⟨k1,k2⟩:=(dM.new w #[aa n,aa k] 237).rules;go_in
 go_wp2;go_ret;exact⟨rfl,(Below.refl _ _).alloc (ay _) _⟩
def eY (n k:Int):List UInt8:=vi (n*8+k)
def OW (n k:Int)(h0:0<=n)(h1:n<=536870911)(k0:0<=k)(k1:k<8):Calls prog 242 #[.agg #[aa n,aa k]] w λe w'=>e= .returned (aa (eY n k).length)/\aj w w':=by
 have⟨r1,r2⟩:=(dM.new w #[aa n,aa k] 237).rules;have B1:aj w (w.alloc (ak #[aa n,aa k] 237)):=(Below.refl _ _).alloc (ay _) _;go_in
 go_wp2_with fail;refine(Kr _ n k h0 h1 k0 k1).mono ?_;rintro e w2 ⟨rfl,b2⟩;go_wp2_with fail;refine(nY _ (n*8+k) Ue Ue).mono ?_;rintro e w3 ⟨rfl,rfl⟩;go_wp2;go_ret;exact⟨rfl,ew B1 b2⟩
def ug (x:List UInt8)(h:x.length<=140737488355328):Calls prog 243 #[aa x.length] w λe w'=>e= .returned (aa (eZ x).length)/\w'=w:=by
 have m1:(x.length:Int)%18446744073709551616=x.length:=Ue;have hl:=(m8 9 (x.length:Int)).1;have hL:(eZ x).length=(vi x.length).length+x.length:=by rw[eZ,aH]
 have hz:=nY w x.length Ue Ue;rw[hL];rw[show(tZ 9 (x.length:Int))=vi x.length from rfl]at hl;generalize(vi (x.length:Int)).length=y at*;generalize x.length=n at*;go_in
 go_wp2_with fail;refine hz.mono ?_;rintro e w2 ⟨rfl,rfl⟩;go_wp2;go_ret;exact⟨by rw[dw];rfl,rfl⟩
def Bu (v:Int):Int:=if v<9223372036854775808 then 2*v else 36893488147419103231-2*v
def sL (v:Int)(h0:0<=v)(h1:v<18446744073709551616):Calls prog 321 #[.int .u64 v] w λe w'=>e= .returned (.int .u64 (Bu v))/\w'=w:=by
 unfold Bu
 by_cases h:v<9223372036854775808
 ·rw[dE h];have hd:v/9223372036854775808=0:=Ue;have hx:=qT (n:=v*2) Ue Ue;have hm:v*2%18446744073709551616=v*2:=Ue;go_in
  go_wp2;go_ret;exact⟨by rw[Int.mul_comm 2 v];rfl,rfl⟩
 ·rw[dD h];have hd:v/9223372036854775808=1:=Ue;have hm:IntKind.u64.wrap (v*2)=v*2-18446744073709551616:=by simp[IntKind.wrap,IntKind.bits,IntKind.signed];omega
  have hw:IntKind.u64.wrap (-1)=18446744073709551615:=Uh;have hx:=qS (n:=v*2-18446744073709551616) Ue Ue;go_in
  go_wp2;go_ret;exact⟨by rw[show(36893488147419103231:Int)-2*v=18446744073709551615-(v*2-18446744073709551616)by omega];rfl,rfl⟩
end
def Ad (mp:am->Option Nat)(g:GF):Int:=if gR mp g then 2 else ee (eh mp g)
def Ks (k:Nat):ee k<8:=by
 unfold ee
 repeat' split
 all_goals omega
def sM (mp:am->Option Nat)(g:GF):0<=Ad mp g/\Ad mp g<8:=by
 have:=Ks (eh mp g);unfold Ad
 split<;>omega
def fh.on {B b:Nat}{l:List UInt8}{w w':an}(h:fh w B b (d7 b) l)(hb:aj w w'):fh w' B b (d7 b) l:=by
 obtain⟨h1,v,h2,h3,h4⟩:=h;exact⟨h1,v,dM.below h2 hb (dM.lt h2),eH hb h3,h4⟩
def dV {n m:Nat}{a b:an}(h:Below n a b)(hm:m<=n):Below m a b:=⟨h.os,h.tape,h.output,h.size,λi hi=>h.block i Ue⟩
section
variable {B b:Nat} {l:List UInt8} {w:an}
def Kt (n k:Int)(h0:0<=n)(h1:n<=536870911)(k0:0<=k)(k1:k<8)(h:fh w B b (d7 b) l)(hlen:l.length+(eY n k).length<=140737488355328)(hBw:B<=w.heap.size):
  Calls prog 230 #[d7 b,.agg #[aa n,aa k]] w (iw B b l (eY n k) w):=by
 have⟨r1,r2⟩:=(dM.new w #[aa n,aa k] 237).rules;have B1:aj w (w.alloc (ak #[aa n,aa k] 237)):=(Below.refl _ _).alloc (ay _) _;go_in
 go_wp2_with fail;refine(Kr _ n k h0 h1 k0 k1).mono ?_;rintro e w2 ⟨rfl,b2⟩;have b3:=ew B1 b2;have hs:=b3.size;go_wp2_with fail;refine(nX (n*8+k) (h.on b3) Ue Ue hlen Ue).mono ?_;rintro e w3 ⟨rfl,q1,q2⟩;go_wp2;go_end0;exact⟨rfl,q1,(Wr.of b3 hBw).trans q2⟩
end
section
variable (w:an) (P:ap) (mp:am->Option Nat) (g:GF) (fb:Nat)
def xM (h:eJ w P mp g fb):Calls prog 231 #[ag fb] w λe w'=>e= .returned (.agg #[aa g.f.num,aa (Ad mp g)])/\aj w w':=by
 have⟨pv,rv,h1,_,Ur,Uw⟩:=h.blk;obtain⟨pq,rfl⟩:=gq Uw;obtain⟨ra,rn,rc,rfl⟩:=dN Ur.1;have⟨B1,KR⟩:=dS w #[aa 0,aa 0] 237;have Us:=lT _ P mp g fb (h.keep (λb _ hl=>B1.block b hl));have Ux:=lr mp g;have hW:=λW=>py W (eh mp g) (.pointer pq) Ux
 clear Uw Ur h;unfold Ad
 cases hpk:gR mp g with
 |true=>
  rw[hpk]at Us;go_in
  go_wp2_with fail;refine Us.mono ?_;rintro e w2 ⟨rfl,b2⟩;have b3:=ew B1 b2;have⟨k3,k4⟩:=(dM.below h1 b3 h1.lt).rules;have Uq:=KR.below b2 KR.lt;have⟨k5,k6⟩:=Uq.rules;go_wp2;refine dG (ec results231 _ _ rfl ((Uq.set 0 _).set 1 _) underlying237 Uj) rfl ?_;exact⟨rfl,(b3.setCell (p:=(ai w.heap.size 0)) (ay _) _).setCell (p:=(ai w.heap.size 1)) (ay _) _⟩
 |false=>
  rw[hpk]at Us;generalize ee (eh mp g)=wb at*;go_in
  go_wp2_with fail;refine Us.mono ?_;rintro e w2 ⟨rfl,b2⟩;have b3:=ew B1 b2;have K2:=dM.below h1 b3 h1.lt;have Uq:=KR.below b2 KR.lt;have hf2:=K2.lt;have hr2:=Uq.lt;have hfw:=h1.lt;go_upto_region 3 with fail
  go_region_held2 (λW=>W.cell? (ai fb 0)=some (aa g.f.num)/\W.cell? (ai fb 2)=some (aa (eh mp g))/\W.cell? (ai fb 3)=some (.pointer pq))
   ((refine Rq (b:=aa g.form) (e:= .slice ra rn rc) (T:=220) ?_;repeat (first|exact K3|exact K2|refine dM.drew ?_|refine dM.other ?_ _ _ (by first|exact of_eq_false Uo|omega))))
   (first|(go_at_call 208;refine(hW _).mono ?_;rintro e w3 ⟨rfl,b4⟩;have b5:aj w2 w3:=ew (Below.refl _ _).drew b4;have K3:=K2.below b5 K2.lt;have Uv:=Uq.below b5 Uq.lt;have⟨k5,k6⟩:=Uv.rules))
  all_goals
   go_wp2;refine dG (ec results231 _ _ rfl ((Uv.set 0 _).set 1 _) underlying237 Uj) rfl ?_;exact⟨rfl,((ew b3 b5).setCell (p:=(ai w.heap.size 0)) (ay _) _).setCell (p:=(ai w.heap.size 1)) (ay _) _⟩
end
end
section
variable {a:aw} {w w':an} {n c k:Nat} {m:PM} {P:Value->PM->Prop} {Z:ap} {vv v:Value} {l:List PV}
theorem Nx (a:Addr):a.add 0=a:=by unfold Addr.add;simp
theorem kX {a:Addr}{j:Nat}{x:Option Value}(h:w.cell? (a.add (n+(j+1)))=x):w.cell? (ai ((a.add n).block) ((a.add n).off+(j+1)))=x:=by
 rw[show((ai ((a.add n).block) ((a.add n).off+(j+1))):Addr)=a.add (n+(j+1))by unfold Addr.add;by_cases h:n=0<;>simp[h,cN]];exact h
def jj (w:an)(Z:ap)(v:Value)(n:Nat)(xs:aq):Prop:=
 ∃a c,v= .slice a n c/\n<=c/\(0<n->∃ad:Addr,a=some ad/\Z ad.block/\ad.block<w.heap.size/\∀w':an,w'.heap[ad.block]?=w.heap[ad.block]?->∀p u,xs[p]?=some u->w'.cell? (ad.add p)=some u)
section
variable {w w':an} {Z Y:ap} {v:Value} {n:Nat} {xs:aq}
theorem jj.form (h:jj w Z v n xs):∃a c,v= .slice a n c:=by
 obtain⟨a,c,h,_⟩:=h;exact⟨a,c,h⟩
theorem jj.cap (h:jj w Z (.slice a n c) n xs):n<=c:=by
 obtain⟨a',c',h,h2,_⟩:=h
 cases h
 exact h2
theorem jj.at {m:Nat}(h:jj w Z (.slice a m c) n xs)(hn:0<n):∃ad:Addr,a=some ad/\Z ad.block/\ad.block<w.heap.size/\∀w':an,w'.heap[ad.block]?=w.heap[ad.block]?->∀p u,xs[p]?=some u->w'.cell? (ad.add p)=some u:=by
 obtain⟨a',c',h,_,h3⟩:=h
 cases h
 exact h3 hn
theorem jj.keep (h:jj w Z v n xs)(hk:∀b,Z b->b<w.heap.size->w'.heap[b]?=w.heap[b]?):jj w' Z v n xs:=by
 obtain⟨a,c,h1,h2,h3⟩:=h;refine⟨a,c,h1,h2,λhn=> ?_⟩;have⟨ad,q1,q2,q3,q4⟩:=h3 hn;have e:=hk _ q2 q3;refine⟨ad,q1,q2,?_,λw2 h2=>q4 w2 (h2.trans e)⟩;rw[bF q3]at e;exact(bA.1 e).1
theorem jj.mono (h:jj w Z v n xs)(hz:∀b,Z b->b<w.heap.size->Y b):jj w Y v n xs:=by
 obtain⟨a,c,h1,h2,h3⟩:=h;refine⟨a,c,h1,h2,λhn=> ?_⟩;have⟨ad,q1,q2,q3,q4⟩:=h3 hn;exact⟨ad,q1,hz _ q2 q3,q3,q4⟩
theorem eD.rd {T:TypeId}(h:eD w Z T k v n xs):jj w Z v n xs:=by
 obtain⟨a,c,rfl⟩:=iD h.1;refine⟨a,c,rfl,?_,λhn=> ?_⟩
 ·rcases h.1.2 with⟨h1,h2⟩|⟨g,cap,cur,h1,h2,h3,h4,h5,h6,h7⟩
  ·cases h1;omega
  ·cases h1;omega
 ·obtain⟨g,rfl,_,Ur,hc⟩:=el h.1 hn;refine⟨(ai g 0),rfl,h.2 g rfl,Ur,λw' hw p u hp=> ?_⟩;have:=hc w' hw p u hp
  rwa [show((ai g 0):Addr).add p=(ai g p)by unfold Addr.add;by_cases h:p=0<;>simp[h]]
end
def pN (P:Value->PM->Prop)(w:an)(Z:ap)(vv:Value)(l:List PV):Prop:=∃Uq,jj w Z vv l.length Uq/\nR P Uq l
def Ae (P:Value->PM->Prop)(w:an)(Z:ap):aq->List PF->Prop
 |cs,[]=>cs= []
 |cs,f::fs=>∃vv rest,cs=aa f.1::vv::rest/\pN P w Z vv f.2/\Ae P w Z rest fs
def iH:Nat->an->(ap)->Value->PM->Prop
 |0,_,_,_,_=>False
 |k+1,w,Z,v,m=>∃cs,jj w Z v m.fs.length cs/\Ae (iH k w Z) w Z cs m.fs
theorem pN.keep {Q:Value->PM->Prop}(hP:∀v m,P v m->Q v m)(hk:∀b,Z b->b<w.heap.size->w'.heap[b]?=w.heap[b]?)(h:pN P w Z vv l):pN Q w' Z vv l:=by
 obtain⟨Uq,h1,h2⟩:=h;exact⟨Uq,h1.keep hk,h2.imp hP⟩
theorem Ae.keep {Q:Value->PM->Prop}(hP:∀v m,P v m->Q v m)(hk:∀b,Z b->b<w.heap.size->w'.heap[b]?=w.heap[b]?):∀{fs:List PF} {cs:aq},Ae P w Z cs fs->Ae Q w' Z cs fs
 | [],_,h=>h
 |_::_,_,⟨vv,rest,h1,h2,h3⟩=>⟨vv,rest,h1,h2.keep hP hk,Ae.keep hP hk h3⟩
theorem iH.keep (hk:∀b,Z b->b<w.heap.size->w'.heap[b]?=w.heap[b]?):∀{k:Nat} {v:Value} {m:PM},iH k w Z v m->iH k w' Z v m
 |0,_,_,h=>h
 |_+1,_,_,⟨cs,h1,h2⟩=>⟨cs,h1.keep hk,h2.keep (λ_ _ h=>iH.keep hk h) hk⟩
theorem iH.below (hb:Below n w w')(hn:w.heap.size<=n)(h:iH k w Z v m):iH k w' Z v m:=
 h.keep (λb _ hl=>hb.block b (aD hl hn))
theorem pN.below (hb:Below n w w')(hn:w.heap.size<=n)(h:pN (iH k w Z) w Z v l):pN (iH k w' Z) w' Z v l:=
 h.keep (λ_ _ h=>h.below hb hn) (λb _ hl=>hb.block b (aD hl hn))
theorem Ae.below (hb:Below n w w')(hn:w.heap.size<=n){cs:aq}{l:List PF}(h:Ae (iH k w Z) w Z cs l):Ae (iH k w' Z) w' Z cs l:=
 h.keep (λ_ _ h=>h.below hb hn) (λb _ hl=>hb.block b (aD hl hn))
theorem Ae.mono {Q:Value->PM->Prop}{Y:ap}(hP:∀v m,P v m->Q v m)(hz:∀b,Z b->b<w.heap.size->Y b):∀{fs:List PF} {cs:aq},Ae P w Z cs fs->Ae Q w Y cs fs
 | [],_,h=>h
 |_::_,_,⟨vv,rest,h1,⟨Uq,h2,h4⟩,h3⟩=>⟨vv,rest,h1,⟨Uq,h2.mono hz,h4.imp hP⟩,Ae.mono hP hz h3⟩
theorem iH.mono {Y:ap}(hz:∀b,Z b->b<w.heap.size->Y b):∀{k:Nat} {v:Value} {m:PM},iH k w Z v m->iH k w Y v m
 |0,_,_,h=>h
 |_+1,_,_,⟨cs,h1,h2⟩=>⟨cs,h1.mono hz,h2.mono (λ_ _ h=>iH.mono hz h) hz⟩
theorem Ae.get:∀{l:List PF} {cs:aq},Ae P w Z cs l->∀{i:Nat} {f:PF},l[i]?=some f->
  ∃vv,pN P w Z vv f.2/\cs[i*2]?=some (aa f.1)/\cs[i*2+1]?=some vv
 | [],_,_,i,v,h=>by simp at h
 |x::l,_,⟨vv,rest,h1,h2,h3⟩,0,v,h=>by
  subst h1;simp at h;subst h;exact⟨vv,h2,rfl,rfl⟩
 |x::l,_,⟨vv,rest,h1,h2,h3⟩,i+1,v,h=>by
  subst h1;have⟨vv,q1,q2,q3⟩:=Ae.get h3 (i:=i) (f:=v) (by simpa using h);exact⟨vv,q1,by rw[show(i+1)*2=i*2+1+1 by omega];simpa using q2,by rw[show(i+1)*2+1=i*2+1+1+1 by omega];simpa using q3⟩
theorem pN.form (h:pN P w Z vv l):∃a c,vv= .slice a l.length c:=by
 obtain⟨Uq,h1,_⟩:=h;exact h1.form
theorem iH.form (h:iH k w Z v m):∃a c,v= .slice a m.fs.length c:=by
 cases k with
 |zero=>exact h.elim
 |succ k=>
  obtain⟨cs,h1,_⟩:=h;exact h1.form
theorem lF.rn {Q:Value->PM->Prop}(hP:∀v m,P v m->Q v m):∀{fs:List PF} {cs:aq},lF P w Z cs fs->Ae Q w Z cs fs
 | [],_,h=>h
 |_::_,_,⟨vv,rest,h1,⟨Uq,h2,h4⟩,h3⟩=>⟨vv,rest,h1,⟨Uq,h2.rd,h4.imp hP⟩,lF.rn hP h3⟩
theorem qm.rn:∀{k:Nat} {v:Value} {m:PM},qm k w Z v m->iH k w Z v m
 |0,_,_,h=>h
 |_+1,_,_,⟨cs,h1,h2⟩=>⟨cs,h1.rd,h2.rn (λ_ _ h=>qm.rn h)⟩
end
section
open Uq
def fN (x:PV)(mv:Value):Value:= .agg #[.int .u64 x.1,ae x.2.1,mv,ae x.2.2.unk]
abbrev Nz:={x:Int//x≠0}
def Nz.ne (x:Nz):x.1≠0:=x.2
def d9 (ok:Bool)(w:an)(e:Ending)(w':an):Prop:=aj w w'/\if ok=true then e= .returned (.tuple #[])else∃(x:Nz) (y:Int),e=dL x.1 y
def d9.ok {w w':an}(b:aj w w'):d9 true w (.returned (.tuple #[])) w':=⟨b,rfl⟩
def d9.no {w w':an}{x y:Int}(b:aj w w')(hx:x≠0:=by first|decide|exact Nz.ne _):d9 false w (dL x y) w':=⟨b,⟨x,hx⟩,_,rfl⟩
def d9.part {ok:Bool}{w:an}{e:Ending}{w':an}(h:d9 ok w e w'):(ok=true/\e= .returned (.tuple #[])/\aj w w')\/(ok=false/\∃(x:Nz) (y:Int),e=dL x.1 y/\aj w w'):=by
 obtain⟨h1,h2⟩:=h
 cases ok
 ·simp_all
 simp_all
section
variable (w:an)
def gU:Calls prog 157 #[.bool true] w λe w'=>e= .returned (.tuple #[])/\w'=w:=by
 go_in
 go_wp2;go_end0;simp
def gO:Calls prog 157 #[.bool false] w λe w'=>e=dL 12 0/\w'=w:=by
 go_in
 go_wp2_with fail;refine(IH 12 0 _).mono ?_;rintro e w' ⟨rfl,rfl⟩;go_wp2;exact⟨rfl,rfl,rfl⟩
def om (s:am):Bool:=s.toList.isEmpty
def yF (m:PM):Bool:=m.fs.isEmpty&&om m.unk
def Gt {α:Type}(l:List α):(((l.length:Nat):Int)==0)=l.isEmpty:=by cases l<;>simp;omega
def Af (x:PV)(mv:Value):Calls prog 241 #[fN x mv] w (d9 (!(decide (x.1=0)&&om x.2.1)) w):=by
 obtain⟨n,s,m⟩:=x;unfold fN om;simp only
 by_cases h0:n=0
 ·subst h0;simp only[decide_true];have⟨B,K⟩:=dS w #[.int .u64 0,ae s,mv,ae m.unk] 55;have⟨k1,k2⟩:=K.rules
  cases h1:s.toList.isEmpty
  all_goals
   go_in
   go_wp2_with fail
   first|refine(gU _).mono ?_|refine(gO _).mono ?_
   rintro e w' ⟨rfl,rfl⟩
   try unfold dL
   go_wp2
   first|(go_end0;exact⟨B,rfl⟩)|exact⟨rfl,d9.no B⟩
 ·rw[decide_eq_false h0];have⟨B,K⟩:=dS w #[.int .u64 n,ae s,mv,ae m.unk] 55;have⟨k1,k2⟩:=K.rules;go_in
  go_wp2_with fail
  first|refine(gU _).mono ?_|refine(gO _).mono ?_
  rintro e w' ⟨rfl,rfl⟩
  try unfold dL
  go_wp2
  first|(go_end0;exact⟨B,rfl⟩)|exact⟨rfl,d9.no B⟩
def DD (x:PV)(ma:aw)(mc:Nat):Calls prog 326 #[fN x (.slice ma x.2.2.fs.length mc)] w (d9 (om x.2.1&&yF x.2.2) w):=by
 obtain⟨n,s,m⟩:=x;have h3:=Gt m.fs;unfold fN yF om;simp only;generalize m.fs.isEmpty=p3 at*;generalize m.fs.length=q3 at*;have⟨B,K⟩:=dS w #[.int .u64 n,ae s,.slice ma q3 mc,ae m.unk] 55;have⟨k1,k2⟩:=K.rules
 cases h1:s.toList.isEmpty<;>cases p3<;>cases h4:m.unk.toList.isEmpty
 all_goals
  go_in
  go_wp2_with fail
  first|refine(gU _).mono ?_|refine(gO _).mono ?_
  rintro e w' ⟨rfl,rfl⟩
  try unfold dL
  go_wp2
  first|(go_end0;exact⟨B,rfl⟩)|exact⟨rfl,d9.no B⟩
def Fa (x:PV)(ma:aw)(mc:Nat):Calls prog 324 #[fN x (.slice ma x.2.2.fs.length mc)] w (d9 (decide (x.1=0)&&yF x.2.2) w):=by
 obtain⟨n,s,m⟩:=x;have h3:=Gt m.fs;unfold fN yF om;simp only;generalize m.fs.isEmpty=p3 at*;generalize m.fs.length=q3 at*
 by_cases h0:n=0
 ·subst h0;simp only[decide_true];have⟨B,K⟩:=dS w #[.int .u64 0,ae s,.slice ma q3 mc,ae m.unk] 55;have⟨k1,k2⟩:=K.rules
  cases p3<;>cases h4:m.unk.toList.isEmpty
  all_goals
   go_in
   go_wp2_with fail
   first|refine(gU _).mono ?_|refine(gO _).mono ?_
   rintro e w' ⟨rfl,rfl⟩
   try unfold dL
   go_wp2
   first|(go_end0;exact⟨B,rfl⟩)|exact⟨rfl,d9.no B⟩
 ·rw[decide_eq_false h0];clear h3;have⟨B,K⟩:=dS w #[.int .u64 n,ae s,.slice ma q3 mc,ae m.unk] 55;have⟨k1,k2⟩:=K.rules;go_in
  go_wp2_with fail
  first|refine(gU _).mono ?_|refine(gO _).mono ?_
  rintro e w' ⟨rfl,rfl⟩
  try unfold dL
  go_wp2
  first|(go_end0;exact⟨B,rfl⟩)|exact⟨rfl,d9.no B⟩
def OX (x:PV)(mv:Value):Calls prog 323 #[fN x mv] w (d9 (decide (x.1=0)&&om x.2.1) w):=by
 obtain⟨n,s,m⟩:=x;unfold fN om;simp only
 by_cases h0:n=0
 ·subst h0;simp only[decide_true];have⟨B,K⟩:=dS w #[.int .u64 0,ae s,mv,ae m.unk] 55;have⟨k1,k2⟩:=K.rules
  cases h1:s.toList.isEmpty
  all_goals
   go_in
   go_wp2_with fail
   first|refine(gU _).mono ?_|refine(gO _).mono ?_
   rintro e w' ⟨rfl,rfl⟩
   try unfold dL
   go_wp2
   first|(go_end0;exact⟨B,rfl⟩)|exact⟨rfl,d9.no B⟩
 ·rw[decide_eq_false h0];have⟨B,K⟩:=dS w #[.int .u64 n,ae s,mv,ae m.unk] 55;have⟨k1,k2⟩:=K.rules;go_in
  go_wp2_with fail
  first|refine(gU _).mono ?_|refine(gO _).mono ?_
  rintro e w' ⟨rfl,rfl⟩
  try unfold dL
  go_wp2
  first|(go_end0;exact⟨B,rfl⟩)|exact⟨rfl,d9.no B⟩
end
def Cr (k:Nat)(n:Int):Bool:=
 if k=0\/k=4\/k=9\/k=15 then n==mh n else if k=2\/k=7\/k=11 then n==n%4294967296 else if k=6 then n==(if 0<n then 1 else 0)else true
def Ah {k:Nat}(hk:k<=16):k=0\/k=1\/k=2\/k=3\/k=4\/k=5\/k=6\/k=7\/k=8\/k=9\/k=10\/k=11\/k=12\/k=13\/k=14\/k=15\/k=16:=Ue
def Fb (w:an)(k:Nat)(n:Int)(hk:k<=16)(h0:0<=n):Calls prog 327 #[aa k,.int .u64 n] w λe w'=>e= .returned (.bool (Cr k n))/\w'=w:=by
 have H1:=oA w n;have H2:=sf w n;have H3:=vJ w n h0;unfold Cr;generalize mh n=a at*;generalize n%4294967296=b at*;generalize(if 0<n then(1:Int)else 0)=c at*
 rcases Ah hk with rfl|rfl|rfl|rfl|rfl|rfl|rfl|rfl|rfl|rfl|rfl|rfl|rfl|rfl|rfl|rfl|rfl
 all_goals
  go_in
  go_wp2_with (first|(go_at_call 347;refine H1.mono ?_;rintro e w2 ⟨rfl,rfl⟩)|(go_at_call 348;refine H2.mono ?_;rintro e w2 ⟨rfl,rfl⟩)|(go_at_call 351;refine H3.mono ?_;rintro e w2 ⟨rfl,rfl⟩))
  go_ret;simp
def fB (S:d8)(f:eT):Nat:=if f.isMap then 16 else S.base f.ty
def ig (S:d8)(f:eT):Bool:=f.isRep&&eO (fB S f)
def nZ (S:d8)(f:eT):Int:=if ig S f then 2 else ee (fB S f)
def pO (S:d8)(d:MT)(num kind:Int):Bool:=
 match dR d.fs num with
 |none=>false
 |some f=>(kind==(ee (fB S f):Int))||((kind==2)&&ig S f)
def fS (S:d8)(R:MT->PM->List UInt8)(f:eT)(v:PV):List UInt8:=
 if fB S f=16 then eZ (match eV S f with|some t=>R t v.2.2|none=> [])
 else if fB S f=13\/fB S f=14 then eZ v.2.1.data.toList
 else if fB S f=7\/fB S f=9\/fB S f=11 then ol 4 v.1
 else if fB S f=8\/fB S f=10\/fB S f=12 then ol 8 v.1
 else if fB S f=4\/fB S f=5 then vi (Bu v.1)else vi v.1
def mG (S:d8)(R:MT->PM->List UInt8)(f:eT)(l:List PV):List UInt8:=l.flatMap (fS S R f)
def jU (S:d8)(R:MT->PM->List UInt8)(f:eT)(l:List PV):List UInt8:=
 if ig S f then eY f.num (nZ S f)++eZ (mG S R f l)else l.flatMap λv=>eY f.num (nZ S f)++fS S R f v
def jE (S:d8)(R:MT->PM->List UInt8)(d:MT)(x:PF):List UInt8:=
 match dR d.fs x.1 with
 |none=> []
 |some f=>jU S R f x.2
def ed (S:d8):Nat->MT->PM->List UInt8
 |0,_,_=> []
 |n+1,d,m=>m.fs.flatMap (jE S (ed S n) d)++m.unk.data.toList
def er (S:d8)(R:MT->PM->Bool)(f:eT)(v:PV):Bool:=
 if fB S f=16 then(decide (v.1=0)&&om v.2.1)&&(match eV S f with|some t=>R t v.2.2|none=>false)
 else if fB S f=13 then(decide (v.1=0)&&yF v.2.2)&&Lib.validD v.2.1.data.toList
 else if fB S f=14 then decide (v.1=0)&&yF v.2.2
 else(om v.2.1&&yF v.2.2)&&Cr (fB S f) v.1
def PX (e:PV):PV:=
 match e.2.2.fs with
 |(_,k::_)::_=>k
 |_=>PV.none
def tw (sg:Bool)(e:PV):LV:=II sg ((PX e).1,(PX e).2.1)
def jc (sg:Bool):Option LV->List PV->Bool
 |_,[]=>true
 |last,e::l=>((e.2.2.fs.length==2)&&om e.2.2.unk)&&(match last with|none=>true|some k=>decide (xG k (tw sg e)<0))&&jc sg (some (tw sg e)) l
def oG (f:eT)(l:List PV):Bool:=(l.length==1)||((f.isRep||f.isMap)&&decide (1<l.length))
def kz (S:d8)(f:eT)(l:List PV):Bool:=
 if f.isMap then jc (jI (S.base f.key)) none l else if gG f.how eS=true/\fB S f≠16 then(match l with|x::_=> !(decide (x.1=0)&&om x.2.1)| []=>true)else true
def fy (S:d8)(R:MT->PM->Bool)(f:eT)(l:List PV):Bool:=oG f l&&l.all (er S R f)&&kz S f l
def jO (riv:List Int)(n:Int)(ahead:List PF):Bool:=ahead.all λy=>decide (y.1<n)&& !decide (y.1∈riv)
def gE (S:d8)(R:MT->PM->Bool)(d:MT):List PF->List PF->Bool
 |_,[]=>true
 |ahead,x::l=>(match dR d.fs x.1 with|none=>false|some f=>jO (kL d f) x.1 ahead&&fy S R f x.2)&&gE S R d (ahead++ [x]) l
def Ku (G:Nat->Bool):Fx (Unit×Nat)->Bool
 | .error _=>false
 | .ok y=>G y.2
def Ny (fit:Int->Int->Bool)(s:am)(G:Nat->Bool):Fx ((Int×Int)×Nat)->Bool
 | .error _=>false
 | .ok x=> !(fit x.1.1 x.1.2)&&Ku G (lq s x.2 x.1.2)
def mR (fit:Int->Int->Bool)(s:am):Nat->Nat->Bool
 |0,_=>false
 |F+1,a=>if a<s.size then Ny fit s (mR fit s F) (ju s a)else true
def rF (fit:Int->Int->Bool)(s:am):Bool:=mR fit s (s.size+1) 0
def dP (S:d8):Nat->MT->PM->Bool
 |0,_,_=>false
 |n+1,d,m=>gE S (dP S n) d [] m.fs&&rF (pO S d) m.unk
def oT:Nat->PM->Prop
 |0,_=>False
 |k+1,m=>m.fs.length<=1099511627776/\m.unk.size<=1099511627776/\∀x∈m.fs,x.2.length<=1099511627776/\∀v∈x.2,0<=v.1/\v.1<18446744073709551616/\v.2.1.size<=1099511627776/\oT k v.2.2
section
variable (w:an) {s:am} {a i:Nat} {x:Int×Int} {riv:List Int} {n:Int} {fs:List PF}
theorem oH {b:Nat}{w w1 w2:an}(h:aj w w1)(k:dX [b] w1 w2)(hb:w.heap.size<=b):aj w w2:=
 h.trans ⟨k.os,k.tape,k.output,k.size,λi hi=>k.block i (aD hi h.size) Ug⟩
theorem Bv {e:Nat}:∀{f i:Nat} {n:Int},lL s a e f i n= .error x->x.1≠0
 |0,_,_,h=>by
  obtain rfl:=Except.error.inj h;simp
 |f+1,i,n,h=>by
  rw[lL]at h
  split at h
  ·split at h
   ·obtain rfl:=Except.error.inj h;simp
   ·split at h
    ·cases h
    ·exact Bv h
  ·obtain rfl:=Except.error.inj h;simp
theorem NA (h:ju s a= .error x):x.1≠0:=by
 unfold ju at h
 split at h
 ·rename_i h1
  obtain rfl:=Except.error.inj h;exact Bv h1
 ·split at h
  ·obtain rfl:=Except.error.inj h;simp
  ·split at h
   ·cases h
   ·obtain rfl:=Except.error.inj h;simp
theorem Gu {k:Nat}(h:iT s a k= .error x):x.1≠0:=by
 unfold iT at h
 split at h
 ·cases h
 ·obtain rfl:=Except.error.inj h;simp
theorem Kv {k:Int}(h:lq s a k= .error x):x.1≠0:=by
 unfold lq at h
 split at h
 ·split at h
  ·rename_i h1
   obtain rfl:=Except.error.inj h;exact Bv h1
  ·cases h
 ·split at h
  ·split at h
   ·rename_i h1
    obtain rfl:=Except.error.inj h;exact Gu h1
   ·cases h
  ·split at h
   ·split at h
    ·rename_i h1
     obtain rfl:=Except.error.inj h;exact Gu h1
    ·cases h
   ·split at h
    ·rename_i h1
     obtain rfl:=Except.error.inj h;unfold eP at h1
     split at h1
     ·rename_i h2
      obtain rfl:=Except.error.inj h1;exact Bv h2
     ·split at h1
      ·cases h1
      ·obtain rfl:=Except.error.inj h1;simp
    ·cases h
theorem Fc {x:PF}(hx:fs[i]?=some x):jO riv n (fs.take (i+1))=(jO riv n (fs.take i)&&(decide (x.1<n)&& !decide (x.1∈riv))):=by
 unfold jO;rw[bJ,hx];simp
theorem DE {j:Nat}(h:i<=j)(hn:jO riv n (fs.take i)=false):jO riv n (fs.take j)=false:=by
 unfold jO at*;rw[List.all_eq_false]at hn⊢;obtain⟨y,h1,h2⟩:=hn;exact⟨y,(List.take_subset_take_left fs h) h1,h2⟩
theorem Kw {Q:Value->PM->Prop}{Z P:ap}(a:aw)(c c':Nat)(fs:List PF)(cs:aq)(i:Nat)(n:Int)(rv:Value)(riv:List Int)(hr:jj w Z (.slice a fs.length c) fs.length cs)(hf:Ae Q w Z cs fs)(hi:i<=fs.length)(hl:fs.length<=1099511627776)
  (hrv:eD w P 3 1 rv riv.length (gd riv)) (hrl:riv.length<=1073741824):
  Calls prog 158 #[.slice a i c',aa n,rv] w (d9 (jO riv n (fs.take i)) w):=by
 obtain⟨ra,rc,rfl⟩:=iD hrv.1;go_in
 go_wp2;go_loopw [7,10] (λ_ jv wr=>∃j:Nat,jv=aa j/\j<=i/\Hid (jO riv n (fs.take j)=true)/\aj w wr) (λ_ jv _=>i-(intOf jv).toNat)
 case atStart=>exact⟨0,rfl,aL _,rfl,Below.refl _ _⟩
 case round=>
  obtain⟨j,rfl,hji,HN,B⟩:=hrel
  by_cases hlt:j<i
  ·have⟨x,hx⟩:=gx (l:=fs) (i:=j) Ue;have⟨vv,p1,p2,p3⟩:=hf.get hx;obtain⟨va,vc,rfl⟩:=p1.form;obtain⟨g,rfl,hzg,UA,Uq⟩:=hr.at Ue;have t0:=Uq wr (B.block _ UA) _ _ p2;have t1:=kX (Uq wr (B.block _ UA) _ _ p3);have hlj:(j:Int)<(i:Int):=Ue;have⟨B1,K1⟩:=dS wr #[aa x.1,.slice va x.2.length vc] 58;have B2:=dI B B1;have HC:=xp _ (.slice ra riv.length rc) riv x.1 (eH B2 hrv.1) hrl
   have HT:Hid (jO riv n (fs.take (j+1))=(decide (x.1<n)&& !decide (x.1∈riv))):=by
    show jO riv n (fs.take (j+1))=_;rw[Fc hx,HN.out,cz]
   have⟨k1,k2⟩:=K1.rules;clear Uq p2 p3 hx;generalize decide (x.1∈riv)=q at*
   by_cases h1:x.1<n
   ·cases q
    ·go_wp2_with (first|(go_at_call 238;refine HC.mono ?_;rintro e w2 ⟨rfl,rfl⟩)|(go_at_call 157;refine(gU _).mono ?_;rintro e w2 ⟨rfl,rfl⟩))
     go_roundw
     case rel=>exact⟨j+1,by go_num,Ue,HT.out.trans (by simp[h1]),B2⟩
     case measure=>simp[intOf];omega
    ·go_wp2_with (first|(go_at_call 238;refine HC.mono ?_;rintro e w2 ⟨rfl,rfl⟩)|(go_at_call 157;refine(gO _).mono ?_;rintro e w2 ⟨rfl,rfl⟩;unfold dL))
     exact⟨rfl,by rw[DE Ue (HT.out.trans Uf)];exact d9.no B2⟩
   ·go_wp2_with (first|(go_at_call 157;refine(gO _).mono ?_;rintro e w2 ⟨rfl,rfl⟩;unfold dL))
    exact⟨rfl,by rw[DE Ue (HT.out.trans (by rw[decide_eq_false Ue];rfl))];exact d9.no B2⟩
  ·obtain rfl:j=i:=Ue;go_wp2;go_end0;exact⟨B,by rw[dE HN.out]⟩
theorem NB (x:PV)(mv:Value)(sg:Bool)(h0:0<=x.1)(h1:x.1<18446744073709551616):
  Calls prog 267 #[fN x mv,.bool sg] w λe w'=>e= .returned (kV (II sg (x.1,x.2.1)))/\aj w w':=by
 have hx:=sE h0 h1;have K0:=dM.new w #[.int .u64 x.1,ae x.2.1,mv,ae x.2.2.unk] 55;have K1:=K0.alloc (ak #[.int .u64 0,T9] 386);have⟨k1,k2⟩:=K1.rules;unfold fN kV II
 cases sg with
 |true=>
  rw[dE rfl];go_in
  go_wp2;refine dG (ec results267 _ _ rfl (dM.new1 w _ _ _) underlying386 Uj) rfl ?_;exact⟨rfl,((Below.refl _ _).alloc (ay _) _).alloc Uf _⟩
 |false=>
  rw[dD Uf];go_in
  go_wp2;refine dG (ec results267 _ _ rfl (dM.new1 w _ _ _) underlying386 Uj) rfl ?_;exact⟨rfl,((Below.refl _ _).alloc (ay _) _).alloc Uf _⟩
theorem Ai (s:am)(ff:Nat)(cap:aq)(fit:Int->Int->Bool)(hs:s.size<=1099511627776)(hen:∀args w,(callFunc ff args).run prog w= .ok (.enter ff args) w)
  (hf:∀(W:an) (n k:Int),aj w W->Ua ff ((Value.agg #[aa n,aa k]::cap).toArray) W λe w'=>e= .returned (.bool (fit n k))/\Below W.heap.size W w'):
  Calls prog 160 #[ae s,.func (.func ff) #[] cap.toArray] w (d9 (rF fit s) w):=by
 obtain⟨P,HP⟩:∃P,Hid (rF fit s=P):=⟨_,rfl⟩;rw[HP.out];have K0:=dM.new w #[ae s,aa 0,aa 1] 244;have B0:aj w (w.alloc (.cells #[ae s,aa 0,aa 1] 244)):=(Below.refl _ _).alloc (ay _) _;go_in
 go_wp2_with fail;refine(Jd w s).mono ?_;rintro e w1 ⟨rfl,rfl⟩;generalize w.alloc (.cells #[ae s,aa 0,aa 1] 244)=w1 at*;go_wp2;go_loopw [5] (λ_ wr=>∃(a F:Nat),a<=s.size/\s.size-a<F/\Hid (mR fit s F a=P)/\dW wr w.heap.size s a 1/\aj w wr) (λ_ wr=>lH wr w.heap.size s.size)
 case atStart=>exact⟨0,s.size+1,aL _,Ue,HP,K0,B0⟩
 case round=>
  obtain⟨a,F,ha,hF,HU,hr,B⟩:=hrel;have UE:=rm wr w.heap.size s a 1 hr;have HM:Hid (lH wr w.heap.size s.size=s.size-a):=gW hr;go_wp2_with fail;refine UE.mono ?_;rintro e w4 ⟨rfl,q,rfl⟩;obtain⟨F,rfl⟩:∃g,F=g+1:=⟨F-1,Ue⟩;have UF:dW (wr.drewN q) w.heap.size s a 1:=hr;have B4:aj w (wr.drewN q):=ie B q;generalize wr.drewN q=w4 at*
  by_cases hlt:a<s.size
  ·have hd:decide (a<s.size)=true:=decide_eq_true hlt;have Ux:=Jg w4 w.heap.size s a 1 UF Ue;obtain⟨T,hT⟩:∃T,ju s a=T:=⟨_,rfl⟩;rw[hT]at Ux;have HT:Hid (ju s a=T):=hT;clear hT
   have Ut:Hid (P=Ny fit s (mR fit s F) T):=by
    show P=_;rw[<-HU.out,mR,dE hlt,HT.out]
   go_wp2_with fail;refine Ux.mono ?_;intro en w6 UJ
   rcases UJ.part with⟨x,rfl,rfl,Uv⟩|⟨x,rfl,rfl,Uv,UB⟩
   ·have Ur:Hid (P=false):=Ut.out;have B6:aj w w6:=oH B4 Uv (ay _);unfold dL;go_wp2;exact⟨rfl,by rw[Ur.out];exact d9.no B6 (NA HT.out)⟩
   ·obtain⟨⟨num,kind⟩,z⟩:=x;have⟨kn,UC,hk4,UK,UL⟩:=EP HT.out;simp only at UC UK UL UB;subst UC;have B6:aj w w6:=oH B4 Uv (ay _);have⟨B7,KT⟩:=dS w6 #[aa num,aa kn] 237;have Uy:dW (w6.alloc (ak #[aa num,aa kn] 237)) w.heap.size s z 1:=dM.alloc UB _;have B8:=dI B6 B7;have HF:=hf _ num kn B8;have Us:Hid (P=(!(fit num kn)&&Ku (mR fit s F) (lq s z kn))):=Ut.out;have⟨k1,k2⟩:=KT.rules;clear Ut HU HT;obtain⟨fv,UM⟩:∃fv,fit num kn=fv:=⟨_,rfl⟩;rw[UM]at HF Us;go_wp2_with fail;generalize w6.alloc (ak #[aa num,aa kn] 237)=w7 at*;generalize w6.heap.size=tb at*;refine HF.mono ?_;rintro e w8 ⟨rfl,B9⟩;have UG:dW w8 w.heap.size s z 1:=dM.below Uy B9 (dM.lt Uy);have Uu:=dI B8 B9;have UH:=KT.below B9 KT.lt;clear k1 k2;have⟨k1,k2⟩:=UH.rules
    cases fv
    ·have Uz:=AV w8 w.heap.size s z 1 kn UG Ue Ue Ue;obtain⟨R,hR⟩:∃R,lq s z kn=R:=⟨_,rfl⟩;have HW:Hid (∀y,R= .ok y->z<y.2/\y.2<=s.size):=λy hy=>vU (hR.trans hy)
     have HE:Hid (∀x,R= .error x->x.1≠0):=λy hy=>Kv (hR.trans hy)
     have HL:Hid (P=Ku (mR fit s F) R):=by
      show P=_;rw[Us.out,hR];rfl
     rw[hR]at Uz;clear hR Us;go_wp2_with (go_at_call 157;refine(gU _).mono ?_;rintro e w2 ⟨rfl,rfl⟩)
     refine Uz.mono ?_;intro en w9 UN
     rcases UN.part with⟨x,rfl,rfl,Uw⟩|⟨y,rfl,rfl,Uw,UD⟩
     ·have Ur:Hid (P=false):=HL.out;unfold dL;go_wp2;exact⟨rfl,by rw[Ur.out];exact d9.no (oH Uu Uw (ay _)) (HE.out x rfl)⟩
     ·have⟨hy1,UO⟩:=HW.out y rfl;go_wp2;go_roundw
      case rel=>exact⟨y.2,F,UO,Ue,HL.out.symm,UD,oH Uu Uw (ay _)⟩
      case measure=>rw[HM.out,gW UD];omega
    ·have Ur:Hid (P=false):=Us.out;go_wp2_with (go_at_call 157;refine(gO _).mono ?_;rintro e w2 ⟨rfl,rfl⟩;unfold dL)
     exact⟨rfl,by rw[Ur.out];exact d9.no Uu⟩
  ·have hd:decide (a<s.size)=false:=decide_eq_false hlt
   have UI:Hid (P=true):=by
    show P=true;rw[<-HU.out,mR,dD hlt]
   go_wp2;go_end0;exact⟨B4,by rw[UI.out];rfl⟩
end
end
section
open Go.Sort
open Uq
def H7 (w:an)(k:Nat)(os:Array Obj):aj w (grow (w.drewN k) os):=
 ⟨rfl,rfl,rfl,by show w.heap.size<=(w.heap++os).size;rw[Array.size_append];omega,λj hj=>by show(w.heap++os)[j]?=_;rw[Array.getElem?_append,dE hj]⟩
def PY (x y:LV)(w:an):Ua 275 #[.agg #[.int .u64 x.1,ae x.2],.agg #[.int .u64 y.1,ae y.2]] w λe w'=>e= .returned (aa (xG x y))/\aj w w':=
 (xH x y w).mono λ_ _ ⟨h1,q,os,h2⟩=>⟨h1,by rw[h2];exact H7 w q os⟩
def DF (e:PV):Prop:=e.2.2.fs.length=2->∃n k r rest,e.2.2.fs=(n,k::r)::rest/\0<=k.1/\k.1<18446744073709551616
def NC:Option LV->LV
 |none=>(0,⟨#[]⟩)
 |some k=>k
def Aj (last:Option LV)(k:LV):Bool:=
 match last with
 |none=>true
 |some l=>decide (xG l k<0)
def Fd (sg:Bool)(last:Option LV)(e:PV)(l:List PV):jc sg last (e::l)=(((e.2.2.fs.length==2)&&om e.2.2.unk)&&Aj last (tw sg e)&&jc sg (some (tw sg e)) l):=by
 cases last<;>rfl
def Ak {k:Nat}{Z:ap}(w:an)(v:Value)(l:List PV)(sg:Bool)(hv:pN (iH (k+1) w Z) w Z v l)(hE:∀e∈l,DF e)(hl:l.length<=1099511627776):
  Calls prog 240 #[v,.bool sg] w (d9 (jc sg none l) w):=by
 obtain⟨a,c,rfl⟩:=hv.form;obtain⟨P,HP⟩:∃P,Hid (jc sg none l=P):=⟨_,rfl⟩;rw[HP.out];obtain⟨cs,hr,hv⟩:=hv;have⟨B0,K0⟩:=dS w #[.int .u64 0,T9] 386;go_in
 go_wp2;go_loopw [5,6,7,10] (λ_ _ _ jv wr=>∃(j:Nat) (last:Option LV),jv=aa j/\j<=l.length/\(j=0<->last=none)/\Hid (jc sg last (l.drop j)=P)/\dM wr w.heap.size #[.int .u64 (NC last).1,ae (NC last).2] 386/\aj w wr) (λ_ _ _ jv _=>l.length-(intOf jv).toNat)
 case atStart=>exact⟨0,none,rfl,aL _,Uf,HP,K0,B0⟩
 case round=>
  obtain⟨j,last,rfl,hj,hz,HU,K,B⟩:=hrel
  by_cases hlt:j<l.length
  ·have⟨e,he⟩:=gx hlt;have⟨mv,p1,p2,p3,p4,p5⟩:=hv.get he;obtain⟨ma,mc,rfl⟩:=p1.form;obtain⟨g,rfl,hzg,Ux,Ur⟩:=hr.at Ue;have t0:=Ur wr (B.block _ Ux) _ _ p2;have t1:=kX (Ur wr (B.block _ Ux) _ _ p3);have t2:=kX (Ur wr (B.block _ Ux) _ _ p4);have t3:=kX (Ur wr (B.block _ Ux) _ _ p5);have hlj:(j:Int)<(l.length:Int):=Ue;have hdr:l.drop j=e::l.drop (j+1):=by rw[aX hlt];rw[aK hlt]at he;rw[Option.some.inj he]
   have Uw:Hid ((((e.2.2.fs.length==2)&&om e.2.2.unk)&&Aj last (tw sg e)&&jc sg (some (tw sg e)) (l.drop (j+1)))=P):=by
    show _=P;rw[<-HU.out,hdr,Fd]
   have Uz:=hE e (aI he);have UL:=p1.form;unfold DF at Uz;generalize hfl:e.2.2.fs.length=fl at*;have⟨B1,K1⟩:=dS wr #[.int .u64 e.1,ae e.2.1,.slice ma fl mc,ae e.2.2.unk] 55;have B2:=dI B B1;clear Ur p2 p3 p4 p5 he hdr HU UL;unfold om at Uw
   by_cases h2:fl=2
   ·subst h2;have⟨n,ke,r,rest,Uy,q0,q1⟩:=Uz rfl;have UA:Hid ((e.2.2.unk.toList.isEmpty&&Aj last (tw sg e)&&jc sg (some (tw sg e)) (l.drop (j+1)))=P):=Uw.out;clear Uw Uz
    cases h3:e.2.2.unk.toList.isEmpty with
    |false=>
     have Uv:Hid (P=false):=by
      show P=false;rw[<-UA.out,h3];rfl
     have⟨k1,k2⟩:=K1.rules;clear Uy hfl;go_wp2_with (go_at_call 157;refine(gO _).mono ?_;rintro e w2 ⟨rfl,rfl⟩;unfold dL)
     exact⟨rfl,by rw[Uv.out];exact d9.no B2⟩
    |true=>
     obtain⟨fcs,UC,UG⟩:=p1;rw[hfl]at UC;have⟨vv,UH,f0,f1⟩:=UG.get (i:=0) (f:=(n,ke::r)) (by rw[Uy];rfl);obtain⟨va,vc,rfl⟩:=UH.form;obtain⟨gf,rfl,hzgf,UD,Us⟩:=UC.at Ue;obtain⟨vcs,UI,UJ⟩:=UH;have⟨kmv,UK,g2,g3,g4,g5⟩:=UJ.get (i:=0) (v:=ke) rfl;obtain⟨gv,rfl,hzgv,Ut,Uq⟩:=UI.at Uf;obtain⟨UO,UP,rfl⟩:=UK.form;have s1:=kX (Us _ (B2.block _ UD) _ _ f1);have s2:=Uq _ (B2.block _ Ut) _ _ g2;have s3:=kX (Uq _ (B2.block _ Ut) _ _ g3);have s4:=kX (Uq _ (B2.block _ Ut) _ _ g4);have s5:=kX (Uq _ (B2.block _ Ut) _ _ g5);have UF:tw sg e=II sg (ke.1,ke.2.1):=by unfold tw PX;rw[Uy]
     have Uu:Hid ((Aj last (II sg (ke.1,ke.2.1))&&jc sg (some (II sg (ke.1,ke.2.1))) (l.drop (j+1)))=P):=by
      show _=P;rw[<-UA.out,h3,UF];rfl
     have HK:=NB (wr.alloc (ak #[.int .u64 e.1,ae e.2.1,.slice (some gf) 2 mc,ae e.2.2.unk] 55)) ke (.slice UO ke.2.2.fs.length UP) sg q0 q1;unfold fN kV at HK;clear UA UF Uy hfl Us Uq f0 f1 g2 g3 g4 g5 UG UC UI UJ UK;generalize II sg (ke.1,ke.2.1)=kk at*;generalize ke.2.2.fs.length=kl at*;have K2:=K.below B1 K.lt;have⟨k1,k2⟩:=K1.rules;simp only[Nat.zero_mul,Nx,be]at s1 s2 s3 s4 s5;go_wp2_with (first|(go_at_call 157;refine(gU _).mono ?_;rintro e w2 ⟨rfl,rfl⟩))
     generalize(wr.alloc (ak #[.int .u64 e.1,ae e.2.1,.slice (some gf) 2 mc,ae e.2.2.unk] 55))=w2 at*;generalize wr.heap.size=eb at*;refine HK.mono ?_;rintro en w3 ⟨rfl,B3⟩;have B4:=dI B2 B3;have K3:=K2.below B3 K2.lt;have⟨B5,K5⟩:=dS w3 #[.int .u64 kk.1,ae kk.2] 386;have B6:=dI B4 B5;have K6:=K3.below B5 K3.lt;have hne:w.heap.size<w3.heap.size:=K3.lt;have hk5:=K5.lt;clear k1 k2 K0 B0 K K1 K2 K3 B1 B2 B3 B4 s1 s2 s3 s4 s5 t0 t1 t2 t3;have⟨k1,k2⟩:=K5.rules;have⟨k3,k4⟩:=K6.rules
     by_cases hj0:j=0
     ·obtain rfl:=hz.1 hj0;subst hj0;have UB:Hid (jc sg (some kk) (l.drop (0+1))=P):=Uu.out;simp only[NC]at K6 k3;clear Uu hz;go_wp2_with fail;generalize(w3.alloc (ak #[.int .u64 kk.1,ae kk.2] 386))=w4 at*;refine(gU _).mono ?_;rintro en w5 ⟨rfl,rfl⟩;go_wp2;go_roundw
      case rel=>exact⟨1,some kk,rfl,Ue,Uf,UB,(K6.set 0 _).set 1 _,(B6.setCell (p:=(ai w.heap.size 0)) (ay _) _).setCell (p:=(ai w.heap.size 1)) (ay _) _⟩
      case measure=>simp[intOf];omega
     ·cases last with
      |none=>exact absurd (hz.2 rfl) hj0
      |some lk=>
       have hj1:((j:Int)==0)=false:=Ug;have HC:=PY lk kk (w3.alloc (ak #[.int .u64 kk.1,ae kk.2] 386));simp only[NC]at K6 k3;obtain⟨cv,UE⟩:∃cv,xG lk kk=cv:=⟨_,rfl⟩;rw[UE]at HC
       by_cases hc0:cv<0
       ·have UB:Hid (jc sg (some kk) (l.drop (j+1))=P):=by
         show _=P;rw[<-Uu.out,Aj,UE,decide_eq_true hc0];rfl
        have UM:decide (cv<0)=true:=decide_eq_true hc0;clear Uu hz;go_wp2_with fail;generalize(w3.alloc (ak #[.int .u64 kk.1,ae kk.2] 386))=w4 at*;refine HC.mono ?_;rintro en w5 ⟨rfl,B7⟩;have B8:=dI B6 B7;have K7:=K5.below B7 K5.lt;have K8:=K6.below B7 K6.lt;clear k1 k2 k3 k4;have⟨k1,k2⟩:=K7.rules;have⟨k3,k4⟩:=K8.rules;go_wp2_with (first|(go_at_call 157;refine(gU _).mono ?_;rintro e w2 ⟨rfl,rfl⟩))
        go_roundw
        case rel=>exact⟨j+1,some kk,by go_num,Ue,Uf,UB,(K8.set 0 _).set 1 _,(B8.setCell (p:=(ai w.heap.size 0)) (ay _) _).setCell (p:=(ai w.heap.size 1)) (ay _) _⟩
        case measure=>simp[intOf];omega
       ·have Uv:Hid (P=false):=by
         show P=false;rw[<-Uu.out,Aj,UE,decide_eq_false hc0];rfl
        have UM:decide (cv<0)=false:=decide_eq_false hc0;clear Uu hz;go_wp2_with fail;refine HC.mono ?_;rintro en w5 ⟨rfl,B7⟩;have B8:=dI B6 B7;go_wp2_with (go_at_call 157;refine(gO _).mono ?_;rintro e w2 ⟨rfl,rfl⟩;unfold dL)
        exact⟨rfl,by rw[Uv.out];exact d9.no B8⟩
   ·have Uv:Hid (P=false):=by
     show P=false;rw[<-Uw.out,show(fl==2)=false by simpa using h2];rfl
    have h2':((fl:Int)==2)=false:=Ug;have⟨k1,k2⟩:=K1.rules;clear hfl;go_wp2_with (go_at_call 157;refine(gO _).mono ?_;rintro e w2 ⟨rfl,rfl⟩;unfold dL)
    exact⟨rfl,by rw[Uv.out];exact d9.no B2⟩
  ·obtain rfl:j=l.length:=Ue
   have UN:Hid (P=true):=by
    show P=true;rw[<-HU.out,cw];rfl
   go_wp2;go_end0;exact⟨B,by rw[UN.out];rfl⟩
end
section
open Uq
section
variable {S:d8} {mp:am->Option Nat} {d:MT} {f:eT} {g:GF}
def FG.gb (fg:FG S mp d f g):eh mp g=fB S f:=by
 unfold eh fB;rw[fg.map,fg.eq,fg.base]
 by_cases h:g.form=4<;>simp[h]
def FG.pk (fg:FG S mp d f g):gR mp g=ig S f:=by
 unfold gR ig;rw[fg.gb,fg.rep]
 by_cases h:g.form=2<;>simp[h]
def FG.tk (fg:FG S mp d f g):Ad mp g=nZ S f:=by
 unfold Ad nZ;rw[fg.pk,fg.gb]
def Kx (fg:FG S mp d f g):fB S f<=16:=by rw[<-fg.gb];exact lr mp g
def Ky {gs:List GF}(hG:kG S mp d gs)(num kind:Int):(sl mp gs num kind).isSome=pO S d num kind:=by
 unfold sl pO
 cases h:dR d.fs num with
 |none=>rw[hG.no num h];rfl
 |some f=>
  have⟨g,h1,fg⟩:=hG.yes num f h;rw[h1];simp only;unfold lu;rw[fg.gb,fg.pk]
  split<;>simp_all
def Fe {w:an}{B fb:Nat}(cx:sF w B S mp)(hf:eJ w (λb=>b<B) mp g fb)(fg:FG S mp d f g)(h:fB S f=16):
  ∃t mb gs nm rv,eV S f=some t/\dM w fb #[aa g.f.num,aa g.form,aa (eh mp g),ag mb,rv] 220/\iE w (λb=>b<B) mp mb nm gs/\kG S mp t gs:=by
 have⟨pv,rv,h1,_,_,Ur⟩:=hf.blk
 by_cases h4:g.form=4
 ·rw[dE h4]at Ur;obtain⟨eb,rfl,hE⟩:=Ur;rw[fg.eq]at hE;exact⟨et f,eb,_,_,rv,by unfold eV;rw[dE (by rw[fg.map,h4];rfl)],h1,hE.msg,Bi fg h4⟩
 ·rw[dD h4]at Ur;have hm:f.isMap=false:=by rw[fg.map];simp[h4]
  have hb:S.base f.ty=16:=by unfold fB at h;rw[hm]at h;exact h
  have⟨t,ht⟩:=bZ.1 (fg.nest.1 hb);have⟨mb,gs,q1,q2,q3⟩:=cx.md f.ty t ht;rw[fg.eq,q1]at Ur;subst Ur;exact⟨t,mb,gs,_,rv,by unfold eV;rw[hm];exact ht,h1,q2,q3⟩
end
def P3 (S:d8)(mp:am->Option Nat)(B n:Nat):Prop:=
 ∀(w:an) (Z:ap) (v:Value) (m:PM) (d:MT) (mb:Nat) (gs:List GF) (nm:am) (deep k:Nat),sF w B S mp->iE w (λb=>b<B) mp mb nm gs->kG S mp d gs->iH k w Z v m->oT k m->n+deep=9->
  Ua 101 #[ag mb,.agg #[v,ae m.unk],aa deep] w (d9 (dP S n d m) w)
def BA {S:d8}{mp:am->Option Nat}{B n:Nat}(H:P3 S mp B n)(w:an)(Z:ap)(mv:Value)(x:PV)(d:MT)(f:eT)(g:GF)(fb:Nat)(pv:Value)(deep k:Nat)(cx:sF w B S mp)(hf:eJ w (λb=>b<B) mp g fb)(fg:FG S mp d f g)(hM:iH k w Z mv x.2.2)(hO:oT k x.2.2)(h0:0<=x.1)(hs:x.2.1.size<=1099511627776)
  (Ur:∃rv,dM w fb #[aa g.f.num,aa g.form,aa (eh mp g),pv,rv] 220) (hd:n+1+deep=9):
  Calls prog 239 #[.agg #[aa (eh mp g),pv],fN x mv,aa deep] w (d9 (er S (dP S n) f x) w):=by
 obtain⟨ma,mc,rfl⟩:=hM.form;have Uz:=Kx fg;have⟨B0,KT,KV⟩:=gH w #[aa (fB S f),pv] #[.int .u64 x.1,ae x.2.1,.slice ma x.2.2.fs.length mc,ae x.2.2.unk] 216 55;have Ut:=DD ((w.alloc (ak #[aa (fB S f),pv] 216)).alloc (ak #[.int .u64 x.1,ae x.2.1,.slice ma x.2.2.fs.length mc,ae x.2.2.unk] 55)) x ma mc;have Uq:=Fa ((w.alloc (ak #[aa (fB S f),pv] 216)).alloc (ak #[.int .u64 x.1,ae x.2.1,.slice ma x.2.2.fs.length mc,ae x.2.2.unk] 55)) x ma mc;have Us:=OX ((w.alloc (ak #[aa (fB S f),pv] 216)).alloc (ak #[.int .u64 x.1,ae x.2.1,.slice ma x.2.2.fs.length mc,ae x.2.2.unk] 55)) x (.slice ma x.2.2.fs.length mc);unfold fN at*;rw[fg.gb];unfold er;have⟨k1,k2⟩:=KT.rules;have⟨k3,k4⟩:=KV.rules
 by_cases h16:fB S f=16
 ·rw[dE h16];rw[h16]at B0 KT KV Us k1 k2 k3 k4;have⟨t,mb,gs,nm,rv,Uw,Ux,UC,UD⟩:=Fe cx hf fg h16;obtain⟨rv2,Uy⟩:=Ur
  obtain rfl:pv=ag mb:=by
   have:=(dM.cell Ux 3).symm.trans (dM.cell Uy 3);simpa using this.symm
  clear Ut Uq;rw[Uw,h16];simp only
  have HC:∀W,aj w W->Ua 101 #[ag mb,.agg #[.slice ma x.2.2.fs.length mc,ae x.2.2.unk],aa ((deep:Int)+1)] W (d9 (dP S n t x.2.2) W):=λW hW=>by
   have:=H W Z _ x.2.2 t mb gs nm (deep+1) k (cx.on (dV hW cx.le)) (UC.keep λb q _=>hW.block b (by have:=cx.le;omega)) UD (hM.below hW (ay _)) hO Ue
   rwa [show(((deep+1:Nat):Int))=(deep:Int)+1 by omega]at this
  have hd9:(deep:Int)<=9:=Ue;obtain⟨q,hq⟩:∃q,(decide (x.1=0)&&om x.2.1)=q:=⟨_,rfl⟩;obtain⟨r,hr⟩:∃r,dP S n t x.2.2=r:=⟨_,rfl⟩;rw[hq]at Us⊢;rw[hr]at HC⊢;clear hq hr H Ux Uy;have UA:Hid (∀W,aj w W->Ua 101 #[ag mb,.agg #[.slice ma x.2.2.fs.length mc,ae x.2.2.unk],aa ((deep:Int)+1)] W (d9 r W)):=HC;clear HC;go_in
  go_wp2_with fail;generalize(w.alloc (ak #[aa 16,ag mb] 216)).alloc (ak #[.int .u64 x.1,ae x.2.1,.slice ma x.2.2.fs.length mc,ae x.2.2.unk] 55)=w1 at*;refine Us.mono ?_;intro e w2 hr
  rcases hr.part with⟨rfl,rfl,b2⟩|⟨rfl,y,z,rfl,b2⟩
  ·have Uv:=KT.below b2 KT.lt;have Uu:=KV.below b2 KV.lt;clear k1 k2 k3 k4;have⟨k1,k2⟩:=Uv.rules;have⟨k3,k4⟩:=Uu.rules;have B2:=dI B0 b2;go_wp2_with fail;refine(UA.out w2 B2).mono ?_;intro e w3 UE
   rcases UE.part with⟨rfl,rfl,b3⟩|⟨rfl,y,z,rfl,b3⟩
   ·go_wp2;go_end0;exact d9.ok (dI B2 b3)
   ·unfold dL;go_wp2;exact⟨rfl,d9.no (dI B2 b3)⟩
  ·unfold dL;go_wp2;exact⟨rfl,d9.no (dI B0 b2)⟩
 ·by_cases h13:fB S f=13
  ·rw[dD h16,dE h13];rw[h13]at B0 KT KV Uq k1 k2 k3 k4;rw[h13];clear Ut Us;have HV:∀W,aj w W->Ua 325 #[ae x.2.1] W λe w'=>e= .returned (.bool (Lib.validD x.2.1.data.toList))/\Below W.heap.size W w':=λW hW=>AU W x.2.1 Ue (cx.on (dV hW cx.le)).u
   obtain⟨q,hq⟩:∃q,(decide (x.1=0)&&yF x.2.2)=q:=⟨_,rfl⟩;obtain⟨r,hr⟩:∃r,Lib.validD x.2.1.data.toList=r:=⟨_,rfl⟩;rw[hq]at Uq⊢;rw[hr]at HV⊢;clear hq hr;have UB:Hid (∀W,aj w W->Ua 325 #[ae x.2.1] W λe w'=>e= .returned (.bool r)/\Below W.heap.size W w'):=HV;clear HV;go_in
   go_wp2_with fail;generalize(w.alloc (ak #[aa 13,pv] 216)).alloc (ak #[.int .u64 x.1,ae x.2.1,.slice ma x.2.2.fs.length mc,ae x.2.2.unk] 55)=w1 at*;refine Uq.mono ?_;intro e w2 hr
   rcases hr.part with⟨rfl,rfl,b2⟩|⟨rfl,y,z,rfl,b2⟩
   ·have Uu:=KV.below b2 KV.lt;clear k1 k2 k3 k4;have⟨k3,k4⟩:=Uu.rules;have B2:=dI B0 b2;go_wp2_with fail;refine(UB.out w2 B2).mono ?_;rintro e w3 ⟨rfl,b3⟩
    cases r
    ·go_wp2_with (go_at_call 157;refine(gO _).mono ?_;rintro e w2 ⟨rfl,rfl⟩;unfold dL)
     exact⟨rfl,d9.no (dI B2 b3)⟩
    ·go_wp2_with (go_at_call 157;refine(gU _).mono ?_;rintro e w2 ⟨rfl,rfl⟩)
     go_end0;exact d9.ok (dI B2 b3)
   ·unfold dL;go_wp2;exact⟨rfl,d9.no (dI B0 b2)⟩
  ·by_cases h14:fB S f=14
   ·rw[dD h16,dD h13,dE h14];rw[h14]at B0 KT KV Uq k1 k2 k3 k4;rw[h14];clear Ut Us;obtain⟨q,hq⟩:∃q,(decide (x.1=0)&&yF x.2.2)=q:=⟨_,rfl⟩;rw[hq]at Uq⊢;clear hq;go_in
    go_wp2_with fail;generalize(w.alloc (ak #[aa 14,pv] 216)).alloc (ak #[.int .u64 x.1,ae x.2.1,.slice ma x.2.2.fs.length mc,ae x.2.2.unk] 55)=w1 at*;refine Uq.mono ?_;intro e w2 hr
    rcases hr.part with⟨rfl,rfl,b2⟩|⟨rfl,y,z,rfl,b2⟩
    ·go_wp2;go_end0;exact d9.ok (dI B0 b2)
    ·unfold dL;go_wp2;exact⟨rfl,d9.no (dI B0 b2)⟩
   ·rw[dD h16,dD h13,dD h14];have e1:((fB S f:Int)==16)=false:=Ug;have e2:((fB S f:Int)==13)=false:=Ug;have e3:((fB S f:Int)==14)=false:=Ug;clear Uq Us;have hN:=λW=>Fb W (fB S f) x.1 Uz h0
    generalize Cr (fB S f) x.1=ob at*;generalize fB S f=fb at*;obtain⟨q,hq⟩:∃q,(om x.2.1&&yF x.2.2)=q:=⟨_,rfl⟩;rw[hq]at Ut⊢;go_in
    go_wp2_with fail;refine Ut.mono ?_;intro e w2 hr;generalize(w.alloc (ak #[aa fb,pv] 216)).alloc (ak #[.int .u64 x.1,ae x.2.1,.slice ma x.2.2.fs.length mc,ae x.2.2.unk] 55)=w1 at*
    rcases hr.part with⟨rfl,rfl,b2⟩|⟨rfl,y,z,rfl,b2⟩
    ·have Uv:=KT.below b2 KT.lt;have Uu:=KV.below b2 KV.lt;clear k1 k2 k3 k4;have⟨k1,k2⟩:=Uv.rules;have⟨k3,k4⟩:=Uu.rules;go_wp2_with fail;refine(hN _).mono ?_;rintro e w3 ⟨rfl,rfl⟩
     cases ob
     ·go_wp2_with (go_at_call 157;refine(gO _).mono ?_;rintro e w2 ⟨rfl,rfl⟩;unfold dL)
      exact⟨rfl,d9.no (dI B0 b2)⟩
     ·go_wp2_with (go_at_call 157;refine(gU _).mono ?_;rintro e w2 ⟨rfl,rfl⟩)
      go_end0;exact d9.ok (dI B0 b2)
    ·unfold dL;go_wp2;exact⟨rfl,d9.no (dI B0 b2)⟩
end
end Go.Proofs.YtfebdimolnobaaaGreatDoor
