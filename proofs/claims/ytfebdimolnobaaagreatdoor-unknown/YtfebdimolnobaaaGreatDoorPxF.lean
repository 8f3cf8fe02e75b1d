import Derived.Test.YtfebdimolnobaaaGreatDoorPlJ
set_option maxRecDepth 100000
set_option maxHeartbeats 8000000
set_option linter.all false
namespace Go.Proofs.YtfebdimolnobaaaGreatDoor
open Go.RowKit Go.Proofs.Tryz
def BZ {s t:au}(ht:fZ t 0≠46):gN (oG s) t=false:=by
 cases h:gN (oG s) t with
 |false=>rfl
 |true=>
  have h1:=Ao s;rw[jH (gO.1 h)]at h1;unfold i8 at h1;simp_all
def uC {p:fI}(hp:uj p){f:eU}(hf:f∈p.fields):
  (f.form=0\/f.form=1\/f.form=2\/f.form=3\/f.form=4)/\(gW p.oneof f).isMap=decide (f.form=4)/\(gW p.oneof f).isRep=decide (f.form=2)/\gN (gW p.oneof f).how eS=decide (f.form=0)/\(f.form≠3->qb p f= []):=by
 rcases hp.2 with⟨o,h1,_,h3⟩|⟨h1,g,h2,h3⟩
 .have e:=h3 f hf;have hh:(gW p.oneof f).how=oG o.1:=by show rH p.oneof f.form=_;rw[h1];rfl
  unfold fo.isMap fo.isRep;rw[hh,e,BZ Vg,BZ Vg,BZ Vg];simp
 .rw[h2]at hf;obtain rfl:=ba.1 hf;have hh:(gW p.oneof f).how=rH none f.form:=by show rH p.oneof f.form=_;rw[h1]
  have hr:qb p f= []:=by unfold qb;simp_all
  unfold fo.isMap fo.isRep;rw[hh,hr];rcases h3 with e|e|e|e<;>rw[e]
  .exact⟨.inl rfl,Vg,Vg,Vg,λ_=>rfl⟩
  .exact⟨.inr (.inl rfl),Vg,Vg,Vg,λ_=>rfl⟩
  .exact⟨.inr (.inr (.inl rfl)),Vg,Vg,Vg,λ_=>rfl⟩
  .exact⟨.inr (.inr (.inr (.inr rfl))),Vg,Vg,Vg,λ_=>rfl⟩
def yh {b:d7}:∀{ps:List fI},∀p∈ps,p.fields.length<=mK ps
 | [],p,h=>by cases h
 |q::ps,p,h=>by
  rw[mK];rcases aS.1 h with rfl|h;.omega
  .have:=yh (b:=b) p h;omega
def yi {bs:List d7}(h:kh bs){b:d7}(hb:b∈bs)(he:b.enum=false){p:fI}(hp:p∈b.parts){f:eU}(hf:f∈p.fields)(h4:f.form=4):dV (jK f.key)=3/\ig 3 (jK f.key)=true:=by
 have c:=(h.ok.chk b hb he).flds p hp f hf;have s:=(h.ok.shape b hb p hp).1 f hf;have k3:=c.key h4;have kg:=c.kg h4;have⟨x,hx⟩:=cn.1 (s.key.1 h4);rw[k3]at kg;rw[hx]at k3 kg⊢;exact⟨k3,kg⟩
def PW {bs:List d7}(h:kh bs){b:d7}(hb:b∈bs)(he:b.enum=false){p:fI}(hp:p∈b.parts){f:eU}(hf:f∈p.fields):dV f.type.1=3\/(dV f.type.1=1/\fi (fJ bs) f.type.1=true):=by
 have c:=(h.ok.chk b hb he).flds p hp f hf;have s:=(h.ok.shape b hb p hp).1 f hf;exact s.kind.imp id (λq=>⟨q,c.ty q⟩)
def Ll {bs:List d7}(h:kh bs){z:List (au×Nat)}(hz:z.map (·.1)=eh bs){b:d7}(hb:b∈bs)(he:b.enum=false){p:fI}(hp:p∈b.parts){f:eU}(hf:f∈p.fields):
  FG (ei bs) (mO z) (lY b) (gW p.oneof f) (sM p f):=by
 have⟨f1,f2,f3,f4,f5⟩:=uC (h.ok.shape b hb p hp) hf;have ht:=PW h hb he hp hf;refine⟨rfl,f1,f2,f3,f4,(QA (h.ones b hb he) (h.ok.shape b hb) hp hf).sy,f5,?_,(wz h.ok hz ht).sy,uB h hz ht,λh4=> ?_⟩;.show(qb p f).length<=_;unfold qb;rw[bN];have h1:=bZ (λo=>decide (jC o≠jC f)) p.fields;have h2:=yh (b:=b) p hp;have h3:=(h.ok.ok b hb).parts;omega
 .have⟨k3,kg⟩:=yi h hb he hp hf h4;have Vq:=wz h.ok hz (t:=jK f.key) (.inl k3);have hx:jB (mO z) (jK f.key)=oh (jK f.key):=by unfold jB;rw[dP k3]
  show jB (mO z) (jK f.key)=(ei bs).base (jK f.key)/\(ei bs).base (jK f.key)<=14/\(ei bs).msg (jK f.key)=none/\iJ ((ei bs).base (jK f.key))=fi jm (jK f.key);rw[Vq,hx];exact⟨rfl,Hj k3,tw h k3,DT k3⟩
def I3 {gs:List GF}(hd:(gs.map λg=>g.f.num).Nodup){g:GF}(hg:g∈gs){n:Int}(hn:g.f.num=n):iI gs n=some g:=by
 induction gs with
 |nil=>cases hg
 |cons x l ih=>
  rw[bK,List.nodup_cons]at hd;rw[iI];grind
def Lm {gs:List GF}{n:Int}(h:∀g∈gs,g.f.num≠n):iI gs n=none:=by
 induction gs with
 |nil=>rfl
 |cons x l ih=>
  rw[iI,dO (h x aZ)];simp_all
def yj {n:Int}:∀{fs:List fo} {f:fo},d9 fs n=some f->f∈fs/\f.num=n
 | [],f,h=>by cases h
 |x::l,f,h=>by
  rw[d9]at h;split at h;.simp_all
  .have⟨h1,h2⟩:=yj h;simp_all
def AC {n:Int}:∀{fs:List fo},d9 fs n=none->∀f∈fs,f.num≠n
 | [],_,f,hf=>by cases hf
 |x::l,h,f,hf=>by
  rw[d9]at h;split at h;.cases h
  .rename_i e;rcases aS.1 hf with rfl|hf;.exact e
   .exact AC h f hf
def Hl {b:d7}{g:GF}:g∈vm b<->∃p∈b.parts,∃f∈p.fields,g=sM p f:=by
 unfold vm;grind
def uD {b:d7}{f:fo}:f∈(lY b).fs<->∃p∈b.parts,∃g∈p.fields,f=gW p.oneof g:=by
 show f∈(b.parts.flatMap λp=>p.fields.map (gW p.oneof))<->_;grind
def Ln (b:d7):(vm b).map (λg=>g.f.num)=(b.parts.flatMap (λp=>p.fields.map (λf=>jc f.num.1))).map (λn:Nat=>(n:Int)):=by
 unfold vm;rw[List.map_flatMap,List.map_flatMap];congr 1;funext p;rw[bJ,bJ];rfl
def Su {bs:List d7}(h:kh bs){z:List (au×Nat)}(hz:z.map (·.1)=eh bs){b:d7}(hb:b∈bs)(he:b.enum=false){gs:List GF}(hg:Tf b gs):lH (ei bs) (mO z) (lY b) gs:=by
 have Vr:(gs.map λg=>g.f.num).Nodup:=(by rw[(hg.1.map _).nodup_iff,Ln];exact List.Pairwise.map _ (λa b Vs e=>Vs Vc) (h.ok.chk b hb he).nums);refine⟨hg.2,?_,λn hn=>Lm λg Vt e=> ?_,λn f hf=> ?_⟩;.rw[hg.1.length_eq];have h1:=sP b.parts;have h2:=(h.ok.ok b hb).parts;have h3:(vm b).length<=mK b.parts:=h1;omega
 .obtain⟨p,hp,f,hf,rfl⟩:=Hl.1 (hg.1.mem_iff.1 Vt);exact AC hn (gW p.oneof f) (uD.2 ⟨p,hp,f,hf,rfl⟩) e
 .have⟨hm,hn⟩:=yj hf;obtain⟨p,hp,f0,Vp,rfl⟩:=uD.1 hm;exact⟨sM p f0,I3 Vr (hg.1.mem_iff.2 (Hl.2 ⟨p,hp,f0,Vp,rfl⟩)) hn,Ll h hz hb he hp Vp⟩
section
variable {bs:List d7} {t:au} {w:aw} {P:ax} {v:Value} {y:List YM}
theorem Ef (h:kh bs)(hm:fi (eh bs) t=true):dV t=1/\fi (fJ bs) t=true:=by
 have⟨x,hx,Vr⟩:=(ji _ _).1 hm;obtain⟨c,hc,rfl⟩:=aR.1 hx;have Vt:=(bA.1 hc).1;exact⟨by rw[<-sq Vr];exact h.nm c Vt,(ji _ _).2 ⟨_,aR.2 ⟨c,Vt,rfl⟩,Vr⟩⟩
theorem Hy (h:((ei bs).msg t).isSome=true):fi (eh bs) t=true:=by
 cases hm:fi (eh bs) t with
 |true=>rfl
 |false=>
  rw[(xF (z:=(eh bs).map λn=>(n,0)) (by rw[bJ];simp[Function.comp_def]) hm).1]at h;cases h
theorem zN (bs:List d7):((eh bs).map λn=>((n,0):au×Nat)).map (·.1)=eh bs:=by rw[bJ];simp[Function.comp_def]
theorem LJ (h3:dV t=3)(hk:ig 3 t=true):(eJ (oh t)=2->gN t lD=true)/\(gN t lD=true->eJ (oh t)=2):=by
 have hm:t.toList∈mZ:=by have:=nh h3;simpa [jI]using this
 unfold oh gN;unfold ig at hk;generalize t.toList=l at hm hk
 revert l;decide+kernel
theorem sB (h:kh bs)(h3:dV t=3):(ei bs).base t=oh t:=by
 rw[wz h.ok (zN bs) (.inl h3)];unfold jB;rw[dP h3]
theorem P3 (h:kh bs){b:d7}(hb:b∈bs)(he:b.enum=false):mg (ei bs) (lY b):=by
 intro f hf Vq;obtain⟨p,hp,f0,Vx,rfl⟩:=uD.1 hf;have⟨_,f2,_⟩:=uC (h.ok.shape b hb p hp) Vx;rw[f2]at Vq;have⟨k3,kg⟩:=yi h hb he hp Vx (of_decide_eq_true Vq);have⟨w1,w2⟩:=LJ k3 kg;refine⟨tw h k3,λe=>w1 ?_,λe=> ?_⟩;.rw[<-sB h k3];exact e
 .show eJ ((ei bs).base (jK f0.key))=2;rw[sB h k3];exact w2 e
theorem QO (h:kh bs):Fg (ei bs):=by
 have Vu:∀d∈(ei bs).ms,∃b,b∈bs/\b.enum=false/\d=lY b:=λd hd=>by
  obtain⟨b,hb,rfl⟩:=aR.1 hd;have:=bA.1 hb;grind
 refine⟨⟨λt ht=> ?_,λd hd=> ?_⟩,λd hd=> ?_⟩;.have hk:=Ef h (Hy ht);have:=(uB h (zN bs) (.inr hk)).2 ht;show eJ _=2;rw[this];rfl
 .obtain⟨b,hb,he,rfl⟩:=Vu d hd;exact P3 h hb he
 .obtain⟨b,hb,he,rfl⟩:=Vu d hd
  cases q:gN (lY b).name eS with
  |false=>rfl
  |true=>
   have h1:=h.nm b hb;rw[sq (gO.1 q:b.name.1.toList=eS.toList)]at h1;exact absurd h1 Vg
theorem rh (hM:fU w P v bs y)(h:kh bs){d:MT}(ht:(ei bs).msg t=some d):
  ∃(i:Nat) (m:YM),y[i]?=some m/\zH (mO (y.map (·.1))) t=some m.1.2/\m.1.1=d.name/\m.1.1.toList=t.toList/\jh w (λb=>b<w.heap.size) (mO (y.map (·.1))) m.1.2 d.name m.2/\lH (ei bs) (mO (y.map (·.1))) d m.2/\mg (ei bs) d:=by
 have hz:(y.map (·.1)).map (·.1)=eh bs:=by rw[bJ];exact hM.names
 have hm:=Hy (bs:=bs) (t:=t) (by simp_all);have⟨i,b,blk,h1,h2,h3,h4⟩:=qh h.ok hz hm;rw[ht]at h2;cases h2;have⟨m,Vs,hg⟩:=hM.g i b h1;rw[aT,Vs]at h3;have e:m.1=(b.name.1,blk):=Option.some.inj h3;have Vv:=bA.1 (aL h1);have Vw:b.enum=false:=by simp_all
 have hk:=Ef h hm;have Vp:=hM.msg m (aL Vs);rw[e]at Vp
 have hnm:b.name.1.toList=t.toList:=by
  have⟨i2,b2,q1,q2,q3⟩:=qf (t:=t) (l:=gC bs) (by
   have⟨x,hx,Vr⟩:=(ji _ _).1 hm;obtain⟨c,hc,rfl⟩:=aR.1 hx
   exact⟨c,hc,Vr⟩)
  have:(ei bs).msg t=some (lY b2):=q3;rw[ht]at this;have e2:=dS MT.name (Option.some.inj this);have e3:b.name.1=b2.name.1:=e2;simp_all
 refine⟨i,m,Vs,?_,by rw[e];rfl,by simp_all,?_,Su h hz Vv.1 Vw hg,P3 h Vv.1 Vw⟩;.unfold zH;rw[dO Vc,h4,e]
 .rw[e];exact Vp.V λb _ hl=>hl
theorem Ci (hM:fU w P v bs y)(h:kh bs)(hu:UOK w):tu w w.heap.size (ei bs) (mO (y.map (·.1))):=
 ⟨hu,hu.lt1,hu.lt2,aE _,λ_ _ ht=>by
  have⟨_,m,_,h1,_,_,h2,h3,_⟩:=rh hM h ht
  grind⟩
end
section
open Vo
section
variable (w:aw)
def uW (k:Nat)(pq iq:aC)(hk:k<=16):Calls prog 368 #[.agg #[aa k,.pointer pq],.pointer iq] w (jM w λw' v=>SF w' (λb=>w.heap.size<=b) k iq v):=by
 have Vr:= @wo;have hC:=λW=>qi W k (.pointer pq) hk
 have⟨B0,K1,K2⟩:=gY w #[aa k,.pointer pq] #[.pointer iq] 216 116;have⟨k1,k2⟩:=K1.I;rcases AQ hk with rfl|rfl|rfl|rfl|rfl|rfl|rfl|rfl|rfl|rfl|rfl|rfl|rfl|rfl|rfl|rfl|rfl
 all_goals
  go_in
  go_wp2_with (go_at_call 208;refine(hC _).V ?_;rintro e w2 ⟨rfl,b2⟩)
  go_ret
  first
   |exact⟨_,rfl,⟨417,[],⟨rfl,enters_of func417 Vh rfl⟩,λS fl n N W hK hq hN hb Vp=>TL Vc⟩,dU B0 b2⟩
   |exact⟨_,rfl,⟨416,[],⟨rfl,enters_of func416 Vh rfl⟩,λS fl n N W hK hq hN hb Vp=>TK Vc⟩,dU B0 b2⟩
   |exact⟨_,rfl,⟨415,[],⟨rfl,enters_of func415 Vh rfl⟩,λS fl n N W hK hq hN hb Vp=>TJ Vc⟩,dU B0 b2⟩
   |exact⟨_,rfl,⟨414,[],⟨rfl,enters_of func414 Vh rfl⟩,λS fl n N W hK hq hN hb Vp=>TI Vc⟩,B0⟩
   |exact⟨_,rfl,⟨413,[],⟨rfl,enters_of func413 Vh rfl⟩,λS fl n N W hK hq hN hb Vp=>TH Vc⟩,B0⟩
   |(
     refine⟨_,rfl,⟨412,[ah (w.heap.size+1)],⟨rfl,enters_of func412 Vh rfl⟩,λS fl n N W hK hq hN hb Vp=> ?_⟩,B0⟩;have⟨t,h1,h2⟩:=Vp hb
     exact TG _ iq t hN (hK.bx Vc K2) (hq _ Vc K2.lt) h2 hb h1)
def qG (k:Nat)(pq iq:aC)(hk:k<=16):Calls prog 293 #[.agg #[aa k,.pointer pq],.pointer iq] w (jM w λw' v=>vH w' (λb=>w.heap.size<=b) k iq v):=by
 have Vr:= @wo;have hC:=λW=>qi W k (.pointer pq) hk
 have⟨B0,K1,K2⟩:=gY w #[aa k,.pointer pq] #[.pointer iq] 216 116;have⟨k1,k2⟩:=K1.I;rcases AQ hk with rfl|rfl|rfl|rfl|rfl|rfl|rfl|rfl|rfl|rfl|rfl|rfl|rfl|rfl|rfl|rfl|rfl
 all_goals
  go_in
  go_wp2_with (go_at_call 208;refine(hC _).V ?_;rintro e w2 ⟨rfl,b2⟩)
  go_ret
  first
   |exact⟨_,rfl,⟨376,[],⟨rfl,enters_of func376 Vh rfl⟩,λS fl n N W hK hq hN hb Vp=>TR hN Vc⟩,dU B0 b2⟩
   |exact⟨_,rfl,⟨375,[],⟨rfl,enters_of func375 Vh rfl⟩,λS fl n N W hK hq hN hb Vp=>TQ hN Vc⟩,dU B0 b2⟩
   |exact⟨_,rfl,⟨374,[],⟨rfl,enters_of func374 Vh rfl⟩,λS fl n N W hK hq hN hb Vp=>TP hN Vc⟩,dU B0 b2⟩
   |exact⟨_,rfl,⟨373,[],⟨rfl,enters_of func373 Vh rfl⟩,λS fl n N W hK hq hN hb Vp=>TO hN Vc⟩,B0⟩
   |exact⟨_,rfl,⟨372,[],⟨rfl,enters_of func372 Vh rfl⟩,λS fl n N W hK hq hN hb Vp=>TN hN Vc⟩,B0⟩
   |(
     refine⟨_,rfl,⟨371,[ah (w.heap.size+1)],⟨rfl,enters_of func371 Vh rfl⟩,λS fl n N W hK hq hN hb Vp=> ?_⟩,B0⟩;have⟨t,h1,h2,h3⟩:=Vp hb
     exact TM _ iq t hN (hK.bx Vc K2) (hq _ Vc K2.lt) h2 h3 hb h1)
def nY (k:Nat)(pq iq:aC)(hk:k<=16):Calls prog 289 #[.agg #[aa k,.pointer pq],.pointer iq] w (jM w λw' v=>vG w' (λb=>w.heap.size<=b) k iq v):=by
 have Vr:= @wo;have⟨B1,K1⟩:=d8 w #[aa k,.pointer pq] 216;have hC:=uW (w.alloc (am #[aa k,.pointer pq] 216)) k pq iq hk;have⟨k1,k2⟩:=K1.I;go_in
 go_wp2_with fail;refine hC.V ?_;rintro e w2 ⟨v2,rfl,⟨vf,Vq,⟨rfl,Vs⟩,HV⟩,b2⟩;have s1:=B1.size;have s2:=b2.size;generalize w.alloc (am #[aa k,.pointer pq] 216)=w1 at*;have⟨B3,K3⟩:=d8 w2 #[.func (.func vf) #[] Vq.toArray] 447;go_wp2;go_ret;refine⟨_,rfl,⟨369,[ah w2.heap.size],⟨rfl,enters_of func369 Vh rfl⟩,λS fl n N W hK hq hN hb Vp=> ?_⟩,dU B1 (dU b2 B3)⟩;exact SE w2.heap.size vf Vq hN (hK.bx Vc K3) (hq _ Vc K3.lt) Vs (HV S fl n N W ((hK.back B3).less λb q=>Vc) (λb q l=>hq b Vc (aI l B3.size)) hN hb Vp)
end
structure Bz (lo:Nat)(W:aw)(on st:Bool)(t:Value)(b:Nat)(T:TypeId)(x y:Value):Prop where
 made:on=true->t=ah b/\lo<=b/\∃u v,dX W b #[u,v] T
 put:st=true->dX W b #[x,y] T
 dep:st=true->on=true
section
variable {lo:Nat} {W W':aw} {on st:Bool} {t:Value} {b:Nat} {T:TypeId} {x y:Value}
def Bz.start:Bz lo W false false t b T x y:=⟨nofun,nofun,nofun⟩
def Bz.G (h:Bz lo W on st t b T x y)(hb:Below W.heap.size W W'):Bz lo W' on st t b T x y:=
 ⟨λe=>by
  have⟨h1,h2,u,v,h3⟩:=h.made e
  exact⟨h1,h2,u,v,h3.G hb h3.lt⟩,λe=>(h.put e).G hb (h.put e).lt,h.dep⟩
def Bz.alloc (h:Bz lo W on st t b T x y)(o:Obj):Bz lo (W.alloc o) on st t b T x y:=h.G ((Below.refl _ _).alloc (aE _) o)
def Bz.new (h:Bz lo W false st t b T x y)(hl:lo<=W.heap.size)(u v:Value):Bz lo (W.alloc (.cells #[u,v] T)) true st (ah W.heap.size) W.heap.size T x y:=
 ⟨λ_=>⟨rfl,hl,u,v,dX.new _ _ _⟩,λe=>(by cases h.dep e),λe=>Vi⟩
def Bz.store (h:Bz lo W true st t b T x y):Bz lo ((W.setCell (aj b 0) x).setCell (aj b 1) y) true true t b T x y:=by
 have⟨h1,h2,u,v,h3⟩:=h.made rfl;have q:dX ((W.setCell (aj b 0) x).setCell (aj b 1) y) b #[x,y] T:=(h3.set 0 x).set 1 y;exact⟨λ_=>⟨h1,h2,x,y,q⟩,λ_=>q,λ_=>rfl⟩
def Bz.oth (h:Bz lo W on st t b T x y){c:Nat}(hne:on=true->c≠b)(off:Nat)(z:Value):Bz lo (W.setCell (aj c off) z) on st t b T x y:=
 ⟨λe=>by
  have⟨h1,h2,u,v,h3⟩:=h.made e
  exact⟨h1,h2,u,v,h3.other off z (hne e)⟩,λe=>(h.put e).other off z (hne (h.dep e)),h.dep⟩
def Bz.lt (h:Bz lo W on st t b T x y)(e:on=true):b<W.heap.size:=by
 have⟨_,_,u,v,h3⟩:=h.made e;exact h3.lt
def Bx.oth {vr:Bool}(h:Bx lo W on st vr t b T x){c:Nat}(hne:on=true->c≠b)(off:Nat)(z:Value):Bx lo (W.setCell (aj c off) z) on st vr t b T x:=
 ⟨λe=>by
  have⟨h1,h2,h3⟩:=h.made e
  exact⟨h1,h2,h3.other off z (hne e)⟩,λe=>(h.put e).other off z (hne (h.dep e).1),h.dep⟩
def ox.lt1 {W:aw}{on:Bool}{b:Nat}(h:on=true->b<W.heap.size):ox true on W.heap.size b:=λ_ e q=>by
 grind
end
def T5 (n k t:Int):Prop:=0<=n/\n<=536870911->t=((fD n k).length:Int)
section
variable (w:aw)
def Pc (x:Int):0<=IntKind.u64.wrap x/\IntKind.u64.wrap x<=18446744073709551615:=by
 simp[IntKind.wrap,IntKind.bits,IntKind.signed];omega
def My (op:BinOp)(x y:Int):0<=bits op .u64 x y/\bits op .u64 x y<=18446744073709551615:=by
 unfold bits;exact Pc _
def Cw (x:Int):Calls prog 328 #[.int .u64 x] w λe w'=>∃t,e= .returned (aa t)/\ak w w':=by
 have⟨q1,q2⟩:=My .or x 1;have hl:=Em _ w q1 q2;clear q1 q2;go_in
 go_wp2_with fail;refine hl.V ?_;rintro e w2 ⟨rfl,rfl⟩;go_wp2;go_ret;exact⟨_,rfl,Below.refl _ _⟩
def Ri (n k:Int):Calls prog 316 #[.agg #[aa n,aa k]] w λe w'=>∃x,e= .returned (.int .u64 x)/\ak w w':=by
 have⟨k1,k2⟩:=(dX.new w #[aa n,aa k] 237).I;go_in
 go_wp2;go_ret;exact⟨_,rfl,(Below.refl _ _).alloc (aE _) _⟩
def Rj (n k:Int)(k0:0<=k)(k1:k<8):Calls prog 242 #[.agg #[aa n,aa k]] w λe w'=>∃t,e= .returned (aa t)/\T5 n k t/\ak w w':=by
 by_cases h:0<=n/\n<=536870911;.exact(P4 w n k h.1 h.2 k0 k1).V λe w' q=>⟨_,q.1,λ_=>rfl,q.2⟩
 .have⟨B1,K1⟩:=d8 w #[aa n,aa k] 237;have⟨k1,k2⟩:=K1.I;go_in
  go_wp2_with fail;refine(Ri _ n k).V ?_;rintro e w2 ⟨x,rfl,b2⟩;go_wp2_with fail;refine(Cw _ x).V ?_;rintro e w3 ⟨m,rfl,b3⟩;go_wp2;go_ret;exact⟨_,rfl,λq=>absurd q h,dU B1 (dU b2 b3)⟩
end
inductive Um (w:aw)(mp:an)(g:GF)(fb:Nat)(pq iq:aC)(W:aw):Array Bool->Act->Prop where
 |mk {l0 l1 l2 l3 l4 l5 l6 l7 l8 l9 l10 Vw Vx:Bool} {t5 t6 t7 t8 t9 VA VB VC VD VE Vy:Value} (bP bQ:Nat) (tl:Int) (m1 m2:Nat) (f0:l0=true->t7=ah fb) (f1:l1=true->t8= .agg #[aa g.f.num,aa (AO mp g)]) (f2:l2=true->t9=aa tl) (f3:l3=true->VA=ah fb) (f4:l4=true->VB=ah fb) (f5:l5=true->VC= .pointer (some (aj fb 2))) (f6:l6=true->VD= .agg #[aa (eI mp g),.pointer pq]) (f7:l7=true->VE= .pointer iq) (B:ak w W) (xP:Bx (w.heap.size) W l9 Vw l2 t5 bP 3 t9) (xQ:Bx (w.heap.size) W l10 Vx l8 t6 bQ 262 Vy) (Vp:ox l9 l10 bP bQ) (Vq:Jo l9 l8 bP m1 m2) (Vr:Jo l10 l8 bQ m1 m2) (V:l8=true->vG W (λb=>m1<=b/\b<m2) (eI mp g) iq Vy/\w.heap.size<=m1/\m2<=W.heap.size) (sz:l2=true->T5 g.f.num (AO mp g) tl):Um w mp g fb pq iq W #[l0,l1,l2,l3,l4,l5,l6,l7,l8,l9,l10,Vw,Vx] ⟨#[ah fb,.pointer iq,undef,undef,.nilFunc,t5,t6,t7,t8,t9,VA,VB,VC,VD,VE,Vy,undef,undef,undef,undef],[]⟩
section
variable (w:aw) (P:ax) (mp:an) (g:GF) (fb:Nat) (iq:aC)
def vY (h:eZ w P mp g fb):Calls prog 211 #[ah fb,.pointer iq] w (jM w λw' v=>Gh w' (λb=>w.heap.size<=b) mp g iq v):=by
 have hmf:= @wo;have⟨pv,rv,h1,_,Vu,VG⟩:=h.blk;obtain⟨pq,rfl⟩:=gK VG;obtain⟨ra,rn,rc,rfl⟩:=d5 Vu.1;have VI:=me mp g;have VJ:=h1.lt;have hT:∀W,ak w W->U8 231 #[ah fb] W λe w'=>e= .returned (.agg #[aa g.f.num,aa (AO mp g)])/\Below W.heap.size W w':=λW hW=>yB W P mp g fb (h.O (λb _ hl=>hW.block b hl))
 have⟨VM,VN⟩:=tD mp g;have hS:=λW=>Rj W g.f.num (AO mp g) VM VN
 have VK:∀W,ak w W->U8 209 #[ah fb] W λe w'=>e= .returned (.bool (io mp g))/\Below W.heap.size W w':=λW hW=>mQ W P mp g fb (h.O (λb _ hl=>hW.block b hl))
 have VL:=λW=>nY W (eI mp g) pq iq VI
 clear VG Vu h;go_in
 go_upto_region 1 with fail
 go_cut [5,6]from 7 to 15 (λx y wx=>∃tb ab tl vv,x=ah tb/\y=ah ab/\dX wx tb #[aa tl] 3/\dX wx ab #[vv] 262/\T5 g.f.num (AO mp g) tl/\vG wx (λb=>w.heap.size<=b) (eI mp g) iq vv/\w.heap.size<=tb/\w.heap.size<=ab/\ak w wx)
 case first=>
  refine kD (λL a W=>Um w mp g fb pq iq W L a) Vi ⟨0,0,0,0,0,nofun,nofun,nofun,nofun,nofun,nofun,nofun,nofun,(Below.refl _ _).drew,Bx.start,Bx.start,nofun,nofun,nofun,nofun,nofun⟩ Vh ?_ ?_
  .rintro L a W @⟨l0,l1,l2,l3,l4,l5,l6,l7,l8,l9,l10,Vw,Vx,t5,t6,t7,t8,t9,VA,VB,VC,VD,VE,Vy,bP,bQ,tl,m1,m2,f0,f1,f2,f3,f4,f5,f6,f7,B,xP,xQ,Vp,Vq,Vr,V,sz⟩ Vs;obtain rfl:l2=true:=Vs 2 Vf;obtain rfl:l8=true:=Vs 8 Vf;obtain rfl:l9=true:=Vs 9 Vf;obtain rfl:l10=true:=Vs 10 Vf;obtain rfl:Vw=true:=Vs 11 Vf;obtain rfl:Vx=true:=Vs 12 Vf;obtain⟨rfl,zP,_⟩:=xP.made rfl;obtain⟨rfl,zQ,_⟩:=xQ.made rfl;obtain rfl:=f2 rfl;have⟨v1,v2,v3⟩:=V rfl;have KP:=xP.put rfl;have KQ:=xQ.put rfl;have hsz:=sz rfl;go_wp2;go_meet
   case rel=>exact⟨_,_,_,_,rfl,rfl,KP,KQ,hsz,v1.mV (λb q l=>⟨aM v2 q.1,rfl⟩),zP,zQ,B⟩
  refine .cons ?_ (.cons ?_ (.cons ?_ (.cons ?_ (.cons ?_ (.cons ?_ (.cons ?_ (.cons ?_ (.cons ?_ (.cons ?_ (.cons ?_ (.cons ?_ (.cons ?_ (.nil)))))))))))))
  all_goals
   rintro L a W ⟨bP,bQ,tl,m1,m2,f0,f1,f2,f3,f4,f5,f6,f7,B,xP,xQ,Vp,Vq,Vr,V,sz⟩ h0 hd K hK;subst h0
  .clear hd;go_simp;refine hK.out _ _ ?_;simp only[U6];exact⟨bP,bQ,tl,m1,m2,λ_=>rfl,f1,f2,f3,f4,f5,f6,f7,B,xP,xQ,Vp,Vq,Vr,V,sz⟩
  .obtain rfl:=eV (k:=0) hd Vh;obtain rfl:=f0 rfl;clear hd;go_simp;go_wp2_with (first|(go_at_call 231;refine(hT _ B).V ?_;rintro e w2 ⟨rfl,b2⟩))
   refine hK.out _ _ ?_;simp only[U6];exact⟨bP,bQ,tl,m1,m2,λ_=>rfl,λ_=>rfl,f2,f3,f4,f5,f6,f7,(dU B b2),(xP.G b2),(xQ.G b2),Vp,Vq,Vr,(λe=>⟨(V e).1.mV (λb q l=>⟨q,b2.block b l⟩),(V e).2.1,aM (V e).2.2 b2.size⟩),sz⟩
  .obtain rfl:=eV (k:=1) hd Vh;obtain rfl:=f1 rfl;clear hd;go_simp;go_wp2_with (first|(go_at_call 242;refine(hS _).V ?_;rintro e w3 ⟨t3,rfl,hsz,b3⟩))
   refine hK.out _ _ ?_;simp only[U6];exact⟨bP,bQ,t3,m1,m2,f0,λ_=>rfl,λ_=>rfl,f3,f4,f5,f6,f7,(dU B b3),((xP.G b3).val _),(xQ.G b3),Vp,Vq,Vr,(λe=>⟨(V e).1.mV (λb q l=>⟨q,b3.block b l⟩),(V e).2.1,aM (V e).2.2 b3.size⟩),(λ_=>hsz)⟩
  .clear hd;go_simp;refine hK.out _ _ ?_;simp only[U6];exact⟨bP,bQ,tl,m1,m2,f0,f1,f2,λ_=>rfl,f4,f5,f6,f7,B,xP,xQ,Vp,Vq,Vr,V,sz⟩
  .obtain rfl:=eV (k:=3) hd Vh;obtain rfl:=f3 rfl;clear hd;go_simp;refine hK.out _ _ ?_;simp only[U6];exact⟨bP,bQ,tl,m1,m2,f0,f1,f2,λ_=>rfl,λ_=>rfl,f5,f6,f7,B,xP,xQ,Vp,Vq,Vr,V,sz⟩
  .obtain rfl:=eV (k:=4) hd Vh;obtain rfl:=f4 rfl;clear hd;go_simp;refine hK.out _ _ ?_;simp only[U6];exact⟨bP,bQ,tl,m1,m2,f0,f1,f2,f3,λ_=>rfl,λ_=>rfl,f6,f7,B,xP,xQ,Vp,Vq,Vr,V,sz⟩
  .obtain rfl:=eV (k:=5) hd Vh;obtain rfl:=f5 rfl;have KF:=h1.G B VJ;have⟨k1,k2⟩:=KF.I;clear hd;go_simp;refine hK.out _ _ ?_;simp only[U6];exact⟨bP,bQ,tl,m1,m2,f0,f1,f2,f3,f4,λ_=>rfl,λ_=>rfl,f7,B,xP,xQ,Vp,Vq,Vr,V,sz⟩
  .clear hd;go_simp;refine hK.out _ _ ?_;simp only[U6];exact⟨bP,bQ,tl,m1,m2,f0,f1,f2,f3,f4,f5,f6,λ_=>rfl,B,xP,xQ,Vp,Vq,Vr,V,sz⟩
  .obtain rfl:=eV (k:=6) hd Vh;obtain rfl:=eV (k:=7) hd Vh;obtain rfl:=f6 rfl;obtain rfl:=f7 rfl;clear hd;go_simp;go_wp2_with (first|(go_at_call 289;refine(VL _).V ?_;rintro e w4 ⟨vv,rfl,VO,b4⟩))
   refine hK.out _ _ ?_;simp only[U6];exact⟨bP,bQ,tl,W.heap.size,w4.heap.size,f0,f1,f2,f3,f4,f5,λ_=>rfl,λ_=>rfl,(dU B b4),(xP.G b4),((xQ.G b4).val _),Vp,(λe _=> .inl (xP.lt e)),(λe _=> .inl (xQ.lt e)),(λ_=>⟨VO.mV (λb q l=>⟨⟨q,l⟩,rfl⟩),B.size,aE _⟩),sz⟩
  .clear hd;go_simp;refine hK.out _ _ ?_;simp only[U6];exact⟨W.heap.size,bQ,tl,m1,m2,f0,f1,f2,f3,f4,f5,f6,f7,(B.alloc B.size _),(xP.new B.size _),(xQ.alloc _),(ox.lt1 xQ.lt),(λ_ e=> .inr (V e).2.2),Vr,(λe=>⟨(V e).1.mV (λb q l=>⟨q,(Vb W _).block b l⟩),(V e).2.1,aM (V e).2.2 (Vb W _).size⟩),sz⟩
  .clear hd;go_simp;refine hK.out _ _ ?_;simp only[U6];exact⟨bP,W.heap.size,tl,m1,m2,f0,f1,f2,f3,f4,f5,f6,f7,(B.alloc B.size _),(xP.alloc _),(xQ.new B.size _),(ox.lt1 xP.lt).sy,Vq,(λ_ e=> .inr (V e).2.2),(λe=>⟨(V e).1.mV (λb q l=>⟨q,(Vb W _).block b l⟩),(V e).2.1,aM (V e).2.2 (Vb W _).size⟩),sz⟩
  .obtain rfl:=eV (k:=9) hd Vh;obtain rfl:=eV (k:=2) hd Vh;obtain⟨rfl,zP,yP⟩:=xP.made rfl;have⟨wP,cP,kP⟩:=iE yP;obtain rfl:=f2 rfl;clear hd;go_simp;refine hK.out _ _ ?_;simp only[U6];exact⟨bP,bQ,tl,m1,m2,f0,f1,λ_=>rfl,f3,f4,f5,f6,f7,(B.setCell (p:=(aj bP 0)) zP _),xP.store,(xQ.oth (λe=>Vp rfl e) 0 _),Vp,Vq,Vr,(λe=>⟨(V e).1.mV (λb q l=>⟨q,er (by have:=Vq rfl e;omega)⟩),(V e).2.1,by simpa using(V e).2.2⟩),sz⟩
  .obtain rfl:=eV (k:=10) hd Vh;obtain rfl:=eV (k:=8) hd Vh;obtain⟨rfl,zQ,yQ⟩:=xQ.made rfl;have⟨wQ,cQ,kQ⟩:=iE yQ;obtain⟨vf,vcap,⟨rfl,VF⟩,hvc⟩:=(V rfl).1;clear hd;go_simp;refine hK.out _ _ ?_;simp only[U6];exact⟨bP,bQ,tl,m1,m2,f0,f1,f2,f3,f4,f5,f6,f7,(B.setCell (p:=(aj bQ 0)) zQ _),(xP.oth (λe=>Vp.sy rfl e) 0 _),xQ.store,Vp,Vq,Vr,(λe=>⟨(V e).1.mV (λb q l=>⟨q,er (by have:=Vr rfl e;omega)⟩),(V e).2.1,by simpa using(V e).2.2⟩),sz⟩
 case rest=>
  obtain⟨tb,ab,tl,vv,rfl,rfl,KP,KQ,hsz,⟨af,Vv,⟨rfl,VF⟩,hv⟩,zP,zQ,b3⟩:=hcut;have hq:=VK wc b3;obtain⟨pk,Vz⟩:=Y9 (io mp g);rw[Vz]at hq
  have HF:Hid (∀w5,ak wc w5->∀f,(∀args w,(callFunc f args).run prog w= .ok (.enter f args) w)->f=(if pk then 290 else 291)->Gh w5 (λb=>w.heap.size<=b) mp g iq (.func (.func f) #[] #[ah tb,ah ab])):=λw5 b5 f hf VH=>by
   refine⟨f,[ah tb,ah ab],⟨rfl,hf⟩,λS d fl n N W hK hq hN fg hnm VP=> ?_⟩;have Vt:=hsz (by rw[fg.eq];omega);rw[fg.eq,fg.tk]at Vt;subst Vt;have K1:=hK.bx zP (KP.G b5 KP.lt);have K2:=hK.bx zQ (KQ.G b5 KQ.lt);have L:=hv S fl n N W (hK.back b5) (λb q l=>hq b q (aI l b5.size)) hN fg.gb.sy VP;have i1:=hq tb zP (aI KP.lt b5.size);have i2:=hq ab zQ (aI KQ.lt b5.size);rw[fg.pk]at Vz
   cases pk with
   |true=>
    obtain rfl:=VH;have:=Mb tb ab af Vv (fD fl.num (oU S fl)) K1 K2 i1 i2 VF L
    exact λW' Z vv l k B q1 q2 q3 q4=>by
     have e:kL S (eG S n) fl l=fD fl.num (oU S fl)++fF (nF S (eG S n) fl l):=by unfold kL;rw[dP Vz]
     rw[e]at q4⊢
     exact this W' Z vv l k B q1 q2 q3 q4
   |false=>
    obtain rfl:=VH;have:=OW tb ab af Vv (fD fl.num (oU S fl)) K1 K2 i1 i2 VF L
    exact λW' Z vv l k B q1 q2 q3 q4=>by
     have e:kL S (eG S n) fl l=l.flatMap λv=>fD fl.num (oU S fl)++gm S (eG S n) fl v:=by unfold kL;rw[dO (by grind)]
     rw[e]at q4⊢;exact this W' Z vv l k B q1 q2 q3 q4
  clear Vz hsz hv
  cases pk with
  |true=>
   go_wp2_with fail;refine hq.V ?_;rintro e w5 ⟨rfl,b5⟩;go_wp2;go_ret
   exact⟨_,rfl,HF.o w5 b5 290 (enters_of func290 Vi rfl) rfl,dU b3 b5⟩
  |false=>
   go_wp2_with fail;refine hq.V ?_;rintro e w5 ⟨rfl,b5⟩;go_wp2;go_ret;exact⟨_,rfl,HF.o w5 b5 291 (enters_of func291 Vi rfl) rfl,dU b3 b5⟩
end
end
abbrev rA:=ap
def wh (l:ap):List rA:=mr l.length l
def xj {l:ap}{n:Nat}{T:List rA}(h:mr n l=T)(hn:l.length<=n):wh l=T:=(lQ _ _ _ (aE _) hn).J h
def j7 {s r:ap}(h:Bd s):wh (s++r)=wh s++wh r:=by
 unfold wh;rw[zv _ s r Vd h,lQ (s++r).length s.length s Vd (aE _),lQ (s++r).length r.length r Vd (aE _)]
def Bd.nil:Bd []:=λ_ h=>by cases h
def Bd.one {c:UInt8}(h:pA c=false):Bd [c]:=λx hx=>by simp_all
def Bd.end {s r:ap}(h:Bd r)(hr:r≠ []):Bd (s++r):=λc hc=>h c (by
 simp_all)
def Bd.add {s r:ap}(hs:Bd s)(hr:Bd r):Bd (s++r):=by
 by_cases h:r= [];.simp_all
 .exact hr.end h
def Qi:Bd [59,32]:=λc h=>by cases h;rfl
def Qj (k:Nat):List rA:= [102::gr k,[61],gr (k+1),[59]]
def C9 (k:Nat)(f:F3):List rA:=gG f.1::Qj k
def JN (k:Nat)(f:F3):List rA:=
 if f.2.1=0 then C9 k f
 else if f.2.1=1 then [114,101,112,101,97,116,101,100]::C9 k f
 else if f.2.1=2 then [111,112,116,105,111,110,97,108]::C9 k f
 else if f.2.1=3 then []
 else [109,97,112]:: [60]::gG f.2.2:: [44]::gG f.1:: [62]::Qj k
def RL (k:Nat)(f:F3):List rA:=if f.2.1=3 then C9 k f else []
def UN:∀t:Fin 19,∀k:Fin 7,mr 40 (JG k.val (t.val,0,0))=C9 k.val (t.val,0,0):=Vg
def UO:∀y:Fin 16,mr 40 ([109,97,112,60]++gG y.val++ [44])= [[109,97,112],[60],gG y.val,[44]]:=Vg
def UP:∀t:Fin 19,∀k:Fin 7,mr 40 (gG t.val++ [62,32,102]++Qc k.val)=gG t.val:: [62]::Qj k.val:=Vg
def UQ:∀i:Fin 3,mr 40 ([109,101,115,115,97,103,101,32,77]++gr i.val++ [32,123])= [[109,101,115,115,97,103,101],77::gr i.val,[123]]:=Vg
def IA (n:Nat)(f:F3):Prop:=f.1<16+n/\f.2.1<5/\f.2.2∈iu/\(f.2.1≠4->f.2.2=0)
def Nj (k:Nat):(Qc k).length=7:=rfl
def Ql (k:Nat)(f:F3):Bd (JG k f):=(Bd.end Qi Vd).end Vd
def IB {n k:Nat}{f:F3}(hn:n<=3)(h:IA n f)(hk:k<7):wh (JG k f)=C9 k f:=by
 have h1:f.1<19:=by have:=h.1;omega
 exact xj (UN ⟨f.1,h1⟩ ⟨k,hk⟩) (by have:=ro h1;simp only[JG,aN,Nj,bw,df];omega)
def PA {n k:Nat}{f:F3}(hn:n<=3)(h:IA n f)(hk:k<7):wh (Qd k f)=JN k f/\Bd (Qd k f):=by
 have h1:f.1<19:=by have:=h.1;omega
 have hL:=IB hn h hk;have hB:=Ql k f;unfold Qd JN;split;.simp_all
 .split;.exact⟨by rw[j7 (λc h=>by cases h;rfl),hL];rfl,hB.end (by simp[JG])⟩
  .split;.exact⟨by rw[j7 (λc h=>by cases h;rfl),hL];rfl,hB.end (by simp[JG])⟩
   .split;.exact⟨rfl,Bd.nil⟩
    .have hy:=MO h.2.2.1;have w1:=ro h1;have w2:(gG f.2.2).length<=8:=ro Vc;have e: [109,97,112,60]++gG f.2.2++ [44]++gG f.1++ [62,32,102]++Qc k=([109,97,112,60]++gG f.2.2++ [44])++(gG f.1++ [62,32,102]++Qc k):=Vd;rw[e];refine⟨?_,((Bd.end Qi Vd).end Vd).end Vd⟩;rw[j7 ((Bd.one rfl).end Vd),xj (UO ⟨f.2.2,hy⟩) (by grind),xj (UP ⟨f.1,h1⟩ ⟨k,hk⟩) (by simp[Nj];omega)];rfl
def GI (fs:List F3):Nat->List rA
 |0=> []
 |k+1=>GI fs k++JN k ((fs[k]?).getD (0,0,0))
def GJ (fs:List F3):Nat->List rA
 |0=> []
 |k+1=>GJ fs k++RL k ((fs[k]?).getD (0,0,0))
def RM {n:Nat}{fs:List F3}(h:∀f∈fs,IA n f){k:Nat}(hk:k<fs.length):IA n ((fs[k]?).getD (0,0,0)):=by
 grind
def EV {n:Nat}{fs:List F3}(hn:n<=3)(h:∀f∈fs,IA n f)(h7:fs.length<=7):∀k,k<=fs.length->(wh (wd fs k)=GI fs k/\Bd (wd fs k))/\wh (pU fs k)=GJ fs k/\Bd (pU fs k)
 |0,_=>⟨⟨rfl,Bd.nil⟩,rfl,Bd.nil⟩
 |k+1,hk=>by
  have⟨⟨h1,h2⟩,h3,h4⟩:=EV hn h h7 k Vc;have ho:=RM h (show k<fs.length by omega);have⟨h5,h6⟩:=PA (k:=k) hn ho Vc;rw[wd,GI,pU,GJ,j7 h2,j7 h4,h1,h3,h5];refine⟨⟨rfl,h2.add h6⟩,?_,h4.add ?_⟩
  .unfold MM RL;split;.rw[IB hn ho Vc]
   .rfl
  .unfold MM;split;.exact Ql _ _
   .exact Bd.nil
def PB (i:Nat)(fs:List F3):List rA:=
 [[109,101,115,115,97,103,101],77::gr i,[123]]++(GI fs fs.length++((if pU fs fs.length= []then []else [[111,110,101,111,102],[111],[123]]++(GJ fs fs.length++ [[125]]))++ [[125]]))
def Se (L:List (List F3)):Nat->List rA
 |0=> [[101,110,117,109],[69],[123],[65],[61],[48],[59],[125]]
 |i+1=>Se L i++PB i ((L[i]?).getD [])
def S1 (i:Nat)(fs:List F3):Bd (Ro i fs):=Bd.end (s:=_) (r:= [125,10]) (λc h=>by cases h;rfl) Vd
def PC {n i:Nat}{fs:List F3}(hn:n<=3)(hi:i<3)(h:∀f∈fs,IA n f)(h7:fs.length<=7):wh (Ro i fs)=PB i fs:=by
 have⟨⟨h1,h2⟩,h3,h4⟩:=EV hn h h7 fs.length (aE _);unfold Ro PB;rw[bj,bj,j7 (Bd.end (λc h=>by cases h;rfl) Vd),xj (UQ ⟨i,hi⟩) (by simp[dig_len]),j7 h2,h1];congr 2;split;.rfl
 .rw[j7 (Bd.end (λc h=>by cases h;rfl) Vd),bj,j7 (λc h=>by cases h;rfl),j7 h4,h3];rfl
def UR:wh [101,110,117,109,32,69,32,123,32,65,32,61,32,48,59,32,125,10]= [[101,110,117,109],[69],[123],[65],[61],[48],[59],[125]]:=Vi
def EW {L:List (List F3)}(h:CG L):∀i,i<=L.length->wh (we L i)=Se L i/\Bd (we L i)
 |0,_=>⟨UR,λc h=>by cases h;rfl⟩
 |i+1,hi=>by
  have⟨h1,h2⟩:=EW h i Vc;have hl:=h.few.2;have⟨_,h7,hf⟩:=h.fs _ (List.getElem_mem (show i<L.length by omega));rw[we,Se,j7 h2,h1,aO (show i<L.length by omega)];exact⟨by rw[show(some L[i]).getD []=L[i]from rfl,PC hl Vc hf h7],h2.add (S1 _ _)⟩
def RN {L:List (List F3)}(h:CG L):(fO (qK L)).map (λx=>x.1.data.toList)=Se L L.length++ [[]]:=by
 unfold fO;rw[bS];congr 1;unfold Ae;rw[GH (qK L) _ (qK L).size 0 Vc Vc (aP _)];have:(qK L).data.toList.length=(qK L).size:=Vd;rw[List.drop_zero,<-this];exact(EW h L.length (aE _)).1
section
variable (l:ap) {β:Type} {stop:Nat->Bool}
def Tk (ws:List W)(i:Nat)(l:List rA):Prop:=(ws.drop i).map (fun x=>x.1.data.toList)=l
def kG {α β:Type}(R:β->α->Prop):List β->List α->Prop
 | [],[]=>True
 |x::xs,y::ys=>R x y/\kG R xs ys
 |_,_=>False
theorem zA:(bl l).toList=l:=by rw[ByteArray.toList_eq,iH]
def qM (l:ap):Int:=
 if l.length=0 then 4 else if mt (((l[0]?).map fun x=>(x.toNat:Int)).getD 0)then 2 else if !vM (((l[0]?).map fun x=>(x.toNat:Int)).getD 0)||pV l then 0 else if jI l then 3 else 1
theorem iY:dV (bl l)=qM l:=by
 unfold dV jq qM;rw[mq,fR,zA,iH]
section
variable {ws:List W} {i:Nat} {l:List rA} {x s:rA}
theorem Tk.len (h:Tk ws i l):l.length=ws.length-i:=by rw[<-h];simp
theorem Tk.step (h:Tk ws i (x::l)):∃p,ws[i]?=some (bl x,p)/\Tk ws (i+1) l:=by
 unfold Tk at*;have hl:i<ws.length:=(by have:=congrArg List.length h;grind);rw[be hl,bK]at h;injection h with h1 h2
 exact⟨ws[i].2,by rw[aO hl,<-h1,CE],h2⟩
theorem Tk.app {a:List rA}(h:Tk ws i (a++l)):Tk ws (i+a.length) l:=by
 unfold Tk at*;rw[<-List.drop_drop,List.map_drop,h];simp
theorem Tk.skip (h:Tk ws i (s::l)):gu ws s i= .ok ((),i+1)/\Tk ws (i+1) l:=by
 obtain⟨p,h1,h2⟩:=h.step;exact⟨by unfold gu;rw[h1];simp[zA],h2⟩
theorem Tk.kind {k:Int}(h:Tk ws i (x::l))(hk:dV (bl x)=k):∃p,kM ws k i= .ok ((bl x,p),i+1)/\Tk ws (i+1) l:=by
 obtain⟨p,h1,h2⟩:=h.step;exact⟨p,by unfold kM;simp_all,h2⟩
theorem Tk.type (h:Tk ws i (x::l))(hk:dV (bl x)=3\/dV (bl x)=1):∃p,pJ ws i= .ok ((bl x,p),i+1)/\Tk ws (i+1) l:=by
 obtain⟨p,h1,h2⟩:=h.step;exact⟨p,by unfold pJ;rw[h1];rcases hk with hk|hk<;>simp[hk],h2⟩
theorem Tk.txt (h:Tk ws i (x::l)):gk ws s i=(x==s):=by
 obtain⟨p,h1,h2⟩:=h.step;unfold gk;rw[h1];simp only[zA]
end
theorem US:∀k:Fin 7,qM (102::gr k.val)=1/\qM (gr (k.val+1))=2:=by decide+kernel
theorem Nk:∀t:Fin 19,qM (gG t.val)=3\/qM (gG t.val)=1:=by decide+kernel
structure wi (k:Nat)(f:F3)(fm:Int)(r:eU):Prop where
 form:r.form=fm
 key:r.key.map (·.1)=if fm=4 then some (bl (gG f.2.2))else none
 type:r.type.1=bl (gG f.1)
 name:r.name.1=bl (102::gr k)
 num:r.num.1=bl (gr (k+1))
section
variable {ws:List W} {i k n:Nat} {l:List rA} {f:F3}
theorem Tk.numP (hk:k<7)(h:Tk ws i (Qj k++l)):∃p q,kW ws i= .ok (((bl (102::gr k),p),(bl (gr (k+1)),q)),i+4):=by
 obtain⟨h1,h2⟩:=US ⟨k,hk⟩;obtain⟨p,e1,t1⟩:=Tk.kind h ((iY _).J h1);obtain⟨e2,t2⟩:=t1.skip;obtain⟨q,e3,t3⟩:=t2.kind ((iY _).J h2);obtain⟨e4,t4⟩:=t3.skip;exact⟨p,q,by unfold Go.Proofs.YtfebdimolnobaaaGreatDoor.kW;rw[e1];simp only[gM];rw[e2];simp only;rw[e3];simp only;rw[e4]⟩
theorem Tk.field (hk:k<7)(hf:f.1<19)(form:Int)(h4:form≠4)(h:Tk ws i (C9 k f++l)):∃r,fX ws form i= .ok (r,i+5)/\wi k f form r:=by
 have hw:=Nk ⟨f.1,hf⟩;obtain⟨p,e1,t1⟩:=Tk.type h (hw.imp (fun e=>(iY _).J e) fun e=>(iY _).J e);obtain⟨q,r,e2⟩:=Tk.numP hk t1;exact⟨_,by unfold fX;rw[e1];simp only[gM];rw[e2],rfl,by(simp;omega),rfl,rfl,rfl⟩
theorem Tk.map (hk:k<7)(hf:f.1<19)(hy:f.2.2<19)(h:Tk ws i ([109,97,112]:: [60]::gG f.2.2:: [44]::gG f.1:: [62]::(Qj k++l))):∃r,nN ws i= .ok (r,i+10)/\wi k f 4 r:=by
 have hw:=Nk ⟨f.1,hf⟩;have hv:=Nk ⟨f.2.2,hy⟩;obtain⟨e1,t1⟩:=h.skip;obtain⟨e2,t2⟩:=t1.skip;obtain⟨p,e3,t3⟩:=t2.type (hv.imp (fun e=>(iY _).J e) fun e=>(iY _).J e);obtain⟨e4,t4⟩:=t3.skip;obtain⟨q,e5,t5⟩:=t4.type (hw.imp (fun e=>(iY _).J e) fun e=>(iY _).J e);obtain⟨e6,t6⟩:=t5.skip;obtain⟨r,s,e7⟩:=Tk.numP hk t6;exact⟨_,by unfold nN;rw[e1];simp only[gM];rw[e2];simp only;rw[e3];simp only;rw[e4];simp only;rw[e5];simp only;rw[e6];simp only;rw[e7],rfl,rfl,rfl,rfl,rfl⟩
theorem tX {α:Type}{p:Nat->oB α}{F:β->List rA}{R:β->α->Prop}{e:List rA}(hs:∀i,Tk ws i e->stop i=true):
  ∀(iF:List β),(∀x∈iF,∀i l,Tk ws i (F x++l)->stop i=false/\∃a,p i= .ok (a,i+(F x).length)/\R x a)->∀n i,iF.length<=n->Tk ws i (iF.flatMap F++e)->∃ys,gI stop p n i= .ok (ys,i+(iF.flatMap F).length)/\kG R iF ys
 | [],_,n,i,_,h=>by
  refine⟨[],?_,trivial⟩
  cases n with
  |zero=>rfl
  |succ n=>rw[gI,if_pos (hs i h)];rfl
 |x::iF,_,0,_,hn,_=>by simp at hn
 |x::iF,hp,n+1,i,hn,h=>by
  rw[bt,bj]at h;obtain⟨h1,a,h2,h3⟩:=hp x (by simp) i _ h;obtain⟨ys,h4,h5⟩:=tX hs iF (fun y hy=>hp y (aY _ hy)) n (i+(F x).length) (by simp_all) h.app;refine⟨a::ys,?_,h3,h5⟩;rw[gI,if_neg (by rw[h1];decide),h2];simp only[gM];grind
theorem rC {F:β->List rA}:∀(iF:List β),(∀x∈iF,F x≠ [])->iF.length<=(iF.flatMap F).length
 | [],_=>aE _
 |x::iF,h=>by
  have h1:=rC iF (fun y hy=>h y (aY _ hy));have h2:=List.length_pos_iff.2 (h x (by simp));grind
end
def zG (fs:List F3)(n:Nat):List (Nat×F3):=(List.range n).map fun k=>(k,(fs[k]?).getD (0,0,0))
def sE (x:Nat×F3):Bool:=x.2.2.1==3
def nL (fs:List F3):List (Nat×F3):=(zG fs fs.length).filter fun x=> !sE x
def ones (fs:List F3):List (Nat×F3):=(zG fs fs.length).filter sE
theorem od {γ:Type}{F:β->List γ}{q:β->Bool}:∀(l:List β),(∀x∈l,q x=false->F x= [])->l.flatMap F=(l.filter q).flatMap F
 | [],_=>rfl
 |x::l,h=>by
  have ih:=od l (fun y hy=>h y (aY _ hy));grind
theorem zC {γ:Type}{F G:β->List γ}:∀(l:List β),(∀x∈l,F x=G x)->l.flatMap F=l.flatMap G
 | [],_=>rfl
 |x::l,h=>by rw[bt,bt,h x (by simp),zC l fun y hy=>h y (aY _ hy)]
theorem IC (fs:List F3):∀n,GI fs n=(zG fs n).flatMap (fun x=>JN x.1 x.2)/\GJ fs n=(zG fs n).flatMap (fun x=>RL x.1 x.2)/\pU fs n=(zG fs n).flatMap (fun x=>MM x.1 x.2)
 |0=>⟨rfl,rfl,rfl⟩
 |n+1=>by
  obtain⟨h1,h2,h3⟩:=IC fs n;unfold zG at*;rw[GI,GJ,pU,h1,h2,h3,List.range_succ];simp
theorem tY {fs:List F3}{n:Nat}{x:Nat×F3}(h:x∈zG fs n)(hn:n<=fs.length):x.1<n/\x.2∈fs/\fs[x.1]?=some x.2:=by
 obtain⟨k,hk,rfl⟩:=aR.1 h;grind
def vK (h:Nat):Int:=if h=1 then 2 else if h=2 then 1 else h
def iF (fs:List F3):List (Option (Nat×F3)):=(nL fs).map some++if ones fs= []then []else [none]
def NL (fs:List F3):Option (Nat×F3)->List rA
 |some x=>JN x.1 x.2
 |none=> [[111,110,101,111,102],[111],[123]]++((ones fs).flatMap (fun x=>C9 x.1 x.2)++ [[125]])
def Da (fs:List F3):Option (Nat×F3)->fI->Prop
 |some x,p=>∃r,p=⟨none,[r]⟩/\wi x.1 x.2 (vK x.2.2.1) r
 |none,p=>∃o rs,p=⟨some (bl [111],o),rs⟩/\kG (fun x r=>wi x.1 x.2 3 r) (ones fs) rs
theorem RO (i:Nat)(fs:List F3):PB i fs= [[109,101,115,115,97,103,101],77::gr i,[123]]++((iF fs).flatMap (NL fs)++ [[125]]):=by
 obtain⟨h1,h2,h3⟩:=IC fs fs.length
 have e1:GI fs fs.length=(nL fs).flatMap (fun x=>JN x.1 x.2):=by
  rw[h1]
  exact od _ fun x _ h=>by
   have:x.2.2.1=3:=by simpa [sE]using h
   unfold JN;rw[if_neg (by omega),if_neg (by omega),if_neg (by omega),if_pos this]
 have hq:∀x:Nat×F3,sE x=false->RL x.1 x.2= []/\MM x.1 x.2= []:=fun x h=>by
  have:¬x.2.2.1=3:=by simpa [sE]using h
  unfold RL MM
  (simp;omega)
 have hy:∀x∈ones fs,RL x.1 x.2=C9 x.1 x.2/\MM x.1 x.2≠ []:=fun x hx=>by
  have:x.2.2.1=3:=by simpa [sE]using(bA.1 hx).2
  unfold RL MM;rw[if_pos this,if_pos this];exact⟨rfl,by simp[JG]⟩
 have e2:GJ fs fs.length=(ones fs).flatMap (fun x=>C9 x.1 x.2):=(by rw[h2,od (q:=sE) _ fun x _ h=>(hq x h).1];exact zC _ fun x hx=>(hy x hx).1);have e3:pU fs fs.length=(ones fs).flatMap (fun x=>MM x.1 x.2):=(by rw[h3,od (q:=sE) _ fun x _ h=>(hq x h).2];rfl)
 have e4:pU fs fs.length= []<->ones fs= []:=by
  rw[e3];refine⟨fun h=> ?_,fun h=>by rw[h];rfl⟩
  cases ho:ones fs with
  |nil=>rfl
  |cons x l=>
   rw[ho,bt]at h;simp_all
 unfold PB iF;rw[e1,e2];by_cases h:ones fs= [];.rw[if_pos (e4.2 h),if_pos h,bW,List.flatMap_map];rfl
 .rw[if_neg (fun q=>h (e4.1 q)),if_neg h,cY,List.flatMap_map];simp[NL]
theorem rD:∀t:Fin 19,(gG t.val== [125])=false/\(gG t.val== [111,110,101,111,102])=false/\(gG t.val== [109,97,112])=false/\(gG t.val== [114,101,112,101,97,116,101,100])=false/\(gG t.val== [111,112,116,105,111,110,97,108])=false:=by decide+kernel
section
variable {ws:List W} {n:Nat} {fs:List F3}
theorem PD (hn:n<=3)(h:∀f∈fs,IA n f)(h7:fs.length<=7):∀x∈iF fs,∀i l,Tk ws i (NL fs x++l)->gk ws [125] i=false/\∃a,kA ws i= .ok (a,i+(NL fs x).length)/\Da fs x a:=by
 intro x hx i l ht;rcases aW.1 hx with hx|hx
 .obtain⟨⟨k,f⟩,hx1,rfl⟩:=aR.1 hx;obtain⟨Vs,ho⟩:=bA.1 hx1;obtain⟨hk,hf,_⟩:=tY Vs (aE _);have h3:¬f.2.1=3:=by simpa [sE]using ho
  have hF:=h f hf;have Vq:f.1<19:=by have:=hF.1;omega
  have hk:k<fs.length:=hk;obtain⟨q1,q2,q3,q4,q5⟩:=rD ⟨f.1,Vq⟩;have ht:Tk ws i (JN k f++l):=ht;show gk ws [125] i=false/\∃a:fI,kA ws i=Except.ok (a,i+(JN k f).length)/\∃r,a=⟨none,[r]⟩/\wi k f (vK f.2.1) r;unfold JN at ht⊢;unfold kA mw;by_cases c0:f.2.1=0;.rw[if_pos c0]at ht⊢;obtain⟨r,e,hr⟩:=Tk.field (by omega) Vq 0 (by decide) ht;have Vp:Tk ws i (gG f.1::(Qj k++l)):=ht;rw[Vp.txt,Vp.txt,Vp.txt,Vp.txt,Vp.txt,q1,q2,q3,q4,q5];exact⟨rfl,⟨none,[r]⟩,by simp only[aU,if_false];rw[e];rfl,r,rfl,by rw[c0];exact hr⟩
  .rw[if_neg c0]at ht⊢;by_cases c1:f.2.1=1;.rw[if_pos c1]at ht⊢;obtain⟨p,_,t1⟩:=Tk.step ht;obtain⟨r,e,hr⟩:=Tk.field (by omega) Vq 2 (by decide) t1;have Vp:Tk ws i ([114,101,112,101,97,116,101,100]::(C9 k f++l)):=ht;rw[Vp.txt,Vp.txt,Vp.txt,Vp.txt,Vp.txt];exact⟨rfl,⟨none,[r]⟩,by simp;rw[e];rfl,r,rfl,by rw[c1];exact hr⟩
   .rw[if_neg c1]at ht⊢;by_cases c2:f.2.1=2;.rw[if_pos c2]at ht⊢;obtain⟨p,_,t1⟩:=Tk.step ht;obtain⟨r,e,hr⟩:=Tk.field (by omega) Vq 1 (by decide) t1;have Vp:Tk ws i ([111,112,116,105,111,110,97,108]::(C9 k f++l)):=ht;rw[Vp.txt,Vp.txt,Vp.txt,Vp.txt,Vp.txt];exact⟨rfl,⟨none,[r]⟩,by simp;rw[e];rfl,r,rfl,by rw[c2];exact hr⟩
    .rw[if_neg c2,if_neg h3]at ht⊢;have c4:f.2.1=4:=by have:=hF.2.1;omega
     obtain⟨r,e,hr⟩:=Tk.map (by omega) Vq (by have:=MO hF.2.2.1;omega) ht;have Vp:Tk ws i ([109,97,112]::([60]::gG f.2.2:: [44]::gG f.1:: [62]::(Qj k++l))):=ht;rw[Vp.txt,Vp.txt,Vp.txt,Vp.txt,Vp.txt];exact⟨rfl,⟨none,[r]⟩,by simp;rw[e];rfl,r,rfl,by rw[c4];exact hr⟩
 .by_cases ho:ones fs= [];.simp_all
  .rw[if_neg ho]at hx;obtain rfl:=ba.1 hx;have ht:Tk ws i ([111,110,101,111,102]:: [111]:: [123]::(((ones fs).flatMap (fun x=>C9 x.1 x.2)++ [[125]])++l)):=ht;have Vr:=ht;obtain⟨e1,t1⟩:=ht.skip;obtain⟨p,e2,t2⟩:=t1.kind (k:=1) ((iY _).J (by rfl));obtain⟨e3,t3⟩:=t2.skip
   have hm:∀x∈ones fs,x.1<7/\x.2.1<19:=fun x hx=>by
    obtain⟨hk,hf,_⟩:=tY (bA.1 hx).1 (aE _);have:=(h _ hf).1;omega
   have hp:∀x∈ones fs,∀i l,Tk ws i (C9 x.1 x.2++l)->gk ws [125] i=false/\∃a,fX ws 3 i= .ok (a,i+(C9 x.1 x.2).length)/\wi x.1 x.2 3 a:=fun x hx i l ht=>by
    obtain⟨m1,m2⟩:=hm x hx;obtain⟨r,e,hr⟩:=Tk.field m1 m2 3 (by decide) ht;have Vp:Tk ws i (gG x.2.1::(Qj x.1++l)):=ht;exact⟨by rw[Vp.txt];exact(rD ⟨_,m2⟩).1,r,e,hr⟩
   rw[Vr.txt];refine⟨rfl,?_⟩
   cases hos:ones fs with
   |nil=>simp_all
   |cons y ys=>
    rw[hos]at hp t3;rw[bt,bj,bj]at t3;obtain⟨_,r,e4,hr⟩:=hp y (by simp) _ _ t3;have t4:=t3.app;have hl:=t4.len;have hfl:=rC (F:=fun x:Nat×F3=>C9 x.1 x.2) ys (fun _ _=>by simp[C9]);obtain⟨rs,e5,Vt⟩:=tX (p:=fX ws 3) (F:=fun x:Nat×F3=>C9 x.1 x.2) (R:=fun x r=>wi x.1 x.2 3 r) (e:= [125]::l) (fun i h=>by rw[h.txt];rfl) ys (fun x hx=>hp x (aY _ hx)) ws.length _ (by grind) (by simpa using t4);have t5:=t4.app;obtain⟨e6,t6⟩:=Tk.skip t5;refine⟨⟨some (bl [111],p),r::rs⟩,?_,p,r::rs,rfl,by rw[hos];exact⟨hr,Vt⟩⟩;unfold kA;rw[Vr.txt];simp only[beq_self_eq_true,if_true];unfold jg;rw[e1];simp only[gM,nO];rw[e2];simp only;rw[e3];simp only;rw[e4];simp only;rw[e5];simp only;rw[e6];simp[NL,hos,bt];omega
end
end
end Go.Proofs.YtfebdimolnobaaaGreatDoor
