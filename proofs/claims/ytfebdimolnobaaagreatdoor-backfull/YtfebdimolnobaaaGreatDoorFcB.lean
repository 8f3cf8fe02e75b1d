import Derived.Test.YtfebdimolnobaaaGreatDoorKpB
import Derived.Test.YtfebdimolnobaaaGreatDoorEpH
import Derived.Conc.MuLone
set_option maxRecDepth 100000
set_option maxHeartbeats 8000000
set_option linter.all false
namespace Go.Proofs.YtfebdimolnobaaaGreatDoor
open Go.RowKit Go.Proofs.Tryz
section
open Go.Maps
open VH
def SO (w:aw)(y:List YM)(nm:au)(e:Ending)(w':aw):Prop:=
 w'=w/\((∃(i:Nat) (m:YM),y[i]?=some m/\(m.1.1.toList==nm.toList)=true/\e= .returned (.tuple #[ah m.1.2,aa 0]))\/
  ((∀m∈y,(m.1.1.toList==nm.toList)=false)/\e= .returned (.tuple #[.pointer none,aa 5])))
def Ei (w:aw)(sb:Nat)(v kv:Value)(bs:List d9)(y:List YM)(P:ax)(nm:au)(way:Int)(h1:dZ w sb #[v,kv] 92)(d:fW w P v bs y)(s:y.length<=2001)(p:way=1\/way=2):
  Calls prog 44 #[ah sb,aa way,ag nm] w (SO w y nm):=by
 obtain⟨C,D,rfl⟩:=iB d.row.1;have⟨u,z⟩:=h1.I
 .go_in
  rcases p with rfl|rfl
  all_goals
   go_wp2;go_loopw [9,23] (λ_ i wr=>∃(q:Nat),q<=y.length/\i=aa q/\(∀m∈y.take q,(m.1.1.toList==nm.toList)=false)/\wr=w) (λ_ i _=>y.length-(intOf i).toNat)
   case atStart=>exact⟨0,aP _,rfl,Vw,rfl⟩
   case round=>
    obtain⟨q,t,rfl,c,rfl⟩:=hrel;by_cases hlt:q<y.length
    .have⟨m,a⟩:=gx hlt;have h:Hid (y.take (q+1)=y.take q++ [m]):=by show _=_;rw[bT,a];rfl
     obtain⟨g,rfl,_,l,e⟩:=eJ d.row.1 Vv;have o:=e wr rfl q (ii (some m.1.2)) (by simp[fA,a]);unfold ii at o;have⟨r,k,j,_,_,_⟩:=d.msg m (aL a);have⟨A,B⟩:=j.I;clear e
     cases hc:m.1.1.toList==nm.toList with
     |true=>
      have f:Hid (y[q]?=some m):=a;clear a;go_wp2;go_ret2
      exact⟨rfl,.inl ⟨q,m,f.o,hc,rfl⟩⟩
     |false=>
      clear a;go_wp2;go_roundw
      case rel=>
       refine⟨q+1,Vv,by go_num,?_,trivial⟩;rw[h.o];intro x b;rcases aW.1 b with b|b;.exact c x b
       .rw[ba.1 b];exact hc
      case measure=>simp[intOf];omega
    .have n:decide ((q:Int)<(y.length:Int))=false:=Vx;obtain rfl:q=y.length:=Vv;rw[bB]at c;go_wp2;go_ret2;exact⟨rfl,.inr ⟨c,rfl⟩⟩
def Q4 (R:Fx PM)(w:aw)(q0 q1 q2 q3 mb:Nat)(b:au)(a:w.cell? (aj q0 0)=some (aa 1))(c:w.cell? (aj q1 0)=some (ah mb))(d:w.cell? (aj q2 0)=some (ag b))
  (h:∀w0,ak w w0->Vq 47 #[ah mb,ag b] w0 (mG w0 R)):
  Calls prog 46 #[ah q0,ah q1,ah q2,ah q3] w (mG w R):=by
 have⟨f,j⟩:=ec w #[ai,Vp] 49;have t:=(f.cell (p:=(aj q0 0)) (aV _ _ a)).J a;have u:=(f.cell (p:=(aj q1 0)) (aV _ _ c)).J c;have y:=(f.cell (p:=(aj q2 0)) (aV _ _ d)).J d;have q:Hid (Vq 47 #[ah mb,ag b] _ (mG _ R)):=h _ f;clear h;go_in
 go_wp2_with fail;generalize w.alloc (am #[ai,Vp] 49)=w1 at*;refine q.o.V ?_
 cases R with
 |error x=>
  rintro e w2 ⟨rfl,g⟩;unfold d5;go_wp2
  exact⟨rfl,rfl,dW f g⟩
 |ok m=>
  rintro e w2 ⟨v,s,rfl,n,k,g⟩;obtain⟨z,A,rfl⟩:=n.form;have l:=j.G g j.lt;have o:=dW f g;have D:=j.lt;have⟨B,C⟩:=l.I;clear t u y a c d;go_wp2
  have r:=n.O (w':=(w2.setCell (aj w.heap.size 0) (.slice z m.fs.length A)).setCell (aj w.heap.size 1) (ag m.unk)) (λx i _=>by
   have:=(k x i).1
   rw[dY,dQ Vv,dY,dQ Vv])
  exact dU (ew results46 _ _ rfl ((l.set 0 _).set 1 _) underlying49 VA) rfl ⟨_,s,rfl,r,λx i=>⟨by have:=(k x i).1;omega,by simp only[cE];exact(k x i).2⟩,(o.setCell (p:=(aj w.heap.size 0)) (aE _) _).setCell (p:=(aj w.heap.size 1)) (aE _) _⟩
def uO {fn:Func}{p q r:Tmp}{ty:TypeId}{b:Nat}{cs:aq}{fs:Array Field}(h:fn.results= #[.cell p ty,.tmp q,.tmp r])(tmps:aq)(W:aw)(e:tmps.getD p undef=ah b)(K:dZ W b cs ty)
  (f:prog.underlying ty=some (.struct fs)) (c:(prog.info? ty).map (·.size)=some cs.size):
  (results fn tmps).run prog W= .ok (.tuple #[.agg cs,tmps.getD q undef,tmps.getD r undef]) W:=by
 have d:=run_loadVar_row (P:=prog) W b ty ty cs (0,0) _ K f rfl c;have a:tmps[p]?.getD undef=ah b:=by simpa using e
 simp only[results,h];simp[a,asAddr,d]
end
section
variable {bs:List d9} {t:au} {w:aw} {P:ax} {v:Value} {y:List YM}
theorem Ej (h:ki bs)(hm:fk (el bs) t=true):dX t=1/\fk (fL bs) t=true:=by
 have⟨x,e,a⟩:=(jl _ _).1 hm;obtain⟨c,d,rfl⟩:=aS.1 e;have b:=(bA.1 d).1;exact⟨by rw[<-sr a];exact h.nm c b,(jl _ _).2 ⟨_,aS.2 ⟨c,b,rfl⟩,a⟩⟩
theorem H7 (h:((er bs).msg t).isSome=true):fk (el bs) t=true:=by
 cases hm:fk (el bs) t with
 |true=>rfl
 |false=>
  rw[(xI (z:=(el bs).map λn=>(n,0)) (by rw[bM];simp[Function.comp_def]) hm).1]at h;cases h
theorem zN (bs:List d9):((el bs).map λn=>((n,0):au×Nat)).map (·.1)=el bs:=by rw[bM];simp[Function.comp_def]
theorem LQ (b:dX t=3)(a:im 3 t=true):(eM (ol t)=2->gQ t lF=true)/\(gQ t lF=true->eM (ol t)=2):=by
 have c:t.toList∈m9:=by have:=nj b;simpa [jK]using this
 unfold ol gQ;unfold im at a;generalize t.toList=l at c a
 revert l;decide+kernel
theorem sC (h:ki bs)(a:dX t=3):(er bs).base t=ol t:=by
 rw[wE h.ok (zN bs) (.inl a)];unfold jC;rw[dR a]
theorem Qe (h:ki bs){b:d9}(g:b∈bs)(m:b.enum=false):mj (er bs) (me b):=by
 intro f l c;obtain⟨p,i,j,d,rfl⟩:=uJ.1 l;have⟨_,k,_⟩:=uI (h.ok.shape b g p i) d;rw[k]at c;have⟨a,n⟩:=yk h g m i d (of_decide_eq_true c);have⟨w1,w2⟩:=LQ a n;refine⟨tA h a,λe=>w1 ?_,λe=> ?_⟩;.rw[<-sC h a];exact e
 .show eM ((er bs).base (jM j.key))=2;rw[sC h a];exact w2 e
theorem Q5 (h:ki bs):Fj (er bs):=by
 have e:∀d∈(er bs).ms,∃b,b∈bs/\b.enum=false/\d=me b:=λd c=>by
  obtain⟨b,a,rfl⟩:=aS.1 c;have:=bA.1 a;grind
 refine⟨⟨λt i=> ?_,λd c=> ?_⟩,λd c=> ?_⟩;.have j:=Ej h (H7 i);have:=(uH h (zN bs) (.inr j)).2 i;show eM _=2;rw[this];rfl
 .obtain⟨b,a,g,rfl⟩:=e d c;exact Qe h a g
 .obtain⟨b,a,g,rfl⟩:=e d c
  cases q:gQ (me b).name eS with
  |false=>rfl
  |true=>
   have f:=h.nm b a;rw[sr (gR.1 q:b.name.1.toList=eS.toList)]at f;exact absurd f Vz
theorem rj (g:fW w P v bs y)(h:ki bs){d:MT}(u:(er bs).msg t=some d):
  ∃(i:Nat) (m:YM),y[i]?=some m/\zJ (mR (y.map (·.1))) t=some m.1.2/\m.1.1=d.name/\m.1.1.toList=t.toList/\jk w (λb=>b<w.heap.size) (mR (y.map (·.1))) m.1.2 d.name m.2/\lJ (er bs) (mR (y.map (·.1))) d m.2/\mj (er bs) d:=by
 have z:(y.map (·.1)).map (·.1)=el bs:=by rw[bM];exact g.names
 have j:=H7 (bs:=bs) (t:=t) (by simp_all);have⟨i,b,f,q,r,s,C⟩:=qo h.ok z j;rw[u]at r;cases r;have⟨m,a,E⟩:=g.g i b q;rw[aT,a]at s;have e:m.1=(b.name.1,f):=Option.some.inj s;have n:=bA.1 (aL q);have o:b.enum=false:=by simp_all
 have K:=Ej h j;have k:=g.msg m (aL a);rw[e]at k
 have G:b.name.1.toList=t.toList:=by
  have⟨L,p,M,N,I⟩:=qi (t:=t) (l:=gF bs) (by
   have⟨x,H,A⟩:=(jl _ _).1 j;obtain⟨c,D,rfl⟩:=aS.1 H
   exact⟨c,D,A⟩)
  have:(er bs).msg t=some (me p):=I;rw[u]at this;have B:=dV MT.name (Option.some.inj this);have J:b.name.1=p.name.1:=B;simp_all
 refine⟨i,m,a,?_,by rw[e];rfl,by simp_all,?_,SK h z n.1 o E,Qe h n.1 o⟩;.unfold zJ;rw[dQ Vv,C,e]
 .rw[e];exact k.V λb _ F=>F
theorem Cn (b:fW w P v bs y)(h:ki bs)(a:UOK w):tz w w.heap.size (er bs) (mR (y.map (·.1))):=
 ⟨a,a.lt1,a.lt2,aE _,λ_ _ c=>by
  have⟨_,m,_,d,_,_,e,f,_⟩:=rj b h c
  grind⟩
end
end Go.Proofs.YtfebdimolnobaaaGreatDoor
namespace Go.Proofs
abbrev Tryz.muLink:Go.Conc.Locks.MuLink:={lock:=86,unlock:=87,ilock:=138,iunlock:=139,lockSlow:=203,unlockSlow:=206,disable:=199,enable:=201,acquire:=202,relMerge:=204,cas32:=200,add32:=205,tMutex:=168,tIMutex:=166,tPMutex:=251,tPIMutex:=318,tPI32:=320,tUP:=322,tNoCopy:=163,tU32:=164}
theorem Tryz.muLib:Go.Conc.Locks.MuLib Tryz.prog Tryz.muLink:=
 ⟨Tryz.func86,Tryz.func87,Tryz.func138,Tryz.func139,Tryz.func199,Tryz.func201,Tryz.func202,Tryz.func204,Tryz.func200,Tryz.func205,Tryz.underlying166,Tryz.runUnderlying166,Tryz.sizeOf166,Tryz.isAgg166,Tryz.zeroValue166,Tryz.underlying168,Tryz.runUnderlying168,Tryz.sizeOf168,Tryz.isAgg168,Tryz.zeroValue168,Tryz.underlying251,Tryz.runUnderlying251,Tryz.sizeOf251,Tryz.isAgg251,Tryz.zeroValue251,Tryz.underlying318,Tryz.runUnderlying318,Tryz.sizeOf318,Tryz.isAgg318,Tryz.zeroValue318,Tryz.underlying320,Tryz.runUnderlying320,Tryz.sizeOf320,Tryz.isAgg320,Tryz.zeroValue320,Tryz.underlying322,Tryz.runUnderlying322,Tryz.sizeOf322,Tryz.isAgg322,Tryz.zeroValue322,Tryz.underlying163,Tryz.runUnderlying163,Tryz.sizeOf163,Tryz.isAgg163,Tryz.zeroValue163,Tryz.underlying21,Tryz.runUnderlying21,Tryz.sizeOf21,Tryz.isAgg21,Tryz.zeroValue21,(by kernel_rfl)⟩
end Go.Proofs
namespace Go.Proofs.YtfebdimolnobaaaGreatDoor
open Go.RowKit Go.Maps
open VH
section
variable {kp mk:Nat} {mu mu':Int} {S:eF} {mp:an} {w:aw} {N:Nat} {pm:an} {U:aB} {X:ax}
theorem vO.mutex (h:vO kp mk mu S mp w N pm U X)(hU:kp∉U):vO kp mk mu' S mp (w.setCell (aj kp 0) (.int .i32 mu')) N pm U X:=by
 have c:∀b,b≠kp->(w.setCell (aj kp 0) (.int .i32 mu')).heap[b]?=w.heap[b]?:=fun b j=>et (fun e=>j e.sy)
 refine⟨by simpa using h.kb.set 0 (.int .i32 mu'),h.mb.O (c _ h.ne),h.ne,h.ct,h.inj,fun t p k=> ?_⟩;rcases h.pl t p k with⟨a,f,g⟩|⟨d,i,a,f,g⟩;.exact .inl ⟨a,(c p (fun e=>hU (e▸a))).J f,g⟩
 .exact .inr ⟨d,i,a,f,g.O (fun b q _=>c b q.2.1) (fun _ _ q=>q)⟩
end
section
variable (kp mk W0:Nat) (S:eF) (mp:an) (P:ax)
theorem SX (MK:qD)(w:aw)(N:Nat)(pm:an)(mb:Nat)(d:MT)(gs:List GF)(X:ax)(I:Cv kp mk W0 0 S mp P w N pm [] X)(s:S.msg d.name=some d)(r:jk w P mp mb d.name gs)(q:lJ S mp d gs)(i:d.name.size<=2000):
  Vq 48 #[ah kp,ah mb] w fun e w'=>∃p N' VI,e= .returned (ah p)/\VI d.name=some p/\vO kp mk 0 S mp w' N' VI [] X/\(∀t p,pm t=some p->VI t=some p)/\ee [mk,kp] w w':=by
 have h:=I.ok.kb;have c:=I.ok.mutex (mu':=1) (by simp)
 have l:Cv kp mk W0 1 S mp P (w.setCell (aj kp 0) (.int .i32 1)) N pm [] X:=
  ⟨c,I.md.O fun b a _=>et (fun e=>(I.hp b a).2.2 e.sy),by simpa using I.w0,by simp,I.xx,fun b a=>I.xn b (by simpa using a),I.hp,I.kl,I.ml⟩
 have n:=Pf kp mk W0 1 S mp P MK (oy S pm) (w.setCell (aj kp 0) (.int .i32 1)) N pm [] X mb d gs l (aE _) s (r.O fun b a _=>et (fun e=>(I.hp b a).2.2 e.sy)) q i;have k:=Go.MuLone.lock_free Tryz.muLib (aj kp 0) w (h.cell 0) (h.I.2 0);have⟨y,z⟩:=h.I;have j:=c.kb;go_enter_defers Tryz.func48,Tryz.ntmps48
 go_wp2_with fail;refine k.V ?_;rintro e w1 ⟨rfl,rfl⟩;have⟨A,B⟩:=j.I;clear y z k;have o:=j.lt;go_wp2_with fail;have Nt:ee [mk,kp] w (w.setCell (aj kp 0) (.int .i32 1)):=(ee.refl _ _).set1 (by simp) 0 _;generalize w.setCell (aj kp 0) (.int .i32 1)=w1 at*;refine n.V ?_;rintro e w2 ⟨v,N',VI,rfl,⟨p,rfl,u⟩,g,x,rF⟩;have m:=g.kb;clear A B;have⟨C,D⟩:=m.I;go_wp2;refine leaves_cons (f:=87) (args:= #[ah kp]) (by simp) (by simp[go_sem]) ?_;refine(Go.MuLone.unlock_deferred Tryz.muLib (aj kp 0) .returning w2 (C 0) (D 0)).V ?_;rintro e F E ⟨rfl,rfl,rfl⟩;simp[Leaves,settle];refine⟨ah p,by simp[results,Tryz.results48],p,rfl,⟨N',VI,u,g.mutex (by simp),x,?_⟩⟩;exact(Nt.J (rF.V (by simp))).set1 (by simp) 0 _
end
end Go.Proofs.YtfebdimolnobaaaGreatDoor
namespace Go.Proofs.YtfebdimolnobaaaGreatDoor
open Go.RowKit Go.Proofs.Tryz
section
open Go.Maps
open VH
section
variable {ks:aB} {K:(ax)->aw->Prop} {B:Nat}
def qE (E B:Nat)(K:aw->Prop):Prop:=∀a b:aw,K a->a.heap.size<=b.heap.size->(∀x,(x<E\/B<=x)->x<a.heap.size->b.heap[x]?=a.heap[x]?)->K b
def rm (ks:aB)(K:(ax)->aw->Prop)(w:aw)(R:Fx PM)(e:Ending)(w':aw):Prop:=
 match R with
 | .error x=>e=d5 x.1 x.2/\ee ks w w'/\K (λ_=>False) w'
 | .ok m=>∃v Z',e= .returned (.agg #[v,ag m.unk])/\qy 9 w' v m Z'/\(∀b,Z' b->w.heap.size<=b/\b<w'.heap.size)/\ee ks w w'/\K Z' w'
def lR (ks:aB)(K:(ax)->aw->Prop)(w:aw)(R:Fx PM)(e:Ending)(w':aw):Prop:=
 match R with
 | .error x=>e= .returned (.tuple #[.agg #[ai,Vp],aa x.1,aa x.2])/\ee ks w w'/\K (λ_=>False) w'
 | .ok m=>∃v Z',e= .returned (.tuple #[.agg #[v,ag m.unk],aa 0,aa 0])/\qy 9 w' v m Z'/\(∀b,Z' b->w.heap.size<=b/\b<w'.heap.size)/\ee ks w w'/\K Z' w'
theorem Jw {E:Nat}(hks:∀x∈ks,x<E)(Q:∀Z,qE E B (K Z))(R:Fx PM)(w:aw)(hE:E<=w.heap.size)(hB:w.heap.size+3<=B)(c0 c1 c2 c3:Value)(h:∀w0,ak w w0->w0.heap.size=w.heap.size+3->Vq 46 #[c0,c1,c2,c3] w0 (rm ks K w0 R)):
  Vq 45 #[.func (Fn.func 46) #[] #[c0,c1,c2,c3]] w (lR ks K w R):=by
 have VZ:= @wA;have M:=(Vs w).alloc (aE _) (am #[ai,Vp] 49);have l:=(M.alloc Vw (am #[aa 0] 24)).alloc Vx (am #[aa 0] 3);have P:=((dZ.new w #[ai,Vp] 49).alloc (am #[aa 0] 24)).alloc (am #[aa 0] 3);have N:=(dZ.newAt (w:=w.alloc (am #[ai,Vp] 49)) (n:=w.heap.size+1) Vw #[aa 0] 24).alloc (am #[aa 0] 3);have O:=dZ.newAt (w:=(w.alloc (am #[ai,Vp] 49)).alloc (am #[aa 0] 24)) (n:=w.heap.size+1+1) Vw #[aa 0] 3;have Y:Hid (Vq 46 #[c0,c1,c2,c3] _ (rm ks K _ R)):=h _ l Vw;have hsz:w.heap.size+3<=(((w.alloc (am #[ai,Vp] 49)).alloc (am #[aa 0] 24)).alloc (am #[aa 0] 3)).heap.size:=Vw;clear M h;go_enter_defers func45,ntmps45
 go_wp2_with fail;generalize(((w.alloc (am #[ai,Vp] 49)).alloc (am #[aa 0] 24)).alloc (am #[aa 0] 3))=w1 at*;refine Y.o.V ?_
 cases R with
 |error x=>
  rintro e w2 ⟨rfl,b,t⟩;have j:=N.kept b (λq=>by grind);have i:=O.kept b (λq=>by grind);have k:=P.kept b (λq=>by grind);have o:=(ee.oB (bs:=ks) l).J b;have⟨U,V⟩:=j.I;have⟨W,X⟩:=i.I;have z3:=i.lt;unfold d5;refine leaves_cons (f:=82) (args:= #[ah (w.heap.size+1),ah (w.heap.size+1+1)]) Vw VB ?_;refine(Jd (w.heap.size+1) (w.heap.size+1+1) x.1 x.2 [] w2 _ _ (U 0) (W 0) (V 0) (X 0) Vv).V ?_;rintro e u' Wd ⟨rfl,rfl,rfl⟩;have G:=(((j.set 0 (aa x.1)).other (c:=w.heap.size+1+1) 0 (aa x.2) Vv).alloc (am #[aa x.1,aa x.2] 142)).drew;have H:=(((i.other (c:=w.heap.size+1) 0 (aa x.1) Vv).set 0 (aa x.2)).alloc (am #[aa x.1,aa x.2] 142)).drew;have I:=(((k.other (c:=w.heap.size+1) 0 (aa x.1) Vv).other (c:=w.heap.size+1+1) 0 (aa x.2) Vv).alloc (am #[aa x.1,aa x.2] 142)).drew;have p:ee ks w (((w2.setCell (aj (w.heap.size+1) 0) (aa x.1)).setCell (aj (w.heap.size+1+1) 0) (aa x.2)).alloc (am #[aa x.1,aa x.2] 142)).drew:=(((o.freshP (bH _) 0 _).freshP Vv 0 _).alloc _).drew;have r:K (λ_=>False) (((w2.setCell (aj (w.heap.size+1) 0) (aa x.1)).setCell (aj (w.heap.size+1+1) 0) (aa x.2)).alloc (am #[aa x.1,aa x.2] 142)).drew:=Q _ w2 _ t Vw λy hy hl=>(Below.l _ _ y (by simpa using hl)).J ((et Vv).J (et Vv))
  generalize(((w2.setCell (aj (w.heap.size+1) 0) (aa x.1)).setCell (aj (w.heap.size+1+1) 0) (aa x.2)).alloc (am #[aa x.1,aa x.2] 142)).drew=w3 at*;have J:=G.cell 0;have L:=H.cell 0;have D:(loadVar 24 (aj (w.heap.size+1) 0)).run prog w3= .ok (aa x.1) w3:=by simp[go_sem,J]
  have F:(loadVar 3 (aj (w.heap.size+1+1) 0)).run prog w3= .ok (aa x.2) w3:=by simp[go_sem,L]
  have s:=λa z A C=>AL (fn:=f45) results45 a w3 z A C I underlying49 VB D F
  simp[Leaves,settle]
  exact⟨_,s _ rfl rfl rfl,rfl,p,r⟩
 |ok m=>
  rintro e w2 ⟨v,u,rfl,S,hZ,b,t⟩;obtain⟨d,g,rfl⟩:=S.form;have j:=N.kept b (λq=>by grind);have i:=O.kept b (λq=>by grind);have k:=P.kept b (λq=>by grind);have o:=(ee.oB (bs:=ks) l).J b;have⟨U,V⟩:=j.I;have⟨W,X⟩:=i.I;have⟨k5,k6⟩:=k.I;have z3:=i.lt;go_wp2;refine leaves_cons (f:=82) (args:= #[ah (w.heap.size+1),ah (w.heap.size+1+1)]) Vw VB ?_;refine(OU (aj (w.heap.size+1) 0) (aj (w.heap.size+1+1) 0) _).V ?_;rintro e u' Wd ⟨rfl,rfl,rfl⟩;have G:=(((j.other (c:=w.heap.size) 0 (.slice d m.fs.length g) Vv).other (c:=w.heap.size) 1 (ag m.unk) Vv).set 0 (aa 0)).other (c:=w.heap.size+1+1) 0 (aa 0) Vv;have H:=(((i.other (c:=w.heap.size) 0 (.slice d m.fs.length g) Vv).other (c:=w.heap.size) 1 (ag m.unk) Vv).other (c:=w.heap.size+1) 0 (aa 0) Vv).set 0 (aa 0);have I:=(((k.set 0 (.slice d m.fs.length g)).set 1 (ag m.unk)).other (c:=w.heap.size+1) 0 (aa 0) Vv).other (c:=w.heap.size+1+1) 0 (aa 0) Vv;have p:ee ks w ((((w2.setCell (aj w.heap.size 0) (.slice d m.fs.length g)).setCell (aj w.heap.size 1) (ag m.unk)).setCell (aj (w.heap.size+1) 0) (aa 0)).setCell (aj (w.heap.size+1+1) 0) (aa 0)):=(((o.freshP (aE _) 0 _).freshP (aE _) 1 _).freshP (bH _) 0 _).freshP Vv 0 _;have r:K u ((((w2.setCell (aj w.heap.size 0) (.slice d m.fs.length g)).setCell (aj w.heap.size 1) (ag m.unk)).setCell (aj (w.heap.size+1) 0) (aa 0)).setCell (aj (w.heap.size+1+1) 0) (aa 0)):=Q _ w2 _ t Vw λy hy _=>(et Vv).J ((et Vv).J ((et Vv).J (et Vv)))
  have VO:=S.O (w':=((((w2.setCell (aj w.heap.size 0) (.slice d m.fs.length g)).setCell (aj w.heap.size 1) (ag m.unk)).setCell (aj (w.heap.size+1) 0) (aa 0)).setCell (aj (w.heap.size+1+1) 0) (aa 0))) (λx T _=>by
   have:=(hZ x T).1
   rw[dY,dQ Vv,dY,dQ Vv,dY,dQ Vv,dY,dQ Vv])
  have V0:∀x,u x->w.heap.size<=x/\x<((((w2.setCell (aj w.heap.size 0) (.slice d m.fs.length g)).setCell (aj w.heap.size 1) (ag m.unk)).setCell (aj (w.heap.size+1) 0) (aa 0)).setCell (aj (w.heap.size+1+1) 0) (aa 0)).heap.size:=λx T=>⟨by grind,by simp only[cE];grind⟩
  generalize((((w2.setCell (aj w.heap.size 0) (.slice d m.fs.length g)).setCell (aj w.heap.size 1) (ag m.unk)).setCell (aj (w.heap.size+1) 0) (aa 0)).setCell (aj (w.heap.size+1+1) 0) (aa 0))=w3 at*;have J:=G.cell 0;have L:=H.cell 0;have D:(loadVar 24 (aj (w.heap.size+1) 0)).run prog w3= .ok (aa 0) w3:=by simp[go_sem,J]
  have F:(loadVar 3 (aj (w.heap.size+1+1) 0)).run prog w3= .ok (aa 0) w3:=by simp[go_sem,L]
  have s:=λa z A C=>AL (fn:=f45) results45 a w3 z A C I underlying49 VB D F
  simp[Leaves,settle];exact⟨_,s _ rfl rfl rfl,_,u,rfl,VO,V0,p,r⟩
theorem AZ (R:Fx PM)(w:aw)(F:∀x∈ks,x<w.heap.size)(t:∀Z,qE w.heap.size B (K Z))(hB:w.heap.size+9=B)(E:K (λ_=>False) w)(sb:Nat)(v kv:Value)(bs:List d9)(y:List YM)(P:ax)(nm b:au)(way:Int)(h1:dZ w sb #[v,kv] 92)(hM:fW w P v bs y)(n:y.length<=2001)(hw:way=1\/way=2)
  (D:(∀m∈y,(m.1.1.toList==nm.toList)=false)->R= .error (5,0))
  (h:∀(i:Nat) (m:YM) (w0:aw) (q0 q1 q2 q3:Nat),y[i]?=some m->(m.1.1.toList==nm.toList)=true->ak w w0->w0.heap.size+1=B->w.heap.size<=q0/\w.heap.size<=q1/\w.heap.size<=q2/\w.heap.size<=q3->w0.cell? (aj q0 0)=some (aa way)->w0.cell? (aj q1 0)=some (ah m.1.2)->w0.cell? (aj q2 0)=some (ag b)->w0.cell? (aj q3 0)=some (ah sb)->
   Vq 46 #[ah q0,ah q1,ah q2,ah q3] w0 (rm ks K w0 R)):
  Calls prog 21 #[ah sb,aa way,ag nm,ag b] w (lR ks K w R):=by
 have VZ:= @wA;have X:∃w0,(((w.alloc (am #[ah sb] 22)).alloc (am #[aa way] 3)).alloc (am #[ag b] 9)).alloc (am #[ai,Vp] 49)=w0:=⟨_,rfl⟩;obtain⟨w0,a⟩:=X;have c:ak w w0:=by rw[<-a];exact((((Below.refl _ _).alloc (aE _) _).alloc Vw _).alloc Vx _).alloc Vx _
 have p:dZ w0 w.heap.size #[ah sb] 22:=by rw[<-a];exact(((dZ.new w _ _).alloc _).alloc _).alloc _
 have r:dZ w0 (w.heap.size+1) #[aa way] 3:=by rw[<-a];exact((dZ.newAt Vw _ _).alloc _).alloc _
 have o:dZ w0 (w.heap.size+1+1) #[ag b] 9:=by rw[<-a];exact(dZ.newAt Vw _ _).alloc _
 have f:dZ w0 (w.heap.size+1+1+1) #[ai,Vp] 49:=by rw[<-a];exact dZ.newAt Vw _ _
 have M:=Ei w0 sb v kv bs y P nm way (h1.G c h1.lt) (hM.O λx _ n=>c.block x n) n hw;have⟨s1,s2⟩:=p.I;have⟨s3,s4⟩:=r.I;have⟨s5,s6⟩:=o.I;have⟨H,I⟩:=f.I;go_in
 go_wp2_with fail;refine M.V ?_;have A:Hid (w0.heap.size=w.heap.size+4):=by show _=_;rw[<-a];simp
 clear M a;rintro e w1 ⟨rfl,⟨i,m,Q,T,rfl⟩|⟨N,rfl⟩⟩
 .have l:ak w1 (w1.alloc (am #[ah m.1.2] 105)):=(Below.refl _ _).alloc (aE _) _;have z:=dZ.new w1 #[ah m.1.2] 105
  have J:Hid (∀w0,Below (w1.alloc (am #[ah m.1.2] 105)).heap.size (w1.alloc (am #[ah m.1.2] 105)) w0->w0.heap.size=(w1.alloc (am #[ah m.1.2] 105)).heap.size+3->Vq 46 #[ah (w.heap.size+1),ah w1.heap.size,ah (w.heap.size+1+1),ah w.heap.size] w0 (rm ks K w0 R)):=λw0 O G=>by
   have s:=dW l O;have hs1:=A.o;simp only[ci]at G;exact h i m w0 _ _ _ _ Q T (dW c s) Vv ⟨Vv,Vv,Vv,aE _⟩ ((r.G s r.lt).cell 0) ((z.G O z.lt).cell 0) ((o.G s o.lt).cell 0) ((p.G s p.lt).cell 0)
  have L:=Jw F t R (w1.alloc (am #[ah m.1.2] 105)) (by have:=A.o;simp;omega) (by have:=A.o;simp;omega) _ _ _ _ J.o;clear h Q T J;go_wp2_with fail;have k:=f.alloc (am #[ah m.1.2] 105);have d:ak w (w1.alloc (am #[ah m.1.2] 105)):=dW c l;have zM:=f.lt;have z2:=l.size;clear s1 s2 s3 s4 s5 s6 H I p r o f z l;generalize w1.alloc (am #[ah m.1.2] 105)=w2 at*;refine L.V ?_;clear L D
  cases R with
  |error x=>
   rintro e w3 ⟨rfl,g,C⟩;have j:=k.kept g (λq=>by grind);have u:=(ee.oB (bs:=ks) d).J g;have⟨H,I⟩:=j.I;go_wp2
   exact dU (uO results21 _ _ rfl ((j.set 0 _).set 1 _) underlying49 VB) rfl ⟨rfl,(u.freshP Vv 0 _).freshP Vv 1 _,t _ w3 _ C Vw λy V _=>(et Vv).J (et Vv)⟩
  |ok W=>
   rintro e w3 ⟨v',Z',rfl,S,hZ,g,C⟩;obtain⟨va,vc,rfl⟩:=S.form;have j:=k.kept g (λq=>by grind);have u:=(ee.oB (bs:=ks) d).J g;have⟨H,I⟩:=j.I;go_wp2
   have Y:=S.O (w':=(w3.setCell (aj (w.heap.size+1+1+1) 0) (.slice va W.fs.length vc)).setCell (aj (w.heap.size+1+1+1) 1) (ag W.unk)) (λx U _=>by
    have:=(hZ x U).1
    rw[dY,dQ Vv,dY,dQ Vv])
   exact dU (uO results21 _ _ rfl ((j.set 0 _).set 1 _) underlying49 VB) rfl ⟨_,Z',rfl,Y,λx U=>⟨by grind,by simp only[cE];grind⟩,
    (u.freshP Vv 0 _).freshP Vv 1 _,t _ w3 _ C Vw λy V _=>(et Vv).J (et Vv)⟩
 .obtain rfl:=D N;have k:=f.alloc (am #[.pointer none] 105);have d:=c.alloc c.size (am #[.pointer none] 105);clear h D N;have⟨r7,r8⟩:=k.I;go_wp2;exact dU (uO results21 _ _ rfl ((k.set 0 _).set 1 _) underlying49 VB) rfl ⟨rfl,((ee.oB (bs:=ks) d).freshP Vv 0 _).freshP Vv 1 _,t _ w _ E (by have:=d.size;simp at this⊢;omega) λy V n=>(et Vv).J ((et Vv).J (d.block y n))⟩
theorem mG.part {w:aw}{R:Fx PM}{e:Ending}{w':aw}(h:mG w R e w'):(∃x,R= .error x/\e=d5 x.1 x.2/\ak w w')\/∃m v Z',R= .ok m/\e= .returned (.agg #[v,ag m.unk])/\qy 9 w' v m Z'/\(∀b,Z' b->w.heap.size<=b/\b<w'.heap.size)/\ak w w':=by
 cases R with
 |error x=>exact .inl ⟨x,rfl,h.1,h.2⟩
 |ok m=>
  obtain⟨v,Z',h⟩:=h;grind
theorem Rn {E:Nat}(hks:∀x∈ks,x<E)(H:∀Z,qE E B (K Z))(R:Fx PM)(w:aw)(hE:E<=w.heap.size)(hB:w.heap.size+1=B)(q0 q1 q2 q3 mb sb kp:Nat)(v:Value)(b:au)(j:w.cell? (aj q0 0)=some (aa 2))(k:w.cell? (aj q1 0)=some (ah mb))(n:w.cell? (aj q2 0)=some (ag b))(r:w.cell? (aj q3 0)=some (ah sb))(A:dZ w sb #[v,ah kp] 92)
  (s:q0∉ks/\q1∉ks/\q2∉ks/\q3∉ks/\sb∉ks)
  (h:∀w0,ak w w0->w0.heap.size=B->Vq 48 #[ah kp,ah mb] w0 λe w1=>∃p,e= .returned (ah p)/\ee ks w0 w1/\(∀Z:ax,(∀b,Z b->w1.heap.size<=b)->K Z w1)/\Vq 49 #[ah p,ag b] w1 (mG w1 R)):
  Calls prog 46 #[ah q0,ah q1,ah q2,ah q3] w (rm ks K w R):=by
 have⟨d,Q⟩:=ec w #[ai,Vp] 49;have l0:q0<w.heap.size:=aV _ _ j;have J:q1<w.heap.size:=aV _ _ k;have L:q2<w.heap.size:=aV _ _ n;have M:q3<w.heap.size:=aV _ _ r;have d0:=(d.cell (p:=(aj q0 0)) l0).J j;have d1:=(d.cell (p:=(aj q1 0)) J).J k;have d2:=(d.cell (p:=(aj q2 0)) L).J n;have d3:=(d.cell (p:=(aj q3 0)) M).J r;have S:=A.G d A.lt;have P:Hid (Vq 48 #[ah kp,ah mb] (w.alloc (am #[ai,Vp] 49)).drew λe w1=>∃p,e= .returned (ah p)/\ee ks (w.alloc (am #[ai,Vp] 49)).drew w1/\(∀Z:ax,(∀b,Z b->w1.heap.size<=b)->K Z w1)/\Vq 49 #[ah p,ag b] w1 (mG w1 R)):=h _ d.drew (by simp[<-hB]);clear h;have hw1:w.heap.size<(w.alloc (am #[ai,Vp] 49)).heap.size/\(w.alloc (am #[ai,Vp] 49)).heap.size<=B:=Vx;go_in
 go_upto_region 3 with fail
 generalize w.alloc (am #[ai,Vp] 49)=w1 at*;have b1:=d.size;have u:∀x,x<w.heap.size->x∉ks->x∉w.heap.size::ks:=λx h1 h2 q=>(aR.1 q).elim (λe=>Vv) h2
 have g:∀x∈ks,x∈w.heap.size::ks:=λx q=>by simp[q]
 have i:Hid (∀W:aw,ee (w.heap.size::ks) w1 W->W.cell? (aj q1 0)=some (ah mb)/\W.cell? (aj q2 0)=some (ag b)/\W.cell? (aj q3 0)=some (ah sb)/\W.cell? (aj sb 1)=some (ah kp)):=λW o=>
  ⟨(bE (a:=(aj q1 0)) (o.block q1 Vv (u q1 J s.2.1))).J d1,(bE (a:=(aj q2 0)) (o.block q2 Vv (u q2 L s.2.2.1))).J d2,(bE (a:=(aj q3 0)) (o.block q3 Vv (u q3 M s.2.2.2.1))).J d3,(S.kept o (u sb A.lt s.2.2.2.2)).cell 1⟩
 have T:w.heap.size∉ks:=λq=>by grind
 have e0:=i.o w1.drew (ee.refl _ w1).drew
 go_region_held2 (λW=>W.cell? (aj q1 0)=some (ah mb)/\W.cell? (aj q2 0)=some (ag b)/\W.cell? (aj q3 0)=some (ah sb)/\W.cell? (aj sb 1)=some (ah kp))
  (first|exact i.o _ X|exact i.o _ F|exact i.o _ (l.V g)|exact i.o _ (rF.V g)|exact e0)
  (first
   |(
     go_at_call 48;refine P.o.V ?_;rintro e w2 ⟨p,rfl,V,D,Y⟩
     have rF:=ee.ofDrew V)
   |(
     go_at_call 49;refine Y.V ?_;intro e w3 Wf;rcases mG.part Wf with⟨x,rfl,rfl,f⟩|⟨m,v',Z',rfl,rfl,I,G,f⟩;.unfold d5;go_wp2;exact⟨rfl,rfl,(ee.oB d).J (rF.J (ee.oB f)),H _ w2 w3 (D _ λ_ q=>q.elim) f.size λy _ z=>f.block y z⟩
     obtain⟨N,O,rfl⟩:=I.form;have l:=rF.J (ee.oB f);have C:=Q.kept l T;have⟨k5,k6⟩:=C.I;have F:=(l.V g).set1 (c:=w.heap.size) Vw 0 (.slice N m.fs.length O)
     have X:=F.set1 (c:=w.heap.size) Vw 1 (ag m.unk)))
 all_goals
  go_wp2;have hz2:=rF.size
  have U:=I.O (w':=(w3.setCell (aj w.heap.size 0) (.slice N m.fs.length O)).setCell (aj w.heap.size 1) (ag m.unk)) (λx t _=>by
   have:=(G x t).1
   rw[dY,dQ Vv,dY,dQ Vv])
  refine dU (ew results46 _ _ rfl ((C.set 0 _).set 1 _) underlying49 VB) rfl ⟨_,Z',rfl,U,λx t=>⟨by grind,by simp only[cE];grind⟩,?_,?_⟩;.exact(((ee.oB d).J l).freshP (aE _) 0 _).freshP (aE _) 1 _
  .refine H _ w2 _ (D _ λx t=>(G x t).1) (by have:=f.size;simpa using this) λy hy z=>(et Vv).J ((et Vv).J (f.block y z))
end
def Rt (S:eF)(b:au)(w:aw)(d:MT)(pb:Nat)
  (h:∀(w3:aw) (Z:ax) (rb db:Nat),ak w w3->ei w3 rb (b.extract 0 b.size) 0 1->eQ S 8 (some d) w3 Z db PM.none->(∀x,Z x->w.heap.size<=x/\x<w3.heap.size)->w.heap.size<=rb->¬Z rb->
   Vq 89 #[ah pb,ah rb,ah db] w3 (iE S 7 d w3 Z rb db (b.extract 0 b.size) 1 (pR b.size (eY S b (b.size+1) d PM.none 0 b.size 1)))):
  Calls prog 49 #[ah pb,ag b] w (mG w (eY S b (b.size+1) d PM.none 0 b.size 1)):=by
 have k:b.extract 0 b.size=b:=Vw;have q:ak w (w.Vn #[ai,Vp] 49):=(Below.refl _ _).alloc (aE _) _;have r:=q.alloc Vw (am #[ai,ai] 183);have f:=r.alloc Vx (am #[ag b,aa 0,aa 1] 244);have I:=((dZ.new w #[ai,Vp] 49).alloc (am #[ai,ai] 183)).alloc (am #[ag b,aa 0,aa 1] 244);have H:=(dZ.newAt (w:=w.alloc (am #[ai,Vp] 49)) (n:=w.heap.size+1) Vw #[ai,ai] 183).alloc (am #[ag b,aa 0,aa 1] 244);have J:=dZ.newAt (w:=(w.alloc (am #[ai,Vp] 49)).alloc (am #[ai,ai] 183)) (n:=w.heap.size+1+1) Vw #[ag b,aa 0,aa 1] 244;have g:=Ks ((w.Vn #[ai,Vp] 49).Vn #[ai,ai] 183) b;simp only[ci]at g;go_in
 go_wp2_with fail;refine g.V ?_;rintro e w' ⟨rfl,rfl⟩;have M:w.heap.size+3=(((w.alloc (am #[ai,Vp] 49)).alloc (am #[ai,ai] 183)).alloc (am #[ag b,aa 0,aa 1] 244)).heap.size:=Vw;clear g q r;go_wp2_with fail;generalize(((w.alloc (am #[ai,Vp] 49)).alloc (am #[ai,ai] 183)).alloc (am #[ag b,aa 0,aa 1] 244))=w3 at*;have t:=h w3 (λx=>x=w.heap.size+1) (w.heap.size+1+1) (w.heap.size+1) f (by rw[k];exact J) (eQ.fresh H) (λx a=>by subst a;omega) Vv Vv;refine t.V ?_;intro e m F;rcases F.part with⟨x,D,rfl,C,c⟩|⟨l,D,rfl,C,c,j⟩;.unfold d5;go_wp2;exact⟨rfl,rfl,f.J (c.belowW Vv (λx a=>Vv) Vv)⟩
 .have G:ak w m:=f.J (c.belowW Vv (λx a=>Vv) Vv);have u:dZ m w.heap.size #[ai,Vp] 49:=(c.block w.heap.size Vv Vv Vv).J I;have R:=c.size;have L:=c.grow;clear t F c;go_wp2_with fail;refine(yA (S:=S) 8 (some d) m C (w.heap.size+1) l j).V ?_;rintro e o ⟨v,i,rfl,E,A,B⟩;obtain⟨N,O,rfl⟩:=E.form;have y:=u.G B u.lt;have⟨P,Q⟩:=y.I
  have s:∀x,i x->w.heap.size<x:=λx a=>by
   rcases(A x a).2 with h|h
   .rcases L x h with h|h;.omega
    .omega
   .omega
  go_wp2
  have K:∀x,i x->x<o.heap.size->((o.setCell (aj w.heap.size 0) (.slice N l.fs.length O)).setCell (aj w.heap.size 1) (ag l.unk)).heap[x]?=o.heap[x]?:=λx a _=>by
   have z:w.heap.size≠x:=by have:=s x a;omega
   rw[dY,dQ z,dY,dQ z]
  rw[D];refine dU (ew results49 _ _ rfl ((y.set 0 _).set 1 _) underlying49 VA) rfl ⟨_,i,rfl,E.O K,λx a=>⟨cA (s x a),by simp only[cE];exact(A x a).1⟩,?_⟩;exact((dW G B).setCell (p:=(aj w.heap.size 0)) (aE _) _).setCell (p:=(aj w.heap.size 1)) (aE _) _
end
def NW (L:List (List F3))(n:Nat):List (Option (Nat×List F3)):=none::(List.range n).map λi=>some (i,(L[i]?).getD [])
def PW:Option (Nat×List F3)->List rD
 |none=> [[101,110,117,109],[69],[123],[65],[61],[48],[59],[125]]
 |some x=>PQ x.1 x.2
def wz:Option (Nat×List F3)->d9->Prop
 |none,b=>∃p q r,b=⟨true,(bl [69],p),[],[((bl [65],q),(bl [48],r))]⟩
 |some x,b=>∃p ps,b=⟨false,(bl (77::gu x.1),p),ps,[]⟩/\kH (Dd x.2) (iH x.2) ps
def Nu (L:List (List F3)):∀n,Sv L n=(NW L n).flatMap PW
 |0=>rfl
 |n+1=>by
  rw[Sv,Nu L n];unfold NW;rw[List.range_succ];simp[PW]
section
variable {ws:List W} {L:List (List F3)}
def Tq {fs:List F3}:∀x∈iH fs,NV fs x≠ []:=by
 intro x a;rcases aW.1 a with a|a
 .obtain⟨⟨k,f⟩,b,rfl⟩:=aS.1 a;have c:¬f.2.1=3:=by simpa [sG]using(bA.1 b).2
  show JR k f≠ [];unfold JR Dc;split<;>(try split)<;>(try split)<;>simp_all
 .split at a;.cases a
  .obtain rfl:=ba.1 a;simp[NV]
def Nv (h:Bf L):∀x∈NW L L.length,∀i l,Tk ws i (PW x++l)->oG ws i=false/\∃a,jV ws i= .ok (a,i+(PW x).length)/\wz x a:=by
 intro x w i l b
 have A:∀{y l},Tk ws i (y::l)->qN y≠4->oG ws i=false:=λt H=>by
  have⟨p,e,_⟩:=t.step;unfold oG;rw[e];simp only;rw[iZ];simpa using H
 rcases aR.1 w with rfl|w
 .have b:Tk ws i ([101,110,117,109]:: [69]:: [123]::([[65],[61],[48],[59]]++ [125]::l)):=b;refine⟨A b Vz,?_⟩;have⟨f,g⟩:=b.skip;have⟨p,o,j⟩:=g.kind (k:=1) ((iZ _).J VB);have⟨s,c⟩:=j.skip
  have⟨vs,d,u⟩:=ui (ws:=ws) (stop:=gy ws [125]) (p:=kY ws) (F:=λ_:Unit=> [[65],[61],[48],[59]]) (R:=λ_ v=>∃q r,v=((bl [65],q),(bl [48],r))) (e:= [125]::l) (λi h=>by rw[h.txt];rfl) [()] (λ_ _ i l t=>by
   have t:Tk ws i ([65]:: [61]:: [48]:: [59]::l):=t;have I:=t;have⟨q,f,g⟩:=t.kind (k:=1) ((iZ _).J VB);have⟨o,j⟩:=g.skip;have⟨r,s,c⟩:=j.kind (k:=2) ((iZ _).J VB);have⟨d,N⟩:=c.skip
   exact⟨by rw[I.txt];rfl,_,by unfold kY;rw[f];simp only[gP];simp_all,q,r,rfl⟩) ws.length _ (by have:=c.len;grind) c
  have⟨m,_⟩:=Tk.skip (Tk.app (a:= [[65],[61],[48],[59]]) c);have m:gw ws [125] (i+1+1+1+4)= .ok ((),i+1+1+1+4+1):=m;have d:gJ (gy ws [125]) (kY ws) ws.length (i+1+1+1)= .ok (vs,i+1+1+1+4):=d
  match vs,u,d with
  | [v],u,d=>
   obtain⟨⟨q,r,rfl⟩,_⟩:=u;refine⟨_,?_,p,q,r,rfl⟩;unfold jV;rw[b.txt];simp only[beq_self_eq_true,if_true];unfold lX;rw[f];simp only[gP];rw[o];simp only;rw[s];simp only;rw[d];simp only;rw[m];rfl
 .obtain⟨k,n,rfl⟩:=aS.1 w;have n:=List.mem_range.1 n;rw[aO n]at b⊢;have⟨K,D⟩:=h.few;have⟨_,E,G⟩:=h.fs _ (List.getElem_mem n);generalize L[k]=fs at*;have b:Tk ws i (PQ k fs++l):=b;show _/\∃a,_=Except.ok (a,i+(PQ k fs).length)/\∃p z,_/\kH (Dd fs) (iH fs) z;rw[Sf]at b⊢;have b:Tk ws i ([109,101,115,115,97,103,101]::(77::gu k):: [123]::(((iH fs).flatMap (NV fs)++ [[125]])++l)):=b;refine⟨A b Vz,?_⟩;have B:∀k:Fin 3,qN (77::gu k.val)=1:=Vz;have⟨f,g⟩:=b.skip;have⟨p,o,j⟩:=g.kind (k:=1) ((iZ _).J (B ⟨k,Vv⟩));have⟨s,c⟩:=j.skip;rw[bj]at c;have M:=c.len;have J:=rE (F:=NV fs) (iH fs) Tq;have⟨z,d,C⟩:=ui (stop:=gy ws [125]) (p:=kB ws) (F:=NV fs) (R:=Dd fs) (e:= [125]::l) (λi h=>by rw[h.txt];rfl) (iH fs) (PU D G E) ws.length _ (by grind) c;have⟨m,_⟩:=Tk.skip c.app;refine⟨_,?_,p,z,rfl,C⟩;unfold jV;rw[b.txt];have:(([109,101,115,115,97,103,101]:ap)== [101,110,117,109])=false:=rfl;rw[this];simp only[aU,if_false];unfold ij;rw[f];simp only[gP];grind
def PX (h:Bf L):∃bs j,p9 (fQ (qL L))= .ok (bs,j)/\kH wz (NW L L.length) bs:=by
 have b:Tk (fQ (qL L)) 0 ((NW L L.length).flatMap PW++ [[]]):=(by unfold Tk;rw[List.drop_zero,Se h,Nu]);have f:=b.len
 have d:=rE (F:=PW) (NW L L.length) (λx a=>by
  rcases aR.1 a with rfl|a;.simp[PW]
  .obtain⟨k,_,rfl⟩:=aS.1 a
   simp[PW,PQ])
 have⟨bs,e,c⟩:=ui (ws:=fQ (qL L)) (stop:=oG (fQ (qL L))) (p:=jV (fQ (qL L))) (F:=PW) (R:=wz) (e:= [[]]) (λi t=>by
  have⟨p,e,_⟩:=Tk.step t;unfold oG;rw[e]
  rfl) (NW L L.length) (Nv h) (fQ (qL L)).length 0 (by grind) b
 exact⟨bs,_,e,c⟩
end
def Nw (x:Nat×F3):rD:=102::gu x.1
def GN:∀a b:Fin 7,(102::gu a.val)=(102::gu b.val)->a=b:=Vz
def PY:∀k:Fin 7,jd (bl (gu (k.val+1)))=k.val+1:=Vz
def Nx (N:List rD)(x:rD):fk (N.map bl) (bl x)=N.contains x:=by
 unfold fk;rw[List.any_map,List.contains_eq_any_beq];congr 1;funext y;simp only[Function.comp,zD];rw[Bool.beq_comm]
def uk {N:List rD}{x:rD}(b:x∉N)(a:x.length<=20):iT (N.map bl) (bl x)=false:=by
 unfold iT;rw[Nx,fT];simp_all
def Uq:∀t:Fin 19,qN (gI t.val)=1->(t.val=15/\gI t.val= [69])\/(15<t.val/\gI t.val=77::gu (t.val-16)):=Vz
def Sg:∀k∈ig,qN (gI k)=3/\(!(gI k== [102,108,111,97,116])&&(!(gI k== [100,111,117,98,108,101])&& !(gI k== [98,121,116,101,115])))=true:=Vz
def Ny (n:Nat):List rD:= [69]::(List.range n).map λi=>77::gu i
section
variable {n:Nat} {N:List rD} {M:aB} {fs:List F3}
def E8 (hn:n<=3){k:Nat}{f:F3}{fm:Int}{r:eW}(h:wy k f fm r)(a:IF n f)(m:k<7)(j:(102::gu k)∉N)(s:k+1∉M)(hl:M.length<12):
  nV ((Ny n).map bl) (N.map bl) M r= .ok ((N++ [102::gu k]).map bl,M++ [k+1]):=by
 have b:f.1<19:=by have:=a.1;omega
 unfold nV vw kJ;rw[h.form,h.type,h.name,h.num,PY ⟨k,m⟩]
 have c:(fm==4&& !im (mX r.key) (jM r.key))=false:=by
  by_cases h4:fm=4
  .have e:=h.key;rw[dR h4]at e
   cases hrk:r.key with
   |none=>simp_all
   |some x=>
    rw[hrk]at e;have e:x.1=bl (gI f.2.2):=by simp_all
    have⟨o,p⟩:=Sg _ a.2.2.1;unfold mX jM im;simp only[e,zD];rw[iZ,o,p];simp
  simp_all
 have d:pt ((Ny n).map bl) (dX (bl (gI f.1))) (bl (gI f.1))=false:=by
  unfold pt;rw[Nx,fT,iZ];by_cases q:qN (gI f.1)=1
  .have u:=ru b
   have t:gI f.1∈Ny n:=by
    have l:=a.1;rcases Uq ⟨f.1,b⟩ q with⟨_,e⟩|⟨g,e⟩;.rw[show gI f.1= [69]from e];exact aZ
    .refine aY _ (aS.2 ⟨f.1-16,List.mem_range.2 ?_,e.sy⟩);grind
   grind
  .simp[q]
 have i:pu M (k+1)=false:=(by unfold pu Bu;grind);rw[c,d,uk j (by simp[dig_len]),i];simp_all
def II (hn:n<=3){g:Nat×F3->Int}:∀(xs:List (Nat×F3)) (rs:List eW) (N:List rD) (M:aB),kH (λx r=>wy x.1 x.2 (g x) r) xs rs->(∀x∈xs,x.1<7/\IF n x.2/\Nw x∉N/\x.1+1∉M)->(xs.map (·.1)).Nodup->M.length+xs.length<=12->
  gB ((Ny n).map bl) (N.map bl) M rs= .ok ((N++xs.map Nw).map bl,M++xs.map λx=>x.1+1)
 | [],[],N,M,_,_,_,_=>by simp[gB]
 | [],_::_,_,_,h,_,_,_=>h.elim
 |_::_,[],_,_,h,_,_,_=>h.elim
 |x::xs,r::rs,N,M,h,hx,hd,hl=>by
  simp only[bw]at hl;simp only[bC,List.nodup_cons]at hd;have⟨c,i,j,k⟩:=hx x Vw;rw[gB,E8 hn h.1 i c j k Vv];simp only
  rw[II hn xs rs (N++ [102::gu x.1]) (M++ [x.1+1]) h.2 (λy a=>by
   have⟨b,d,f,m⟩:=hx y (aY _ a);have l:x.1≠y.1:=λe=>hd.1 (aS.2 ⟨y,a,e.sy⟩)
   refine⟨b,d,λh=> ?_,λh=> ?_⟩
   .rcases aW.1 h with h|h;.exact f h
    .have:=GN ⟨y.1,b⟩ ⟨x.1,c⟩ (ba.1 h);simp_all
   simp_all) hd.2 (by grind)]
  simp[Nw]
def IJ (hn:n<=3)(rest:List fK):∀(xs:List (Nat×F3)) (ps:List fK) (N:List rD) (M:aB),kH (Dd fs) (xs.map some) ps->(∀x∈xs,x.1<7/\IF n x.2/\Nw x∉N/\x.1+1∉M)->(xs.map (·.1)).Nodup->M.length+xs.length<=12->
  gS ((Ny n).map bl) (N.map bl) M (ps++rest)=gS ((Ny n).map bl) ((N++xs.map Nw).map bl) (M++xs.map λx=>x.1+1) rest
 | [],[],N,M,_,_,_,_=>Vw
 | [],_::_,_,_,h,_,_,_=>h.elim
 |_::_,[],_,_,h,_,_,_=>h.elim
 |x::xs,p::ps,N,M,h,hx,hd,hl=>by
  simp only[bw]at hl;simp only[bC,List.nodup_cons]at hd;have⟨c,j,k,l⟩:=hx x Vw;obtain⟨⟨r,rfl,f⟩,d⟩:=h;rw[bo,gS];have e:nh ((Ny n).map bl) (N.map bl) M ⟨none,[r]⟩= .ok ((N++ [102::gu x.1]).map bl,M++ [x.1+1]):=(by rw[nh,show(mX ((⟨none,[r]⟩:fK).oneof)==1)=false from rfl];simp only[aU,if_false];rw[gB,E8 hn f j c k l Vv];rfl);rw[e];simp only
  rw[IJ hn rest xs ps (N++ [102::gu x.1]) (M++ [x.1+1]) d (λy a=>by
   have⟨b,g,i,o⟩:=hx y (aY _ a);have m:x.1≠y.1:=λe=>hd.1 (aS.2 ⟨y,a,e.sy⟩)
   refine⟨b,g,λh=> ?_,λh=> ?_⟩
   .rcases aW.1 h with h|h;.exact i h
    .have:=GN ⟨y.1,b⟩ ⟨x.1,c⟩ (ba.1 h);simp_all
   simp_all) hd.2 (by grind)]
  simp[Nw]
end
def kH.app {α β:Type}{R:β->α->Prop}:∀{xs ys:List β} {l:List α},kH R (xs++ys) l->∃a b,l=a++b/\kH R xs a/\kH R ys b
 | [],_,l,h=>⟨[],l,rfl,trivial,h⟩
 |_::_,_,[],h=>h.elim
 |x::xs,ys,y::l,h=>by
  have⟨a,b,e,c,d⟩:=kH.app h.2;exact⟨y::a,b,by rw[e];rfl,⟨h.1,c⟩,d⟩
def P3 (fs:List F3)(n:Nat):(zI fs n).map (·.1)=List.range n:=by
 unfold zI;rw[bM];exact List.map_id'' (λ_=>rfl) _
def Bo (fs:List F3)(q:Nat×F3->Bool):(((zI fs fs.length).filter q).map (·.1)).Nodup:=by
 have h:(((zI fs fs.length).filter q).map (·.1)).Sublist ((zI fs fs.length).map (·.1)):=List.filter_sublist.map _;rw[P3]at h;grind
def Sh {n:Nat}(s:n<=3){fs:List F3}(F:∀f∈fs,IF n f)(E:fs.length<=7){ps:List fK}(h:kH (Dd fs) (iH fs) ps):∃r,gS ((Ny n).map bl) [] [] ps= .ok r:=by
 have i:∀q,∀x∈(zI fs fs.length).filter q,x.1<7/\IF n x.2:=λq x c=>by
  have⟨k,d,_⟩:=uj (bA.1 c).1 (aE _);grind
 have hlen:∀q,((zI fs fs.length).filter q).length<=7:=λq=>by
  have:=bZ q (zI fs fs.length);have e:(zI fs fs.length).length=fs.length:=by unfold zI;simp
  omega
 have t:(nN fs).length+(ones fs).length<=7:=by
  have e:(zI fs fs.length).length=fs.length:=by unfold zI;simp
  have:=List.length_eq_countP_add_countP sG (l:=zI fs fs.length);rw[List.countP_eq_length_filter,List.countP_eq_length_filter]at this;unfold nN ones;grind
 unfold iH at h;obtain⟨a,b,rfl,k,d⟩:=h.app;have:=IJ s b (nN fs) a [] [] k (λx c=>⟨(i _ x c).1,(i _ x c).2,Vw,Vw⟩) (Bo fs _) (by(simp;omega));rw[show([]:aA)=([]:List rD).map bl from rfl,this];by_cases ho:ones fs= []
 .rw[dR ho]at d
  match b,d with
  | [],_=>exact⟨_,rfl⟩
 .rw[dQ ho]at d
  match b,d with
  | [p],d=>
   obtain⟨⟨o,rs,rfl,v⟩,_⟩:=d;rw[gS];have z:(mX (some (bl [111],o))==1)=true:=(by show(dX (bl [111])==1)=true;rw[iZ];rfl)
   have u:([111]:rD)∉([]++(nN fs).map Nw):=λq=>by
    have⟨x,_,e⟩:=aS.1 q;cases e
   have m:∀x∈ones fs,∀y∈nN fs,x.1≠y.1:=λx c y j e=>by
    have⟨A,G⟩:=bA.1 c;have⟨B,H⟩:=bA.1 j;have C:=(uj A (aE _)).2.2;have D:=(uj B (aE _)).2.2;grind
   unfold nh;rw[dR z];simp only;rw[show jM (some (bl [111],o))=bl [111]from rfl,uk u Vy];simp only[aU,if_false];have e:([]++(nN fs).map Nw).map bl++ [bl [111]]=(([]++(nN fs).map Nw)++ [[111]]).map bl:=Vw
   have w:∀x∈ones fs,x.1<7/\IF n x.2/\Nw x∉([]++(nN fs).map Nw)++ [[111]]/\x.1+1∉ []++(nN fs).map λx=>x.1+1:=λx c=>by
    refine⟨(i _ x c).1,(i _ x c).2,λq=> ?_,λq=> ?_⟩
    .rcases aW.1 q with q|q;.have⟨y,j,e⟩:=aS.1 q;have:=GN ⟨y.1,(i _ y j).1⟩ ⟨x.1,(i _ x c).1⟩ e;grind
     .cases ba.1 q
    grind
   rw[e,II s (g:=λ_=>3) (ones fs) rs _ _ v w (Bo fs _) (by grind)];exact⟨_,rfl⟩
def IK {n:Nat}(c:n<=3):∀(xs:List (Nat×List F3)) (bs:List d9) (N:List rD) (m:Nat),kH wz (xs.map some) bs->(∀x∈xs,x.1<3/\x.2.length<=7/\(∀f∈x.2,IF n f)/\(77::gu x.1)∉N)->(xs.map (·.1)).Nodup->m+xs.length<=3->∃r,fR ((Ny n).map bl) (N.map bl) m bs= .ok r
 | [],[],_,_,_,_,_,_=>⟨_,rfl⟩
 | [],_::_,_,_,h,_,_,_=>h.elim
 |_::_,[],_,_,h,_,_,_=>h.elim
 |x::xs,b::bs,N,m,h,hx,hd,hl=>by
  simp only[bw]at hl;simp only[bC,List.nodup_cons]at hd;have⟨s,t,u,v⟩:=hx x Vw;obtain⟨⟨p,w,rfl,e⟩,g⟩:=h;have⟨r,j⟩:=Sh c u t e;rw[fR];simp only;rw[uk v (by simp[dig_len])];simp only[aU,if_false];rw[dQ (by grind),j];simp only;rw[show N.map bl++ [bl (77::gu x.1)]=(N++ [77::gu x.1]).map bl by simp];have i:∀a b:Fin 3,(77::gu a.val)=(77::gu b.val)->a=b:=Vz
  exact IK c xs bs _ (m+1) g (λy k=>by
   have⟨d,l,o,q⟩:=hx y (aY _ k);refine⟨d,l,o,λh=> ?_⟩;rcases aW.1 h with h|h;.exact q h
   .have:=i ⟨y.1,d⟩ ⟨x.1,s⟩ (ba.1 h)
    grind) hd.2 Vv
def GO {L:List (List F3)}(h:Bf L)(z:(qL L).size<=2000):∃bs,iU (qL L)= .ok bs/\kH wz (NW L L.length) bs:=by
 have⟨bs,j,e,a⟩:=PX h;refine⟨bs,?_,a⟩;have⟨w,m⟩:=h.few;unfold iU;rw[dQ Vv,e];simp only
 match bs,a with
 |b::bs,a=>
  obtain⟨⟨p,q,r,rfl⟩,a⟩:=a
  have g:∀(c:List (Nat×List F3)) (bs:List d9),kH wz (c.map some) bs->fL bs=(c.map λx=>77::gu x.1).map bl:=λc=>by
   induction c with
   |nil=>intro bs h;match bs,h with| [],_=>rfl
   |cons x c ih=>
    intro bs h
    match bs,h with
    |b::bs,h=>
     obtain⟨⟨p,A,rfl,_⟩,y⟩:=h;show _::fL bs=_;simp_all
  have a:kH wz ((((List.range L.length).map λi=>(i,(L[i]?).getD []))).map some) bs:=by rw[bM];exact a
  have l:fL (⟨true,(bl [69],p),[],[((bl [65],q),(bl [48],r))]⟩::bs)=(Ny L.length).map bl:=(by show bl [69]::fL bs=_;rw[g _ _ a];unfold Ny;simp);rw[l,fR];simp only;rw[show([]:aA)=([]:List rD).map bl from rfl,uk Vw Vy];simp only[aU,if_false,if_true];rw[lr];simp only;rw[show([]:aA)=([]:List rD).map bl from rfl,uk Vw Vy];simp only[aU,if_false];rw[dQ (show¬decide (2147483647<jd (bl [48]))=true by decide+kernel),lr];simp only
  have⟨u,t⟩:=IK (n:=L.length) m _ bs [[69]] 0 a (λx v=>by
   obtain⟨k,d,rfl⟩:=aS.1 v;have d:=List.mem_range.1 d;simp only;rw[aO d];have⟨_,o,s⟩:=h.fs _ (List.getElem_mem d)
   exact⟨Vv,o,s,Vw⟩) (by rw[bM,List.map_id'' (f:=(λx:Nat×List F3=>x.1)∘λi=>(i,(L[i]?).getD [])) (λ_=>rfl)];grind) Vx
  rw[show List.map bl []++bl [69]::List.map bl []=List.map bl [[69]]from rfl,t]
end Go.Proofs.YtfebdimolnobaaaGreatDoor
