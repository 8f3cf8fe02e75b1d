import Derived.Test.YtfebdimolnobaaaGreatDoorKpB
import Derived.Test.YtfebdimolnobaaaGreatDoorRfN
import Derived.Test.YtfebdimolnobaaaGreatDoorRows
import Derived.Deep.Strs
import Derived.ProofKit
import Derived.Conc.MuLone
set_option maxRecDepth 100000
set_option maxHeartbeats 8000000
set_option linter.all false
namespace Go.Proofs.YtfebdimolnobaaaGreatDoor
open Go.RowKit Go.Proofs.Tryz
section
open Go.ChangeShapes Go.WideShapes Go.RowKit Go.Deep Go.Proofs.YtfebdimolnobaaaGreatDoor.Rows
def sw:prog.cellsOf 9=1:=Tj
def II:prog.cellsOf 3=1:=Tj
def IJ:prog.cellsOf 49=2:=Tj
def IK:prog.cellsOf 47=1:=Tj
section
variable {H:Type}
def IL (d:DataW H):1<=uptoBulk d:=by
 cases d with
 |lit l=>cases l<;>simp[uptoBulk]
 |_=>simp[uptoBulk]
def wo:∀l:List (DataW H),l.length<=uptoBulkAll l
 | []=>aM _
 |d::l=>by have:=wo l;have:=IL d;rw[uptoBulkAll,bF];omega
def sx {d:DataW H}:∀{l:List (DataW H)},d∈l->uptoBulk d<=uptoBulkAll l
 |x::l,h=>by
  rw[uptoBulkAll];rcases aR.1 h with rfl|h;.omega
  .have:=sx h;omega
def Eb {n:Int}(h:(Lit.int .i64 n).wf=true): -9223372036854775808<=n/\n<=9223372036854775807:=by
 have a:(decide (IntKind.i64.min<=n)&&decide (n<=IntKind.i64.max))=true:=h;simp only[bK,decide_eq_true_eq]at a;exact a
end
end
section
open Go.Maps
open Tq
def Gp (w:aw)(R:Fx PM)(e:Ending)(w':aw):Prop:=
 match R with
 | .error x=>e= .returned (.tuple #[.agg #[ah,S8],aa x.1,aa x.2])/\aj w w'
 | .ok m=>∃v Z',e= .returned (.tuple #[.agg #[v,ae m.unk],aa 0,aa 0])/\lR 9 w' v m Z'/\(∀b,Z' b->w.heap.size<=b/\b<w'.heap.size)/\aj w w'
def Nq (a b:Addr)(w:aw):
  CallsD prog 82 #[.pointer (some a),.pointer (some b)] .returning w λe u' w'=>e= .returned (.tuple #[])/\u'= .returning/\w'=w:=by
 refine callsD_of_wpS func82 rfl λc cs d=> ?_
 apply wpS_seq;apply wpS_region;simp[wpOpsS,go_sem,recoverD,d,ntmps82,Exit.thenS];refine wpS_of_wp ?_;rw[Gn];go_wp2;cases c;simp_all [bodyPostS,results,results82]
def Hx (ab bb:Nat)(k p:Int)(older:List PanicEntry)(w:aw)(x y:Value)(f:w.cell? (ai ab 0)=some x)(g:w.cell? (ai bb 0)=some y)(m:w.frozen? (ai ab 0)=false)(n:w.frozen? (ai bb 0)=false)(a:¬ab=bb):
  CallsD prog 82 #[ag ab,ag bb] (.panicking ({v:= .iface 142 (.agg #[aa k,aa p]),recovered:=false}::older)) w λe u' w'=>
   e= .returned (.tuple #[])/\u'= .panicking ({v:= .iface 142 (.agg #[aa k,aa p]),recovered:=true}::older)/\
    w'=(((w.setCell (ai ab 0) (aa k)).setCell (ai bb 0) (aa p)).alloc (ak #[aa k,aa p] 142)).drew:=by
 have i:=QY k p;have c:=aZ _ _ f;have d:=aZ _ _ g;simp only at c d;have⟨o,q,r,s⟩:=gW (w:=w) (b:=ab) c;have⟨t,u,z,A⟩:=gW (w:=w) (b:=bb) d;have h:¬bb=ab:=λe=>a e.sy
 refine callsD_of_wpS func82 rfl λl cs j=> ?_
 apply wpS_seq;apply wpS_region;simp[wpOpsS,go_sem,recoverD,j,ntmps82,Exit.thenS];refine wpS_of_wp ?_;rw[Gn];go_wp2;go_region
 exact⟨rfl,_,rfl,.tuple #[],by simp[results,results82],rfl,rfl,rfl⟩
def Ac {fn:Func}{p q r:Tmp}{ty ty' ty'':TypeId}{b b1 b2:Nat}{cs:aq}{fs:Array Field}{v1 v2:Value}(h:fn.results= #[.cell p ty,.cell q ty',.cell r ty''])(tmps:aq)(W:aw)
  (i:tmps.getD p undef=ag b) (j:tmps.getD q undef=ag b1) (k:tmps.getD r undef=ag b2) (K:dP W b cs ty)
  (m:prog.underlying ty=some (.struct fs)) (f:(prog.info? ty).map (·.size)=some cs.size) (h1:(loadVar ty' (ai b1 0)).run prog W= .ok v1 W) (e:(loadVar ty'' (ai b2 0)).run prog W= .ok v2 W):
  (results fn tmps).run prog W= .ok (.tuple #[.agg cs,v1,v2]) W:=by
 have g:=run_loadVar_row (P:=prog) W b ty ty cs (0,0) _ K m rfl f;have a:tmps[p]?.getD undef=ag b:=by simpa using i
 have c:tmps[q]?.getD undef=ag b1:=by simpa using j
 have d:tmps[r]?.getD undef=ag b2:=by simpa using k
 simp only[results,h];simp[a,c,d,asAddr,g,h1,e]
def QZ (w:aw)(y:List YM)(nm:au)(e:Ending)(w':aw):Prop:=
 w'=w/\((∃(i:Nat) (m:YM),y[i]?=some m/\(m.1.1.toList==nm.toList)=true/\e= .returned (.tuple #[ag m.1.2,aa 0]))\/
  ((∀m∈y,(m.1.1.toList==nm.toList)=false)/\e= .returned (.tuple #[.pointer none,aa 5])))
def Ks (w:aw)(sb:Nat)(v kv:Value)(bs:List dS)(y:List YM)(P:ax)(nm:au)(way:Int)(h1:dP w sb #[v,kv] 92)(d:gH w P v bs y)(s:y.length<=2001)(p:way=1\/way=2):
  Calls prog 44 #[ag sb,aa way,ae nm] w (QZ w y nm):=by
 obtain⟨C,D,rfl⟩:=ig d.row.1;have⟨u,z⟩:=h1.I
 .go_in
  rcases p with rfl|rfl
  all_goals
   go_wp2;go_loopw [9,23] (λ_ i wr=>∃(q:Nat),q<=y.length/\i=aa q/\(∀m∈y.take q,(m.1.1.toList==nm.toList)=false)/\wr=w) (λ_ i _=>y.length-(intOf i).toNat)
   case atStart=>exact⟨0,aM _,rfl,Tf,rfl⟩
   case round=>
    obtain⟨q,t,rfl,c,rfl⟩:=hrel;by_cases hlt:q<y.length
    .have⟨m,a⟩:=gx hlt;have h:Hid (y.take (q+1)=y.take q++ [m]):=by show _=_;rw[bu,a];rfl
     obtain⟨g,rfl,_,l,e⟩:=dV d.row.1 Te;have o:=e wr rfl q (gR (some m.1.2)) (by simp[fh,a]);unfold gR at o;have⟨r,k,j,_,_,_⟩:=d.msg m (aO a);have⟨A,B⟩:=j.I;clear e
     cases hc:m.1.1.toList==nm.toList with
     |true=>
      have f:Hid (y[q]?=some m):=a;clear a;go_wp2;go_ret2
      exact⟨rfl,.inl ⟨q,m,f.o,hc,rfl⟩⟩
     |false=>
      clear a;go_wp2;go_roundw
      case rel=>
       refine⟨q+1,Te,by go_num,?_,trivial⟩;rw[h.o];intro x b;rcases aQ.1 b with b|b;.exact c x b
       .rw[bn.1 b];exact hc
      case measure=>simp[intOf];omega
    .have n:decide ((q:Int)<(y.length:Int))=false:=Tg;obtain rfl:q=y.length:=Te;rw[bX]at c;go_wp2;go_ret2;exact⟨rfl,.inr ⟨c,rfl⟩⟩
def Pk (R:Fx PM)(w:aw)(q0 q1 q2 q3 mb:Nat)(b:au)(a:w.cell? (ai q0 0)=some (aa 1))(c:w.cell? (ai q1 0)=some (ag mb))(d:w.cell? (ai q2 0)=some (ae b))
  (h:∀w0,aj w w0->S9 47 #[ag mb,ae b] w0 (lH w0 R)):
  Calls prog 46 #[ag q0,ag q1,ag q2,ag q3] w (lH w R):=by
 have⟨f,j⟩:=eY w #[ah,S8] 49;have t:=(f.cell (p:=(ai q0 0)) (aZ _ _ a)).J a;have u:=(f.cell (p:=(ai q1 0)) (aZ _ _ c)).J c;have y:=(f.cell (p:=(ai q2 0)) (aZ _ _ d)).J d;have q:Hid (S9 47 #[ag mb,ae b] _ (lH _ R)):=h _ f;clear h;go_in
 go_wp2_with fail;generalize w.alloc (ak #[ah,S8] 49)=w1 at*;refine q.o.V ?_
 cases R with
 |error x=>
  rintro e w2 ⟨rfl,g⟩;unfold dX;go_wp2
  exact⟨rfl,rfl,dL f g⟩
 |ok m=>
  rintro e w2 ⟨v,s,rfl,n,k,g⟩;obtain⟨z,A,rfl⟩:=n.form;have l:=j.G g j.lt;have o:=dL f g;have D:=j.lt;have⟨B,C⟩:=l.I;clear t u y a c d;go_wp2
  have r:=n.O (w':=(w2.setCell (ai w.heap.size 0) (.slice z m.fs.length A)).setCell (ai w.heap.size 1) (ae m.unk)) (λx i _=>by
   have:=(k x i).1
   rw[dM,dG Te,dM,dG Te])
  exact dJ (dW results46 _ _ rfl ((l.set 0 _).set 1 _) underlying49 Tj) rfl ⟨_,s,rfl,r,λx i=>⟨by have:=(k x i).1;omega,by simp only[cH];exact(k x i).2⟩,(o.setCell (p:=(ai w.heap.size 0)) (aD _) _).setCell (p:=(ai w.heap.size 1)) (aD _) _⟩
def qJ {fn:Func}{p q r:Tmp}{ty:TypeId}{b:Nat}{cs:aq}{fs:Array Field}(h:fn.results= #[.cell p ty,.tmp q,.tmp r])(tmps:aq)(W:aw)(e:tmps.getD p undef=ag b)(K:dP W b cs ty)
  (f:prog.underlying ty=some (.struct fs)) (c:(prog.info? ty).map (·.size)=some cs.size):
  (results fn tmps).run prog W= .ok (.tuple #[.agg cs,tmps.getD q undef,tmps.getD r undef]) W:=by
 have d:=run_loadVar_row (P:=prog) W b ty ty cs (0,0) _ K f rfl c;have a:tmps[p]?.getD undef=ag b:=by simpa using e
 simp only[results,h];simp[a,asAddr,d]
end
section
variable {bs:List dS} {t:au} {w:aw} {P:ax} {v:Value} {y:List YM}
theorem Dj (h:mJ bs)(hm:eC (dZ bs) t=true):dN t=1/\eC (eZ bs) t=true:=by
 have⟨x,e,a⟩:=(iH _ _).1 hm;obtain⟨c,d,rfl⟩:=aV.1 e;have b:=(cl.1 d).1;exact⟨by rw[<-rW a];exact h.nm c b,(iH _ _).2 ⟨_,aV.2 ⟨c,b,rfl⟩,a⟩⟩
theorem Gq (h:((eM bs).msg t).isSome=true):eC (dZ bs) t=true:=by
 cases hm:eC (dZ bs) t with
 |true=>rfl
 |false=>
  rw[(wR (z:=(dZ bs).map λn=>(n,0)) (by rw[bI];simp[Function.comp_def]) hm).1]at h;cases h
theorem zN (bs:List dS):((dZ bs).map λn=>((n,0):au×Nat)).map (·.1)=dZ bs:=by rw[bI];simp[Function.comp_def]
theorem Kt (b:dN t=3)(a:fL 3 t=true):(ed (rN t)=2->gP t og=true)/\(gP t og=true->ed (rN t)=2):=by
 have c:t.toList∈lA:=by have:=oj b;simpa [ip]using this
 unfold rN gP;unfold fL at a;generalize t.toList=l at c a
 revert l;decide+kernel
theorem xS (h:mJ bs)(a:dN t=3):(eM bs).base t=rN t:=by
 rw[vK h.ok (zN bs) (.inl a)];unfold jd;rw[dH a]
theorem OC (h:mJ bs){b:dS}(g:b∈bs)(k:b.enum=false):kM (eM bs) (oV b):=by
 intro f l c;obtain⟨p,i,j,d,rfl⟩:=EB.1 l;have⟨_,f2,_⟩:=zW (h.ok.shape b g p i) d;rw[f2]at c;have⟨a,m⟩:=CS h g k i d (dI c);have⟨w1,w2⟩:=Kt a m;refine⟨xF h a,λe=>w1 ?_,λe=> ?_⟩;.rw[<-xS h a];exact e
 .show ed ((eM bs).base (jp j.key))=2;rw[xS h a];exact w2 e
theorem Nr (h:mJ bs):D9 (eM bs):=by
 have e:∀d∈(eM bs).ms,∃b,b∈bs/\b.enum=false/\d=oV b:=λd c=>by
  obtain⟨b,a,rfl⟩:=aV.1 c;have:=cl.1 a;grind
 refine⟨⟨λt i=> ?_,λd c=> ?_⟩,λd c=> ?_⟩;.have j:=Dj h (Gq i);have:=(zV h (zN bs) (.inr j)).2 i;show ed _=2;rw[this];rfl
 .obtain⟨b,a,g,rfl⟩:=e d c;exact OC h a g
 .obtain⟨b,a,g,rfl⟩:=e d c
  cases q:gP (oV b).name eS with
  |false=>rfl
  |true=>
   have f:=h.nm b a;rw[rW (iu.1 q:b.name.1.toList=eS.toList)]at f;exact absurd f Ti
theorem qK (g:gH w P v bs y)(h:mJ bs){d:MT}(u:(eM bs).msg t=some d):
  ∃(i:Nat) (m:YM),y[i]?=some m/\yJ (nM (y.map (·.1))) t=some m.1.2/\m.1.1=d.name/\m.1.1.toList=t.toList/\jX w (λb=>b<w.heap.size) (nM (y.map (·.1))) m.1.2 d.name m.2/\rV (eM bs) (nM (y.map (·.1))) d m.2/\kM (eM bs) d:=by
 have z:(y.map (·.1)).map (·.1)=dZ bs:=by rw[bI];exact g.names
 have j:=Gq (bs:=bs) (t:=t) (by simp_all);have⟨i,b,f,q,r,s,C⟩:=pV h.ok z j;rw[u]at r;cases r;have⟨m,a,E⟩:=g.g i b q;rw[aT,a]at s;have e:m.1=(b.name.1,f):=Option.some.inj s;have n:=cl.1 (aO q);have o:b.enum=false:=by simp_all
 have K:=Dj h j;have k:=g.msg m (aO a);rw[e]at k
 have G:b.name.1.toList=t.toList:=by
  have⟨L,p,M,N,I⟩:=pT (t:=t) (l:=gm bs) (by
   have⟨x,H,A⟩:=(iH _ _).1 j;obtain⟨c,D,rfl⟩:=aV.1 H
   exact⟨c,D,A⟩)
  have:(eM bs).msg t=some (oV p):=I;rw[u]at this;have B:=dK MT.name (Option.some.inj this);have J:b.name.1=p.name.1:=B;simp_all
 refine⟨i,m,a,?_,by rw[e];rfl,by simp_all,?_,QU h z n.1 o E,OC h n.1 o⟩;.unfold yJ;rw[dG Te,C,e]
 .rw[e];exact k.V λb _ F=>F
theorem Ku (b:gH w P v bs y)(h:mJ bs)(a:UOK w):Oz w w.heap.size (eM bs) (nM (y.map (·.1))):=
 ⟨a,a.lt1,a.lt2,aD _,λ_ _ c=>by
  have⟨_,m,_,d,_,_,e,f,_⟩:=qK b h c
  grind⟩
end
end Go.Proofs.YtfebdimolnobaaaGreatDoor
namespace Go.Proofs
abbrev Tryz.muLink:Go.Conc.Locks.MuLink:={lock:=86,unlock:=87,ilock:=138,iunlock:=139,lockSlow:=203,unlockSlow:=206,disable:=199,enable:=201,acquire:=202,relMerge:=204,cas32:=200,add32:=205,tMutex:=168,tIMutex:=166,tPMutex:=251,tPIMutex:=318,tPI32:=320,tUP:=322,tNoCopy:=163,tU32:=164}
theorem Tryz.muLib:Go.Conc.Locks.MuLib Tryz.prog Tryz.muLink:=
 ⟨Tryz.func86,Tryz.func87,Tryz.func138,Tryz.func139,Tryz.func199,Tryz.func201,Tryz.func202,Tryz.func204,Tryz.func200,Tryz.func205,Tryz.underlying166,Tryz.runUnderlying166,Tryz.sizeOf166,Tryz.isAgg166,Tryz.zeroValue166,Tryz.underlying168,Tryz.runUnderlying168,Tryz.sizeOf168,Tryz.isAgg168,Tryz.zeroValue168,Tryz.underlying251,Tryz.runUnderlying251,Tryz.sizeOf251,Tryz.isAgg251,Tryz.zeroValue251,Tryz.underlying318,Tryz.runUnderlying318,Tryz.sizeOf318,Tryz.isAgg318,Tryz.zeroValue318,Tryz.underlying320,Tryz.runUnderlying320,Tryz.sizeOf320,Tryz.isAgg320,Tryz.zeroValue320,Tryz.underlying322,Tryz.runUnderlying322,Tryz.sizeOf322,Tryz.isAgg322,Tryz.zeroValue322,Tryz.underlying163,Tryz.runUnderlying163,Tryz.sizeOf163,Tryz.isAgg163,Tryz.zeroValue163,Tryz.underlying21,Tryz.runUnderlying21,Tryz.sizeOf21,Tryz.isAgg21,Tryz.zeroValue21,(by kernel_rfl)⟩
end Go.Proofs
namespace Go.Proofs.YtfebdimolnobaaaGreatDoor
open Go.RowKit Go.Maps
open Tq
section
variable {kp mk:Nat} {mu mu':Int} {S:eE} {mp:am} {w:aw} {N:Nat} {pm:am} {U:aB} {X:ax}
theorem uO.mutex (h:uO kp mk mu S mp w N pm U X)(hU:kp∉U):uO kp mk mu' S mp (w.setCell (ai kp 0) (.int .i32 mu')) N pm U X:=by
 have c:∀b,b≠kp->(w.setCell (ai kp 0) (.int .i32 mu')).heap[b]?=w.heap[b]?:=fun b j=>eO (fun e=>j e.sy)
 refine⟨by simpa using h.kb.set 0 (.int .i32 mu'),h.mb.O (c _ h.ne),h.ne,h.ct,h.inj,fun t p k=> ?_⟩;rcases h.pl t p k with⟨a,f,g⟩|⟨d,i,a,f,g⟩;.exact .inl ⟨a,(c p (fun e=>hU (e▸a))).J f,g⟩
 .exact .inr ⟨d,i,a,f,g.O (fun b q _=>c b q.2.1) (fun _ _ q=>q)⟩
end
section
variable (kp mk W0:Nat) (S:eE) (mp:am) (P:ax)
theorem RN (MK:ui)(w:aw)(N:Nat)(pm:am)(mb:Nat)(d:MT)(gs:List GF)(X:ax)(I:Cb kp mk W0 0 S mp P w N pm [] X)(u:S.msg d.name=some d)(s:jX w P mp mb d.name gs)(r:rV S mp d gs)(i:d.name.size<=2000):
  S9 48 #[ag kp,ag mb] w fun e w'=>∃p N' Tr,e= .returned (ag p)/\Tr d.name=some p/\uO kp mk 0 S mp w' N' Tr [] X/\(∀t p,pm t=some p->Tr t=some p)/\dY [mk,kp] w w':=by
 have h:=I.ok.kb;have c:=I.ok.mutex (mu':=1) (by simp)
 have l:Cb kp mk W0 1 S mp P (w.setCell (ai kp 0) (.int .i32 1)) N pm [] X:=
  ⟨c,I.md.O fun b a _=>eO (fun e=>(I.hp b a).2.2 e.sy),by simpa using I.w0,by simp,I.xx,fun b a=>I.xn b (by simpa using a),I.hp,I.kl,I.ml⟩
 have q:=Nu kp mk W0 1 S mp P MK (nU S pm) (w.setCell (ai kp 0) (.int .i32 1)) N pm [] X mb d gs l (aD _) u (s.O fun b a _=>eO (fun e=>(I.hp b a).2.2 e.sy)) r i;have k:=Go.MuLone.lock_free Tryz.muLib (ai kp 0) w (h.cell 0) (h.I.2 0);have⟨A,B⟩:=h.I;have j:=c.kb;go_enter_defers Tryz.func48,Tryz.ntmps48
 go_wp2_with fail;refine k.V ?_;rintro e w1 ⟨rfl,rfl⟩;have⟨C,D⟩:=j.I;clear A B k;have x:=j.lt;go_wp2_with fail;have m:dY [mk,kp] w (w.setCell (ai kp 0) (.int .i32 1)):=(dY.refl _ _).set1 (by simp) 0 _;generalize w.setCell (ai kp 0) (.int .i32 1)=w1 at*;refine q.V ?_;rintro e w2 ⟨v,N',Tr,rfl,⟨p,rfl,y⟩,g,z,o⟩;have n:=g.kb;clear C D;have⟨E,F⟩:=n.I;go_wp2;refine leaves_cons (f:=87) (args:= #[ag kp]) (by simp) (by simp[go_sem]) ?_;refine(Go.MuLone.unlock_deferred Tryz.muLib (ai kp 0) .returning w2 (E 0) (F 0)).V ?_;rintro e H G ⟨rfl,rfl,rfl⟩;simp[Leaves,settle];refine⟨ag p,by simp[results,Tryz.results48],p,rfl,⟨N',Tr,y,g.mutex (by simp),z,?_⟩⟩;exact(m.J (o.V (by simp))).set1 (by simp) 0 _
end
end Go.Proofs.YtfebdimolnobaaaGreatDoor
namespace Go.Proofs.YtfebdimolnobaaaGreatDoor
open Go.RowKit Go.Proofs.Tryz
section
open Go.Maps
open Tq
section
variable {ks:aB} {K:(ax)->aw->Prop} {B:Nat}
def Dm (E B:Nat)(K:aw->Prop):Prop:=∀a b:aw,K a->a.heap.size<=b.heap.size->(∀x,(x<E\/B<=x)->x<a.heap.size->b.heap[x]?=a.heap[x]?)->K b
def qM (ks:aB)(K:(ax)->aw->Prop)(w:aw)(R:Fx PM)(e:Ending)(w':aw):Prop:=
 match R with
 | .error x=>e=dX x.1 x.2/\dY ks w w'/\K (λ_=>False) w'
 | .ok m=>∃v Z',e= .returned (.agg #[v,ae m.unk])/\lR 9 w' v m Z'/\(∀b,Z' b->w.heap.size<=b/\b<w'.heap.size)/\dY ks w w'/\K Z' w'
def lJ (ks:aB)(K:(ax)->aw->Prop)(w:aw)(R:Fx PM)(e:Ending)(w':aw):Prop:=
 match R with
 | .error x=>e= .returned (.tuple #[.agg #[ah,S8],aa x.1,aa x.2])/\dY ks w w'/\K (λ_=>False) w'
 | .ok m=>∃v Z',e= .returned (.tuple #[.agg #[v,ae m.unk],aa 0,aa 0])/\lR 9 w' v m Z'/\(∀b,Z' b->w.heap.size<=b/\b<w'.heap.size)/\dY ks w w'/\K Z' w'
theorem Ic {E:Nat}(a:∀x∈ks,x<E)(T:∀Z,Dm E B (K Z))(R:Fx PM)(w:aw)(hE:E<=w.heap.size)(hB:w.heap.size+3<=B)(c0 c1 c2 c3:Value)(h:∀w0,aj w w0->w0.heap.size=w.heap.size+3->S9 46 #[c0,c1,c2,c3] w0 (qM ks K w0 R)):
  S9 45 #[.func (Fn.func 46) #[] #[c0,c1,c2,c3]] w (lJ ks K w R):=by
 have TJ:= @yG;have O:=(Tb w).alloc (aD _) (ak #[ah,S8] 49);have p:=(O.alloc Tf (ak #[aa 0] 24)).alloc Tg (ak #[aa 0] 3);have S:=((dP.new w #[ah,S8] 49).alloc (ak #[aa 0] 24)).alloc (ak #[aa 0] 3);have P:=(dP.newAt (w:=w.alloc (ak #[ah,S8] 49)) (n:=w.heap.size+1) Tf #[aa 0] 24).alloc (ak #[aa 0] 3);have Q:=dP.newAt (w:=(w.alloc (ak #[ah,S8] 49)).alloc (ak #[aa 0] 24)) (n:=w.heap.size+1+1) Tf #[aa 0] 3;have HC:Hid (S9 46 #[c0,c1,c2,c3] _ (qM ks K _ R)):=h _ p Tf;have hsz:w.heap.size+3<=(((w.alloc (ak #[ah,S8] 49)).alloc (ak #[aa 0] 24)).alloc (ak #[aa 0] 3)).heap.size:=Tf;clear O h;go_enter_defers func45,ntmps45
 go_wp2_with fail;generalize(((w.alloc (ak #[ah,S8] 49)).alloc (ak #[aa 0] 24)).alloc (ak #[aa 0] 3))=w1 at*;refine HC.o.V ?_
 cases R with
 |error x=>
  rintro e w2 ⟨rfl,d,z⟩;have k:=P.kept d (λq=>by have:=a _ q;omega);have j:=Q.kept d (λq=>by have:=a _ q;omega);have l:=S.kept d (λq=>by have:=a _ q;omega);have r:=(dY.oB (bs:=ks) p).J d;have⟨V,W⟩:=k.I;have⟨X,Y⟩:=j.I;have z3:=j.lt;unfold dX;refine leaves_cons (f:=82) (args:= #[ag (w.heap.size+1),ag (w.heap.size+1+1)]) Tf (by simp[go_sem]) ?_;refine(Hx (w.heap.size+1) (w.heap.size+1+1) x.1 x.2 [] w2 _ _ (V 0) (X 0) (W 0) (Y 0) Te).V ?_;rintro e u' TP ⟨rfl,rfl,rfl⟩;have I:=(((k.set 0 (aa x.1)).other (c:=w.heap.size+1+1) 0 (aa x.2) Te).alloc (ak #[aa x.1,aa x.2] 142)).drew;have J:=(((j.other (c:=w.heap.size+1) 0 (aa x.1) Te).set 0 (aa x.2)).alloc (ak #[aa x.1,aa x.2] 142)).drew;have L:=(((l.other (c:=w.heap.size+1) 0 (aa x.1) Te).other (c:=w.heap.size+1+1) 0 (aa x.2) Te).alloc (ak #[aa x.1,aa x.2] 142)).drew;have s:dY ks w (((w2.setCell (ai (w.heap.size+1) 0) (aa x.1)).setCell (ai (w.heap.size+1+1) 0) (aa x.2)).alloc (ak #[aa x.1,aa x.2] 142)).drew:=(((r.freshP (bC _) 0 _).freshP Te 0 _).alloc _).drew;have t:K (λ_=>False) (((w2.setCell (ai (w.heap.size+1) 0) (aa x.1)).setCell (ai (w.heap.size+1+1) 0) (aa x.2)).alloc (ak #[aa x.1,aa x.2] 142)).drew:=T _ w2 _ z Tf λy hy hl=>(Below.l _ _ y (by simpa using hl)).J ((eO Te).J (eO Te))
  generalize(((w2.setCell (ai (w.heap.size+1) 0) (aa x.1)).setCell (ai (w.heap.size+1+1) 0) (aa x.2)).alloc (ak #[aa x.1,aa x.2] 142)).drew=w3 at*;have M:=I.cell 0;have N:=J.cell 0;have H:(loadVar 24 (ai (w.heap.size+1) 0)).run prog w3= .ok (aa x.1) w3:=by simp[go_sem,M]
  have l1:(loadVar 3 (ai (w.heap.size+1+1) 0)).run prog w3= .ok (aa x.2) w3:=by simp[go_sem,N]
  have u:=λb D F G=>Ac (fn:=f45) results45 b w3 D F G L underlying49 Tj H l1
  simp[Leaves,settle]
  exact⟨_,u _ rfl rfl rfl,rfl,s,t⟩
 |ok m=>
  rintro e w2 ⟨v,A,rfl,U,C,d,z⟩;obtain⟨g,i,rfl⟩:=U.form;have k:=P.kept d (λq=>by have:=a _ q;omega);have j:=Q.kept d (λq=>by have:=a _ q;omega);have l:=S.kept d (λq=>by have:=a _ q;omega);have r:=(dY.oB (bs:=ks) p).J d;have⟨V,W⟩:=k.I;have⟨X,Y⟩:=j.I;have⟨k5,k6⟩:=l.I;have z3:=j.lt;go_wp2;refine leaves_cons (f:=82) (args:= #[ag (w.heap.size+1),ag (w.heap.size+1+1)]) Tf (by simp[go_sem]) ?_;refine(Nq (ai (w.heap.size+1) 0) (ai (w.heap.size+1+1) 0) _).V ?_;rintro e u' TP ⟨rfl,rfl,rfl⟩;have I:=(((k.other (c:=w.heap.size) 0 (.slice g m.fs.length i) Te).other (c:=w.heap.size) 1 (ae m.unk) Te).set 0 (aa 0)).other (c:=w.heap.size+1+1) 0 (aa 0) Te;have J:=(((j.other (c:=w.heap.size) 0 (.slice g m.fs.length i) Te).other (c:=w.heap.size) 1 (ae m.unk) Te).other (c:=w.heap.size+1) 0 (aa 0) Te).set 0 (aa 0);have L:=(((l.set 0 (.slice g m.fs.length i)).set 1 (ae m.unk)).other (c:=w.heap.size+1) 0 (aa 0) Te).other (c:=w.heap.size+1+1) 0 (aa 0) Te;have s:dY ks w ((((w2.setCell (ai w.heap.size 0) (.slice g m.fs.length i)).setCell (ai w.heap.size 1) (ae m.unk)).setCell (ai (w.heap.size+1) 0) (aa 0)).setCell (ai (w.heap.size+1+1) 0) (aa 0)):=(((r.freshP (aD _) 0 _).freshP (aD _) 1 _).freshP (bC _) 0 _).freshP Te 0 _;have t:K A ((((w2.setCell (ai w.heap.size 0) (.slice g m.fs.length i)).setCell (ai w.heap.size 1) (ae m.unk)).setCell (ai (w.heap.size+1) 0) (aa 0)).setCell (ai (w.heap.size+1+1) 0) (aa 0)):=T _ w2 _ z Tf λy hy _=>(eO Te).J ((eO Te).J ((eO Te).J (eO Te)))
  have Tx:=U.O (w':=((((w2.setCell (ai w.heap.size 0) (.slice g m.fs.length i)).setCell (ai w.heap.size 1) (ae m.unk)).setCell (ai (w.heap.size+1) 0) (aa 0)).setCell (ai (w.heap.size+1+1) 0) (aa 0))) (λx o _=>by
   have:=(C x o).1
   rw[dM,dG Te,dM,dG Te,dM,dG Te,dM,dG Te])
  have TK:∀x,A x->w.heap.size<=x/\x<((((w2.setCell (ai w.heap.size 0) (.slice g m.fs.length i)).setCell (ai w.heap.size 1) (ae m.unk)).setCell (ai (w.heap.size+1) 0) (aa 0)).setCell (ai (w.heap.size+1+1) 0) (aa 0)).heap.size:=λx o=>⟨by have:=(C x o).1;omega,by simp only[cH];exact(C x o).2⟩
  generalize((((w2.setCell (ai w.heap.size 0) (.slice g m.fs.length i)).setCell (ai w.heap.size 1) (ae m.unk)).setCell (ai (w.heap.size+1) 0) (aa 0)).setCell (ai (w.heap.size+1+1) 0) (aa 0))=w3 at*;have M:=I.cell 0;have N:=J.cell 0;have H:(loadVar 24 (ai (w.heap.size+1) 0)).run prog w3= .ok (aa 0) w3:=by simp[go_sem,M]
  have l1:(loadVar 3 (ai (w.heap.size+1+1) 0)).run prog w3= .ok (aa 0) w3:=by simp[go_sem,N]
  have u:=λb D F G=>Ac (fn:=f45) results45 b w3 D F G L underlying49 Tj H l1
  simp[Leaves,settle];exact⟨_,u _ rfl rfl rfl,_,A,rfl,Tx,TK,s,t⟩
theorem Af (R:Fx PM)(w:aw)(c:∀x∈ks,x<w.heap.size)(u:∀Z,Dm w.heap.size B (K Z))(hB:w.heap.size+9=B)(H:K (λ_=>False) w)(sb:Nat)(v kv:Value)(bs:List dS)(y:List YM)(P:ax)(nm b:au)(way:Int)(h1:dP w sb #[v,kv] 92)(hM:gH w P v bs y)(n:y.length<=2001)(hw:way=1\/way=2)
  (F:(∀m∈y,(m.1.1.toList==nm.toList)=false)->R= .error (5,0))
  (h:∀(i:Nat) (m:YM) (w0:aw) (q0 q1 q2 q3:Nat),y[i]?=some m->(m.1.1.toList==nm.toList)=true->aj w w0->w0.heap.size+1=B->w.heap.size<=q0/\w.heap.size<=q1/\w.heap.size<=q2/\w.heap.size<=q3->w0.cell? (ai q0 0)=some (aa way)->w0.cell? (ai q1 0)=some (ag m.1.2)->w0.cell? (ai q2 0)=some (ae b)->w0.cell? (ai q3 0)=some (ag sb)->
   S9 46 #[ag q0,ag q1,ag q2,ag q3] w0 (qM ks K w0 R)):
  Calls prog 21 #[ag sb,aa way,ae nm,ae b] w (lJ ks K w R):=by
 have TJ:= @yG;have Y:∃w0,(((w.alloc (ak #[ag sb] 22)).alloc (ak #[aa way] 3)).alloc (ak #[ae b] 9)).alloc (ak #[ah,S8] 49)=w0:=⟨_,rfl⟩;obtain⟨w0,a⟩:=Y;have d:aj w w0:=by rw[<-a];exact((((Below.refl _ _).alloc (aD _) _).alloc Tf _).alloc Tg _).alloc Tg _
 have r:dP w0 w.heap.size #[ag sb] 22:=by rw[<-a];exact(((dP.new w _ _).alloc _).alloc _).alloc _
 have s:dP w0 (w.heap.size+1) #[aa way] 3:=by rw[<-a];exact((dP.newAt Tf _ _).alloc _).alloc _
 have p:dP w0 (w.heap.size+1+1) #[ae b] 9:=by rw[<-a];exact(dP.newAt Tf _ _).alloc _
 have g:dP w0 (w.heap.size+1+1+1) #[ah,S8] 49:=by rw[<-a];exact dP.newAt Tf _ _
 have O:=Ks w0 sb v kv bs y P nm way (h1.G d h1.lt) (hM.O λx _ n=>d.block x n) n hw;have⟨s1,s2⟩:=r.I;have⟨s3,s4⟩:=s.I;have⟨s5,s6⟩:=p.I;have⟨J,L⟩:=g.I;go_in
 go_wp2_with fail;refine O.V ?_;have D:Hid (w0.heap.size=w.heap.size+4):=by show _=_;rw[<-a];simp
 clear O a;rintro e w1 ⟨rfl,⟨i,m,T,V,rfl⟩|⟨Q,rfl⟩⟩
 .have o:aj w1 (w1.alloc (ak #[ag m.1.2] 105)):=(Below.refl _ _).alloc (aD _) _;have C:=dP.new w1 #[ag m.1.2] 105
  have M:Hid (∀w0,Below (w1.alloc (ak #[ag m.1.2] 105)).heap.size (w1.alloc (ak #[ag m.1.2] 105)) w0->w0.heap.size=(w1.alloc (ak #[ag m.1.2] 105)).heap.size+3->S9 46 #[ag (w.heap.size+1),ag w1.heap.size,ag (w.heap.size+1+1),ag w.heap.size] w0 (qM ks K w0 R)):=λw0 S I=>by
   have t:=dL o S;have hs1:=D.o;simp only[ca]at I;exact h i m w0 _ _ _ _ T V (dL d t) Te ⟨Te,Te,Te,aD _⟩ ((s.G t s.lt).cell 0) ((C.G S C.lt).cell 0) ((p.G t p.lt).cell 0) ((r.G t r.lt).cell 0)
  have N:=Ic c u R (w1.alloc (ak #[ag m.1.2] 105)) (by have:=D.o;simp;omega) (by have:=D.o;simp;omega) _ _ _ _ M.o;clear h T V M;go_wp2_with fail;have l:=g.alloc (ak #[ag m.1.2] 105);have f:aj w (w1.alloc (ak #[ag m.1.2] 105)):=dL d o;have zM:=g.lt;have z2:=o.size;clear s1 s2 s3 s4 s5 s6 J L r s p g C o;generalize w1.alloc (ak #[ag m.1.2] 105)=w2 at*;refine N.V ?_;clear N F
  cases R with
  |error x=>
   rintro e w3 ⟨rfl,j,E⟩;have k:=l.kept j (λq=>by have:=c _ q;omega);have A:=(dY.oB (bs:=ks) f).J j;have⟨J,L⟩:=k.I;go_wp2
   exact dJ (qJ results21 _ _ rfl ((k.set 0 _).set 1 _) underlying49 Tj) rfl ⟨rfl,(A.freshP Te 0 _).freshP Te 1 _,u _ w3 _ E Tf λy W _=>(eO Te).J (eO Te)⟩
  |ok X=>
   rintro e w3 ⟨v',Z',rfl,U,G,j,E⟩;obtain⟨va,vc,rfl⟩:=U.form;have k:=l.kept j (λq=>by have:=c _ q;omega);have A:=(dY.oB (bs:=ks) f).J j;have⟨J,L⟩:=k.I;go_wp2
   have Tx:=U.O (w':=(w3.setCell (ai (w.heap.size+1+1+1) 0) (.slice va X.fs.length vc)).setCell (ai (w.heap.size+1+1+1) 1) (ae X.unk)) (λx z _=>by
    have:=(G x z).1
    rw[dM,dG Te,dM,dG Te])
   exact dJ (qJ results21 _ _ rfl ((k.set 0 _).set 1 _) underlying49 Tj) rfl ⟨_,Z',rfl,Tx,λx z=>⟨by have:=(G x z).1;omega,by simp only[cH];exact(G x z).2⟩,
    (A.freshP Te 0 _).freshP Te 1 _,u _ w3 _ E Tf λy W _=>(eO Te).J (eO Te)⟩
 .obtain rfl:=F Q;have l:=g.alloc (ak #[.pointer none] 105);have f:=d.alloc d.size (ak #[.pointer none] 105);clear h F Q;have⟨r7,r8⟩:=l.I;go_wp2;exact dJ (qJ results21 _ _ rfl ((l.set 0 _).set 1 _) underlying49 Tj) rfl ⟨rfl,((dY.oB (bs:=ks) f).freshP Te 0 _).freshP Te 1 _,u _ w _ H (by have:=f.size;simp at this⊢;omega) λy W n=>(eO Te).J ((eO Te).J (f.block y n))⟩
theorem lH.part {w:aw}{R:Fx PM}{e:Ending}{w':aw}(h:lH w R e w'):(∃x,R= .error x/\e=dX x.1 x.2/\aj w w')\/∃m v Z',R= .ok m/\e= .returned (.agg #[v,ae m.unk])/\lR 9 w' v m Z'/\(∀b,Z' b->w.heap.size<=b/\b<w'.heap.size)/\aj w w':=by
 cases R with
 |error x=>exact .inl ⟨x,rfl,h.1,h.2⟩
 |ok m=>
  obtain⟨v,Z',h⟩:=h;exact .inr ⟨m,v,Z',rfl,h⟩
theorem Pr {E:Nat}(C:∀x∈ks,x<E)(L:∀Z,Dm E B (K Z))(R:Fx PM)(w:aw)(hE:E<=w.heap.size)(hB:w.heap.size+1=B)(q0 q1 q2 q3 mb sb kp:Nat)(v:Value)(b:au)(k:w.cell? (ai q0 0)=some (aa 2))(n:w.cell? (ai q1 0)=some (ag mb))(r:w.cell? (ai q2 0)=some (ae b))(s:w.cell? (ai q3 0)=some (ag sb))(F:dP w sb #[v,ag kp] 92)
  (z:q0∉ks/\q1∉ks/\q2∉ks/\q3∉ks/\sb∉ks)
  (h:∀w0,aj w w0->w0.heap.size=B->S9 48 #[ag kp,ag mb] w0 λe w1=>∃p,e= .returned (ag p)/\dY ks w0 w1/\(∀Z:ax,(∀b,Z b->w1.heap.size<=b)->K Z w1)/\S9 49 #[ag p,ae b] w1 (lH w1 R)):
  Calls prog 46 #[ag q0,ag q1,ag q2,ag q3] w (qM ks K w R):=by
 have⟨d,Q⟩:=eY w #[ah,S8] 49;have l0:q0<w.heap.size:=aZ _ _ k;have l1:q1<w.heap.size:=aZ _ _ n;have l2:q2<w.heap.size:=aZ _ _ r;have M:q3<w.heap.size:=aZ _ _ s;have d0:=(d.cell (p:=(ai q0 0)) l0).J k;have d1:=(d.cell (p:=(ai q1 0)) l1).J n;have d2:=(d.cell (p:=(ai q2 0)) l2).J r;have d3:=(d.cell (p:=(ai q3 0)) M).J s;have T:=F.G d F.lt;have P:Hid (S9 48 #[ag kp,ag mb] (w.alloc (ak #[ah,S8] 49)).drew λe w1=>∃p,e= .returned (ag p)/\dY ks (w.alloc (ak #[ah,S8] 49)).drew w1/\(∀Z:ax,(∀b,Z b->w1.heap.size<=b)->K Z w1)/\S9 49 #[ag p,ae b] w1 (lH w1 R)):=h _ d.drew (by simp[<-hB]);clear h;have hw1:w.heap.size<(w.alloc (ak #[ah,S8] 49)).heap.size/\(w.alloc (ak #[ah,S8] 49)).heap.size<=B:=Tg;go_in
 go_upto_region 3 with fail
 generalize w.alloc (ak #[ah,S8] 49)=w1 at*;have b1:=d.size;have A:∀x,x<w.heap.size->x∉ks->x∉w.heap.size::ks:=λx h1 h2 q=>(aR.1 q).elim (λe=>Te) h2
 have g:∀x∈ks,x∈w.heap.size::ks:=λx q=>by simp[q]
 have j:Hid (∀W:aw,dY (w.heap.size::ks) w1 W->W.cell? (ai q1 0)=some (ag mb)/\W.cell? (ai q2 0)=some (ae b)/\W.cell? (ai q3 0)=some (ag sb)/\W.cell? (ai sb 1)=some (ag kp)):=λW u=>
  ⟨(bz (a:=(ai q1 0)) (u.block q1 Te (A q1 l1 z.2.1))).J d1,(bz (a:=(ai q2 0)) (u.block q2 Te (A q2 l2 z.2.2.1))).J d2,(bz (a:=(ai q3 0)) (u.block q3 Te (A q3 M z.2.2.2.1))).J d3,(T.kept u (A sb F.lt z.2.2.2.2)).cell 1⟩
 have U:w.heap.size∉ks:=λq=>by have:=C _ q;omega
 have e0:=j.o w1.drew (dY.refl _ w1).drew
 go_region_held2 (λW=>W.cell? (ai q1 0)=some (ag mb)/\W.cell? (ai q2 0)=some (ae b)/\W.cell? (ai q3 0)=some (ag sb)/\W.cell? (ai sb 1)=some (ag kp))
  (first|exact j.o _ V|exact j.o _ G|exact j.o _ (o.V g)|exact j.o _ (l.V g)|exact e0)
  (first
   |(
     go_at_call 48;refine P.o.V ?_;rintro e w2 ⟨p,rfl,S,I,X⟩
     have l:=dY.ofDrew S)
   |(
     go_at_call 49;refine X.V ?_;intro e w3 Y;rcases lH.part Y with⟨x,rfl,rfl,f⟩|⟨m,v',Z',rfl,rfl,J,t,f⟩;.unfold dX;go_wp2;exact⟨rfl,rfl,(dY.oB d).J (l.J (dY.oB f)),L _ w2 w3 (I _ λ_ q=>q.elim) f.size λy _ D=>f.block y D⟩
     obtain⟨N,O,rfl⟩:=J.form;have o:=l.J (dY.oB f);have H:=Q.kept o U;have⟨k5,k6⟩:=H.I;have G:=(o.V g).set1 (c:=w.heap.size) Tf 0 (.slice N m.fs.length O)
     have V:=G.set1 (c:=w.heap.size) Tf 1 (ae m.unk)))
 all_goals
  go_wp2;have hz2:=l.size
  have Tx:=J.O (w':=(w3.setCell (ai w.heap.size 0) (.slice N m.fs.length O)).setCell (ai w.heap.size 1) (ae m.unk)) (λx i _=>by
   have:=(t x i).1
   rw[dM,dG Te,dM,dG Te])
  refine dJ (dW results46 _ _ rfl ((H.set 0 _).set 1 _) underlying49 Tj) rfl ⟨_,Z',rfl,Tx,λx i=>⟨by have:=(t x i).1;omega,by simp only[cH];exact(t x i).2⟩,?_,?_⟩;.exact(((dY.oB d).J o).freshP (aD _) 0 _).freshP (aD _) 1 _
  .refine L _ w2 _ (I _ λx i=>(t x i).1) (by have:=f.size;simpa using this) λy hy D=>(eO Te).J ((eO Te).J (f.block y D))
end
end
section
variable {w w':aw} {P:ax} {v:Value} {bs:List dS} {y:List YM} {nm:au} {R:Fx PM} {e:Ending}
theorem Ag (a:gH w P v bs y)(h:mJ bs):y.length<=2001:=by
 have e:y.length=(dZ bs).length:=by rw[<-a.names];simp
 rw[e,iM,bm];exact aL (bZ _ _) h.ok.few
theorem Lg (c:gH w P v bs y)(h:mJ bs){i:Nat}{m:YM}(n:y[i]?=some m)(t:(m.1.1.toList==nm.toList)=true):
  ∃d gs,(eM bs).msg nm=some d/\jX w (λb=>b<w.heap.size) (nM (y.map (·.1))) m.1.2 d.name gs/\rV (eM bs) (nM (y.map (·.1))) d gs/\kM (eM bs) d:=by
 have l:(y.map (·.1)).map (·.1)=dZ bs:=by rw[bI];exact c.names
 have e:m.1.1.toList=nm.toList:=by simpa using t
 have o:eC (dZ bs) nm=true:=(iH _ _).2 ⟨m.1.1,by rw[<-c.names];exact aV.2 ⟨m,aO n,rfl⟩,e⟩;have⟨_,b,_,_,k,_,_⟩:=pV h.ok l o;have⟨j,a,r,_,C,u,z,A,B⟩:=qK c h k;have f:((y.map (·.1)).map (·.1)).Pairwise (λx y=>x.toList≠y.toList):=(by rw[l,iM];exact List.Pairwise.sublist (List.Sublist.map _ dw) h.ok.names);have p:m.1.1=a.1.1:=ja (e.J u.sy);have g:=qB f (s:=m.1.1) (b:=m.1.2) (aV.2 ⟨m,aO n,rfl⟩);have q:=qB f (s:=a.1.1) (b:=a.1.2) (aV.2 ⟨a,aO r,rfl⟩);rw[p,q]at g;exact⟨_,a.2,k,by rw[<-Option.some.inj g];exact z,A,B⟩
theorem Dn (a:gH w P v bs y)(c:∀m∈y,(m.1.1.toList==nm.toList)=false):(eM bs).msg nm=none:=by
 have f:(y.map (·.1)).map (·.1)=dZ bs:=by rw[bI];exact a.names
 refine(wR f ?_).1
 cases hm:eC (dZ bs) nm with
 |false=>rfl
 |true=>
  have⟨x,b,d⟩:=(iH _ _).1 hm;rw[<-a.names]at b;obtain⟨m,e,rfl⟩:=aV.1 b;have:=c m e;rw[d]at this;simp at this
theorem lH.toK (h:lH w R e w'):qM [] (λ_ _=>True) w R e w':=by
 cases R with
 |error x=>exact⟨h.1,.oB h.2,trivial⟩
 |ok m=>
  obtain⟨v,a,b,c,d,f⟩:=h;exact⟨v,a,b,c,d,.oB f,trivial⟩
theorem lJ.toRet (h:lJ [] (λ_ _=>True) w R e w'):Gp w R e w':=by
 cases R with
 |error x=>exact⟨h.1,h.2.1.to_below (aD _) Tf⟩
 |ok m=>
  obtain⟨v,a,b,c,d,f,_⟩:=h;exact⟨v,a,b,c,d,f.to_below (aD _) Tf⟩
theorem Id (w:aw)(sb:Nat)(v kv:Value)(bs:List dS)(y:List YM)(P:ax)(nm b:au)(h1:dP w sb #[v,kv] 92)(a:gH w P v bs y)(h:mJ bs)(C:UOK w)(c:b.size<=268435456):
  S9 21 #[ag sb,aa 1,ae nm,ae b] w (Gp w (kO (eM bs) nm b)):=by
 refine(Af (ks:= []) (K:=λ_ _=>True) _ w Tf (λ_ _ _ _ _ _=>trivial) rfl trivial sb v kv bs y P nm b 1 h1 a (Ag a h) (.inl rfl) (λg=> ?_) (λi m H D E F G A B z _ _ k l n _=> ?_)).V λ_ _ q=>q.toRet
 .unfold kO;rw[Dn a g]
 .have⟨d,u,p,r,s,t⟩:=Lg a h A B;have o:=Ku a h C;refine(Pk _ H D E F G m.1.2 b k l n λw2 j=> ?_).V λ_ _ q=>q.toK
  have f:aj w w2:=dL z j;have e:kO (eM bs) nm b=fj (eM bs) b (b.size+1) d PM.none 0 b.size 1:=by unfold kO;rw[p]
  rw[e];exact EO (eM bs) (nM (y.map (·.1))) w.heap.size b (Nr h) c w2 d m.1.2 u d.name (o.on f) (r.O λx q _=>f.block x q) s t
end
section
open Tq
def vA (form:Int)(m:PM)(n:Int)(v:LV):PM:=if form=2 then m.put n (m.get n++ [qF v])else if form=0/\v.1=0/\gP v.2 eS=true then m.put n []else m.put n [qF v]
def Do (form:Int)(m:PM)(n:Int):Fx (LV×Nat)->Fx (PM×Nat)
 | .error x=> .error x
 | .ok x=> .ok (vA form m n x.1,x.2)
def Lh {form:Int}(h:form≠2)(m:PM)(n:Int)(r:Fx (LV×Nat)):Do form m n r=Nc (decide (form=0)) m n r:=by
 cases r with
 |error x=>rfl
 |ok x=>simp only[Do,Nc,vA,dG h,decide_eq_true_eq]
def Li {form:Int}(h:form=2)(m:PM)(n:Int)(r:Fx (LV×Nat)):Do form m n r=JV m n r:=by
 cases r with
 |error x=>rfl
 |ok x=>simp only[Do,JV,vA,dH h]
def Bn (form:Int)(args:aq)(w:aw):(callFunc (lw form) args).run prog w= .ok (.enter (lw form) args) w:=by
 unfold lw;split;.exact enters_of func193 Tj rfl args w
 .split;.exact enters_of func268 Tj rfl args w
  .exact enters_of func195 Tj rfl args w
def Dp (S:eE)(k:Nat)(d:MT)(form:Int)(w:aw)(Z:ax)(db:Nat)(m:PM)(n:Int)(v:LV)(h:el S (k+1) (some d) w Z db m)(a:ot S (some d) n .vals)(c:∀kd,ot S (some d) n kd->kd= .vals)(g:m.fs.length<1073741824)(i:(m.get n).length<1073741824)(j:∀b,Z b->b<w.heap.size):
  S9 (lw form) #[ag db,aa n,vR v] w (jN S k (some d) w Z db (vA form m n v)):=by
 by_cases h0:form=0
 .have e:lw form=193:=by unfold lw;rw[dH h0]
  have f:vA form m n v=if v.1=0/\gP v.2 eS=true then m.put n []else m.put n [qF v]:=by unfold vA;rw[dG Te];simp[h0]
  rw[e,f];exact FZ S k (some d) w Z db m n v h a (.inl c) g j
 .by_cases h2:form=2
  .have e:lw form=268:=by unfold lw;rw[dG h0,dH h2]
   have f:vA form m n v=m.put n (m.get n++ [qF v]):=by unfold vA;rw[dH h2]
   rw[e,f];exact xI S k (some d) w Z db m n v h a (.inl c) g i
  .have e:lw form=195:=by unfold lw;rw[dG h0,dG h2]
   have f:vA form m n v=m.put n [qF v]:=by unfold vA;rw[dG h2,dG (λq=>h0 q.1)]
   rw[e,f];exact AT S k (some d) w Z db m n v h a (.inl c) g
def OE (w:aw)(B:Nat)(S:eE)(mp:am)(k:Nat)(d:MT)(f:fB)(g:GF)(Z:ax)(rb db:Nat)(b:au)(e a z deep:Nat)(kind:Int)(m:PM)(v:Value)
  (I:oZ w B S mp k d Z rb db b e a z deep m) (p:Po w (λb=>b<B) mp g v) (u:FG S mp d f g) (j:g.form≠4) (n:S.base f.ty<=15) (y:ei d.fs f.num=some f):
  lI v [aa kind,ag rb,ag db] w (ij S k d w Z rb db (b.extract 0 e) deep (Do g.form m f.num (gr (b.extract 0 e) z (S.base f.ty)))):=by
 obtain⟨h,nb,i,r,rfl,G,H,c,t,l,o,q⟩:=p;refine⟨422,[_,_,_],rfl,enters_of func422 Tj rfl,?_⟩;show S9 422 #[aa kind,ag rb,ag db,ag h,ag nb,ag i] w _;rw[u.eq]at H t;rw[u.base]at t;have⟨P,_,_⟩:=kT u j n;have⟨C,D⟩:=oy y P;have j:(b.extract 0 e).size=e:=gB I.eb;have p:=I.wm.len;have j:=I.az;have j:=I.ze;have j:=I.eb;have j:=I.bs;have j:=I.rB;have F:=I.rZ;have n:=I.hZ;have j:rb<w.heap.size:=dP.lt I.hr;have M:el S (k+1) (some d) w.drew Z db m:=I.hd.O (λ_ _ _=>rfl);have A:d6 w.drew rb (b.extract 0 e) z deep:=I.hr;obtain⟨o,l,rfl,j,K⟩:=Kz (t.O (w':=w.drew) (λ_ _ _=>rfl)) rb (b.extract 0 e) z deep A Te Te Te (I.cx.u:UOK w.drew) (by have:=I.cx.u1;omega) (by have:=I.cx.u2;omega)
 have L:Hid (∀(w3:aw) (v:LV),el S (k+1) (some d) w3 Z db m->w.heap.size<=w3.heap.size->S9 (lw g.form) #[ag db,aa f.num,vR v] w3 (jN S k (some d) w3 Z db (vA g.form m f.num v))):=
  λw3 v Q T=>Dp S k d g.form w3 Z db m f.num v Q C D Te (by have:=p.2.2 f.num;omega) (λx q=>aI (n x q).2 T)
 have j:=Bn g.form;have N:Hid (∀x,Do g.form m f.num (.ok x)= .ok (vA g.form m f.num x.1,x.2)):=λ_=>rfl
 have O:Hid (∀x,Do g.form m f.num (.error x)= .error x):=λ_=>rfl
 obtain⟨R,J⟩:=Td (gr (b.extract 0 e) z (S.base f.ty));rw[J]at K⊢;clear J;generalize lw g.form=pf at*;generalize Do g.form m f.num=PR at*;unfold BY at G;have p:dP w.drew h #[.func (.func pf) #[] #[]] 480:=G;have r:dP w.drew nb #[aa f.num] 3:=H;have s:dP w.drew i #[.func (.func o) #[] l.toArray] 478:=c;go_enter func422,ntmps422;go_upto_region 0 with fail
 go_region_held2 (λW=>W.cell? (ai h 0)=some (.func (.func pf) #[] #[])/\W.cell? (ai nb 0)=some (aa f.num)/\W.cell? (ai i 0)=some (.func (.func o) #[] l.toArray))
  (first|exact t|exact Y|exact⟨p.cell 0,r.cell 0,s.cell 0⟩)
  (first
   |(
     refine K.V ?_;intro u w3 j;rcases j.part with⟨x,rfl,rfl,c⟩|⟨x,rfl,rfl,c,U⟩;.unfold dX;go_wp2;rw[O.o];exact⟨rfl,rfl,Z,(ez.oB (Below.refl _ _).drew).J (.oK c)⟩
     have Y:w3.cell? (ai h 0)=some (.func (.func pf) #[] #[])/\w3.cell? (ai nb 0)=some (aa f.num)/\w3.cell? (ai i 0)=some (.func (.func o) #[] l.toArray):=⟨(p.kept c Tg).cell 0,(r.kept c Tg).cell 0,(s.kept c Tg).cell 0⟩)
   |(
     refine(L.o w3 x.1 (ez.dr M c F) c.size).V ?_;rintro u E ⟨rfl,X,j,V⟩
     have t:E.cell? (ai h 0)=some (.func (.func pf) #[] #[])/\E.cell? (ai nb 0)=some (aa f.num)/\E.cell? (ai i 0)=some (.func (.func o) #[] l.toArray):=⟨((p.kept c Tg).step j (λq=>by have:=(n h q).1;omega)).cell 0,((r.kept c Tg).step j (λq=>by have:=(n nb q).1;omega)).cell 0,((s.kept c Tg).step j (λq=>by have:=(n i q).1;omega)).cell 0⟩))
 all_goals
  go_wp2;go_end0;rw[N.o];exact⟨rfl,X,((ez.oB (Below.refl _ _).drew).J (.oK c)).J (.oS j),V,dP.step U j F⟩
def nV (form:Int)(m:PM)(n:Int)(sm:PM):PM:=if form=2 then m.put n (m.get n++ [mV sm])else m.put n [mV sm]
def kE (form:Int)(m:PM)(n:Int):PM:=if form=2 then PM.none else((m.get n).headD PV.none).2.2
def xW (form:Int)(args:aq)(w:aw):(callFunc (jh form) args).run prog w= .ok (.enter (jh form) args) w:=by
 unfold jh;split;.exact enters_of func190 Tj rfl args w
 .exact enters_of func191 Tj rfl args w
def za {S:eE}{mp:am}{d:MT}{f:fB}{g:GF}{sub:MT}(r:FG S mp d f g)(a:ei d.fs f.num=some f)(t:CY S d f sub)(k:Nat)(w:aw)(Z:ax)(db:Nat)(m:PM)(h:el S (k+1+1) (some d) w Z db m)(u:m.fs.length<1073741823)(n:(m.get f.num).length<1073741824)(s:∀b,Z b->b<w.heap.size):
  S9 (jh g.form) #[ag db,aa f.num] w (td S (k+1) (some d) w Z db (some sub) (kE g.form m f.num) (nV g.form m f.num)):=by
 have⟨j,l,p⟩:=t.kind a;by_cases h2:g.form=2
 .have i:jh g.form=190:=by unfold jh;rw[dH h2]
  have c:kE g.form m f.num=PM.none:=by unfold kE;rw[dH h2]
  have e:nV g.form m f.num=λo=>m.put f.num (m.get f.num++ [mV o]):=funext λv=>by unfold nV;rw[dH h2]
  rw[i,c,e,<-p];exact nS S k (some d) w Z db m f.num (h.slot Te) j l (λ⟨x,y,i,c,e⟩=>by cases i;rw[a]at c;cases c;rw[r.rep,h2]at e;cases e) n (λq=>by have:=s _ q;omega)
 .have i:jh g.form=191:=by unfold jh;rw[dG h2]
  have c:kE g.form m f.num=((m.get f.num).headD PV.none).2.2:=by unfold kE;rw[dG h2]
  have e:nV g.form m f.num=λo=>m.put f.num [mV o]:=funext λv=>by unfold nV;rw[dG h2]
  rw[i,c,e,<-p];exact xy S k (some d) w Z db m f.num h j l ⟨d,f,rfl,a,by rw[r.rep];simp[h2]⟩ u s
def Q4 (w:aw)(B:Nat)(S:eE)(mp pm:am)(k:Nat)(d:MT)(f:fB)(g:GF)(Z:ax)(rb db:Nat)(b:au)(e a z deep F:Nat)(kind:Int)(m:PM)(sub:MT)(v:Value)
  (I:oZ w B S mp k d Z rb db b e a z deep m) (D:Bi w (λb=>b<B) S mp pm) (hv:Pp w (λb=>b<B) mp pm g v) (u:FG S mp d f g) (A:ei d.fs f.num=some f) (hS:D9 S) (r:CY S d f sub) (hkd:k+deep=8) (hRd:KL S mp pm B b F) (hF:e-z<=F):
  lI v [aa kind,ag rb,ag db] w (ij S k d w Z rb db (b.extract 0 e) deep (xJ S b F sub (kE g.form m f.num) deep (nV g.form m f.num) (nN (b.extract 0 e) z deep (kA mp g)))):=by
 obtain⟨O,P,Q,T,E,rfl,h1,K,h3,h4,TT,q1,q2,q3,q4⟩:=hv;refine⟨419,[_,_,_,_],rfl,enters_of func419 Tj rfl,?_⟩;show S9 419 #[aa kind,ag rb,ag db,ag O,ag P,ag Q,ag T] w _;have TX:g.form≠4:=λq=>by have:=r.hm;rw[u.map,q]at this;cases this
 have⟨TI,TU,TV,Ud⟩:=tg (deep:=deep) u hS r.hs Te;rw[u.eq]at h4 TT;have TB:S.msg f.ty=some sub:=by have:=r.hs;unfold fS at this;rw[r.hm]at this;exact this
 have⟨TJ,gs,TW,Ue,Uf⟩:=D _ _ TT;obtain rfl:sub=TJ:=by rw[TB]at TW;exact Option.some.inj TW
 have TY:(b.extract 0 e).size=e:=gB I.eb;have hab:=I.az;have hze:=I.ze;have TZ:=I.eb;have hbs:=I.bs;have hrb:=I.rB;have TN:=I.rZ;have J:=I.hZ;have T0:=I.cx.le;have T4:rb<w.heap.size:=dP.lt I.hr;have V:=qD w.drew rb (b.extract 0 e) z deep (kA mp g) (I.hr:d6 w.drew rb (b.extract 0 e) z deep) Te Te Te TU TV;obtain⟨n,Tu⟩:=Td (kA mp g);rw[Tu]at K V⊢
 have TO:Hid (∀y:Nat×Nat,nN (b.extract 0 e) z deep n= .ok y->z<y.1/\y.1<=y.2/\y.2<=e/\1<=k/\(b.extract 0 e).extract 0 y.2=b.extract 0 y.2):=λy hy=>by
  have⟨q1,q2⟩:=vZ hy;have⟨U,G,s⟩:=iS (z:=y.1) (e:=y.2) q1;rw[TY]at s;have hlv:1<=n:=(by rw[<-Tu];unfold kA;rw[dG (λq=>TX q.1),dH Ud];exact Int.le_refl _);exact⟨U,G,s,Te,kz TZ s⟩
 clear Tu TU TV TI;obtain⟨R,hR⟩:=Td (nN (b.extract 0 e) z deep n);rw[hR]at V TO⊢;clear hR;have hlen:=I.wm.len
 have TP:WM S a sub (kE g.form m f.num):=by
  unfold kE;split;.exact WM.none S a sub
  .rename_i K;have:=(jB I.wm A r.hs).2;unfold eP at this;rw[r.hm,u.rep]at this;simpa [K]using this
 have HP:Hid (∀c,k=c+1->∀(w3:aw),el S (k+1) (some d) w3 Z db m->w.heap.size<=w3.heap.size->S9 (jh g.form) #[ag db,aa f.num] w3 (td S k (some d) w3 Z db (some sub) (kE g.form m f.num) (nV g.form m f.num))):=(by rintro c rfl w3 Y Ug;exact za u A r c w3 Z db m Y Te (by have:=hlen.2.2 f.num;omega) (λx q=>aI (J x q).2 Ug))
 have T5:Hid (∀c,k=c+1->∀(j:aw) (C:ax) (y:Nat×Nat) (nb p:Nat),Below B w j->z<y.1->y.1<=y.2->y.2<=e->d6 j nb (b.extract 0 y.2) y.1 ((deep:Int)+1)->el S k (some sub) j C p (kE g.form m f.num)->(∀x,C x->B<=x/\x<j.heap.size)->B<=nb->¬C nb->
   S9 89 #[ag E,ag nb,ag p] j (ij S c sub j C nb p (b.extract 0 y.2) (deep+1) (pu y.2 (fj S b F sub (kE g.form m f.num) y.1 y.2 (deep+1))))):=by
  rintro c rfl j C y nb p TK U G s Uh TL hC Ui TH;exact hRd j C sub _ y.1 y.2 (deep+1) c E gs nb p (I.cx.on TK) (D.O (λx q _=>TK.block x q)) (Ue.O (λx q _=>TK.block x q) (λ_ _ q=>q)) Uf (hS.good.sub r.hs) (by rw[Int.natCast_succ];exact Uh) TL hC Ui TH G Te Te Te (TP.V Te)
 have ep:=xW g.form;have T6:el S (k+1) (some d) w.drew Z db m:=I.hd.O (λ_ _ _=>rfl);clear TP hlen;generalize kE g.form m f.num=m0 at*;generalize nV g.form m f.num=M at*;generalize jh g.form=pf at*;unfold BY at h3;have T7:dP w.drew O #[ag E] 116:=h1;have T8:dP w.drew P #[aa n] 3:=K;have T9:dP w.drew Q #[.func (.func pf) #[] #[]] 477:=h3;have Ua:dP w.drew T #[aa f.num] 3:=h4
 have H:Hid (∀W:aw,Below B w.drew W->W.cell? (ai O 0)=some (ag E)/\W.cell? (ai P 0)=some (aa n)/\W.cell? (ai Q 0)=some (.func (.func pf) #[] #[])/\W.cell? (ai T 0)=some (aa f.num)):=λW N=>
  ⟨(T7.G N q1).cell 0,(T8.G N q2).cell 0,(T9.G N q3).cell 0,(Ua.G N q4).cell 0⟩
 have Tv:Hid (∀y:Nat×Nat,xJ S b F sub m0 deep M (.ok y)=JY M y.2 (fj S b F sub m0 y.1 y.2 (deep+1))):=λ_=>rfl
 have b0:Below B w w.drew:=(Below.refl _ _).drew;have TQ:ez w Z rb w.drew Z:= .oB (Below.refl _ _).drew;go_enter func419,ntmps419;go_upto_region 0 with fail
 go_region_held2 (λW=>W.cell? (ai O 0)=some (ag E)/\W.cell? (ai P 0)=some (aa n)/\W.cell? (ai Q 0)=some (.func (.func pf) #[] #[])/\W.cell? (ai T 0)=some (aa f.num))
  (first|exact H.o _ b5|exact H.o _ b4|exact H.o _ b3|exact H.o _ (Below.refl _ _))
  (first
   |(
     go_at_call 185;refine V.V ?_;intro en w3 hq;rcases hq.part with⟨x,rfl,rfl,l⟩|⟨y,nb,rfl,rfl,l,Uj,Uk,Ty,TM⟩;.unfold dX;go_wp2;exact⟨rfl,rfl,Z,TQ.J (.oK l)⟩
     have⟨U,G,s,v3,v4⟩:=TO.o y rfl;obtain⟨c,rfl⟩:∃c,k=c+1:=⟨k-1,Te⟩;have X:=TQ.J (.oK l);have Y:=ez.dr T6 l TN;have Ub:w.heap.size<=w3.heap.size:=l.size;have hnb1:w.heap.size<=nb:=Uj;have Tw:nb<w3.heap.size:=dP.lt Ty;have TF:¬Z nb:=λq=>by have:=(J nb q).2;omega
     have b3:Below B w.drew w3:=⟨l.os,l.tape,l.output,l.size,λi hi=>l.block i (aI hi T0) Tg⟩
     have Tx:d6 w3 nb (b.extract 0 y.2) y.1 ((deep:Int)+1):=by rw[<-v4];exact Ty)
   |(
     go_at_call 89;refine(T5.o c rfl j C y nb p (b0.J b4) U G s TG TL (λx q=>⟨TR x (o.1 x q),Un x q⟩) Te TH).V ?_;intro en w5 Ul;rcases Ul.part with⟨x,L,rfl,Z5,t⟩|⟨sm,L,rfl,Z5,t,Um⟩;.unfold dX;go_wp2;rw[Tv.o y,L];exact⟨rfl,rfl,_,th X Te h o.1 t⟩
     have b5:Below B w.drew w5:=b4.J (t.G (by have:=h.size;omega) (λx q=>TR x (o.1 x q)) Te);have Uc:Hid (fj S b F sub m0 y.1 y.2 (deep+1)= .ok sm):=L
     clear L)
   |(
     refine(HP.o c rfl w3 Y Ub).V ?_;rintro en j ⟨p,Z4,C,rfl,h,TL,o,Un⟩;have TR:∀x,Z4 x->B<=x:=λx q=>(h.grow x q).elim (λe=>(J x e).1) (λe=>Te)
     have TG:d6 j nb (b.extract 0 y.2) y.1 ((deep:Int)+1):=dP.step Tx h TF;have b4:Below B w.drew j:=b3.J ⟨h.os,h.tape,h.output,h.size,λi hi=>h.block i Te (λq=>by have:=(J i q).1;omega)⟩
     have TH:¬C nb:=λq=>h.not Tw TF (o.1 nb q)))
 all_goals
  go_wp2;go_end0;rw[Tv.o y,Uc.o];exact⟨rfl,_,th X Te h o.1 t,CZ X T4 TN Tw TF Uk TM h o t Um⟩
def Gt (kind kd:Int)(pk:Bool):Bool:=decide (kind=kd)||(decide (kind=2)&&pk)
def Pw (w:aw)(g i:Nat)(kind kd:Int)(pk:Bool)(h1:w.cell? (ai g (i+1))=some (aa kd))(c:w.cell? (ai g (i+2))=some (.bool pk)):
  Calls prog 142 #[.pointer (some (ai g i)),aa kind] w λe w'=>e= .returned (.bool (Gt kind kd pk))/\aj w w':=by
 unfold Gt;by_cases e1:kind=kd
 .have a:(kind==kd)=true:=by simp[e1]
  simp only[e1,decide_true,cF];rw[e1]at a;subst e1;go_in
  go_wp2;go_ret;exact⟨rfl,Below.refl _ _⟩
 .have a:(kind==kd)=false:=by simp[e1]
  simp only[e1,decide_false,cC];by_cases e2:kind=2
  .have b:(kind==2)=true:=by simp[e2]
   simp only[e2,decide_true,Bool.true_and];subst e2;go_in
   go_wp2;go_ret;exact⟨rfl,Below.refl _ _⟩
  .have b:(kind==2)=false:=by simp[e2]
   simp only[e2,decide_false,dh];go_in
   go_wp2;go_ret;exact⟨rfl,Below.refl _ _⟩
end
def Lt (w:aw)(R:Fx PM)(e:Ending)(w':aw):Prop:=
 match R with
 | .error x=>e= .returned (.tuple #[.agg #[ah,S8],aa x.1,aa x.2])/\aj w w'
 | .ok m=>∃v Z,e= .returned (.tuple #[.agg #[v,ae m.unk],aa 0,aa 0])/\gQ 9 w' Z v m/\aj w w'
def um {fn:Func}{p q r:Tmp}{ty:TypeId}{b:Nat}{cs:aq}{fs:Array Field}(h:fn.results= #[.cell p ty,.tmp q,.tmp r])(tmps:aq)(W:aw)(e:tmps.getD p undef=ag b)(K:dP W b cs ty)
  (f:prog.underlying ty=some (.struct fs)) (c:(prog.info? ty).map (·.size)=some cs.size):
  (results fn tmps).run prog W= .ok (.tuple #[.agg cs,tmps.getD q undef,tmps.getD r undef]) W:=by
 have d:=run_loadVar_row (P:=prog) W b ty ty cs (0,0) _ K f rfl c;have a:tmps[p]?.getD undef=ag b:=by simpa using e
 simp only[results,h];simp[a,asAddr,d]
def ye {w:aw}{xb:Nat}{b:au}{e p:Int}(h:kr w xb b e p):w.cell? (ai xb 0)=some (ae b)/\w.cell? (ai xb 1)=some (aa e)/\w.cell? (ai xb 2)=some (aa p):=⟨h.cell 0,h.cell 1,h.cell 2⟩
section
variable (w:aw) (P:ax) (sb:Nat) (S:eE) (nm b:au)
def Lu (HS:iE w P sb S)(hP:∀b,w.heap.size<=b->P b)(hE:Bo S)(hle:S.es.length<=4000)(hlm:S.ms.length<=4000)(hS:uC S)(hD:∀d∈S.ms,d.fs.length<=4000/\gP d.name eS=false)(hsz:b.size<=268435456):
  Calls prog 93 #[ag sb,ae nm,ae b] w (Lt w (kO S nm b)):=by
 have⟨o,k⟩:=eY w #[ah,S8] 49;have r:=EY (w.alloc (ak #[ah,S8] 49)) P sb S nm (HS.G o) hlm;have O:=HS.G o;have h0:w.heap.size<(w.alloc (ak #[ah,S8] 49)).heap.size:=k.lt
 cases hm:S.msg nm with
 |none=>
  have t:kO S nm b= .error (5,0):=by unfold kO;rw[hm]
  rw[t];rw[hm]at r;go_in
  go_wp2_with fail;generalize w.alloc (ak #[ah,S8] 49)=w0 at*;refine r.V ?_;rintro e w1 ⟨rfl,i⟩;have l:=(k.G i k.lt).alloc (ak #[S8,ah] 111);have⟨B,C⟩:=l.I;go_wp2
  exact dJ (um results93 _ _ rfl ((l.set 0 _).set 1 _) underlying49 Tj) rfl ⟨rfl,(((dL o i).alloc (by have:=i.size;omega) _).setCell (p:=(ai w.heap.size 0)) (aD _) _).setCell (p:=(ai w.heap.size 1)) (aD _) _⟩
 |some d=>
  have X:=jV hm;have⟨TD,T⟩:=hD d X;have Ts:ng S d 1=false:=by unfold ng;rw[T];rfl
  obtain⟨R,t⟩:=Td (kO S nm b);have HR:Hid (pz S b (b.size+1) d PM.none 0 b.size 1=R):=(by show _=R;rw[<-t];unfold kO pz;rw[hm,Ts];rfl);rw[t];clear t;rw[hm]at r;go_in
  go_wp2_with fail;generalize w.alloc (ak #[ah,S8] 49)=w0 at*;refine r.V ?_;rintro e w1 ⟨fv,rfl,U,i⟩;obtain⟨a,g,rfl⟩:=U.form;have J:=dL o i;have l:=k.G i k.lt;have h1:=J.size;have TA:=O.G i;clear r O o k h0 i;have N:=(dP.new w1 #[ae d.name,.slice a d.fs.length g] 111).alloc (ak #[ae b,aa 0,aa 0] 279);have s:=dP.new1 w1 (ak #[ae d.name,.slice a d.fs.length g] 111) #[ae b,aa 0,aa 0] 279;have z:aj w1 ((w1.alloc (ak #[ae d.name,.slice a d.fs.length g] 111)).alloc (ak #[ae b,aa 0,aa 0] 279)):=((Below.refl _ _).alloc (aD _) _).alloc Tf _;have Tt:((w1.alloc (ak #[ae d.name,.slice a d.fs.length g] 111)).alloc (ak #[ae b,aa 0,aa 0] 279)).heap.size=w1.heap.size+1+1:=Tf;have L:Hid (S9 149 #[ag (w1.heap.size+1),ag sb,.agg #[ae d.name,.slice a d.fs.length g],.agg #[ah,S8],aa 0,aa b.size,aa 1] ((w1.alloc (ak #[ae d.name,.slice a d.fs.length g] 111)).alloc (ak #[ae b,aa 0,aa 0] 279)) (oA ((w1.alloc (ak #[ae d.name,.slice a d.fs.length g] 111)).alloc (ak #[ae b,aa 0,aa 0] 279)) (w1.heap.size+1) b 9 (λx=>w1.heap.size+1+1<=x) R)):=(by rw[<-HR.o];exact Iq (w1.heap.size+1) sb b P S hE hle hlm hS hD hsz (b.size+1) _ 0 (λx=>w1.heap.size+1+1<=x) d PM.none 0 b.size 1 8 (.slice a d.fs.length g) (ah) s (TA.G z) (λx j=>hP x Te) (U.G z) TD (λq=>by rw[T]at q;cases q) (λf hf=>hS.key d X f hf) (gQ.none 8 _ _) (λx j=>Te) Te (aM _) (aD _) Te rfl (WM.none S 0 d));have D:=l.G z l.lt;have K:=dL J z;have h3:w.heap.size<w1.heap.size:=l.lt;go_wp2_with fail;have⟨B,C⟩:=N.I;clear Tt;generalize(w1.alloc (ak #[ae d.name,.slice a d.fs.length g] 111)).alloc (ak #[ae b,aa 0,aa 0] 279)=w3 at*;refine L.o.V ?_;intro e h Y;clear L B C N;rcases R with⟨c,p⟩|m
  .obtain⟨⟨F,I,G,u4,rfl⟩,TE,hc,H⟩:=Y;have M:=(D.kept H Tg).alloc (ak #[.slice F I G,ae u4] 49);have n:dP _ _ _ _:=dP.alloc TE (ak #[.slice F I G,ae u4] 49);have y:aj w (h.alloc (ak #[.slice F I G,ae u4] 49)):=(((dY.oB K).J H).alloc _).to_below (aD _) (λx j=>by simp at j;omega);have⟨B,C⟩:=n.I;have⟨k3,H⟩:=M.I;go_wp2
   go_region_held2 (λW=>W.cell? (ai (w1.heap.size+1) 1)=some (aa c)/\W.cell? (ai (w1.heap.size+1) 2)=some (aa p))
    (first|exact(ye (b:=b) n).2|exact(ye (b:=b) (dP.other (dP.other n (c:=w.heap.size) 0 _ Te) (c:=w.heap.size) 1 _ Te)).2|exact(ye (b:=b) (dP.other n (c:=w.heap.size) 0 _ Te)).2) (fail)
   go_wp2;exact dJ (um results93 _ _ rfl ((M.set 0 _).set 1 _) underlying49 Tj) rfl ⟨rfl,(y.drew.setCell (p:=(ai w.heap.size 0)) (aD _) _).setCell (p:=(ai w.heap.size 1)) (aD _) _⟩
  .obtain⟨mv,rfl,V,A⟩:=Y;obtain⟨u,v,rfl⟩:=V.form;have E:=D.G A D.lt;have n:dP _ _ _ _:=dP.alloc (dP.G s A (dP.lt s)) (ak #[.slice u m.fs.length v,ae m.unk] 49);have TB:=dP.new h #[.slice u m.fs.length v,ae m.unk] 49;have Z:=dL K A;have hz4:w.heap.size<h.heap.size:=E.lt;have⟨B,C⟩:=n.I;have⟨k5,k6⟩:=TB.I;have⟨k7,k8⟩:=E.I;have KXl:w1.heap.size+1<h.heap.size:=dP.lt (dP.G s A (dP.lt s));have y1:¬w.heap.size=h.heap.size:=Te;have y2:¬h.heap.size=w.heap.size:=Te;have y3:¬w1.heap.size+1=h.heap.size:=Te;have y4:¬h.heap.size=w1.heap.size+1:=Te;go_wp2;have Q:∀x,w1.heap.size+1+1<=x->x≠w.heap.size:=λx j=>Te
   have TC:gQ 9 ((h.setCell (ai w.heap.size 0) (.slice u m.fs.length v)).setCell (ai w.heap.size 1) (ae m.unk)) (λx=>w1.heap.size+1+1<=x) (.slice u m.fs.length v) m:=V.O (λx j _=>(Below.heap_setCell _ _ _ _ (Q x j)).J (Below.heap_setCell _ _ _ _ (Q x j)));have y:=(Z.setCell (p:=(ai w.heap.size 0)) (aD _) (.slice u m.fs.length v)).setCell (p:=(ai w.heap.size 1)) (aD _) (ae m.unk);exact dJ (um results93 _ _ rfl (((E.set 0 _).set 1 _).alloc _) underlying49 Tj) rfl ⟨_,_,rfl,TC.G ((Below.refl _ _).alloc (aD _) _) (aD _),y.alloc y.size _⟩
end
structure Mm (ws:List W)(B:Nat):Prop where
 mon:∀(i j:Nat) (x y:W),i<=j->ws[i]?=some x->ws[j]?=some y->x.2<=y.2
 top:∀(i:Nat) (x:W),ws[i]?=some x->x.2<=B
 num:∀(k:Nat) (x:W),ws[k]?=some x->dN x.1=2->oG x.1
def Pl (ws:List W)(B i:Nat):Nat:=match ws[i]? with|some x=>x.2|none=>B
section
variable {ws:List W} {B:Nat}
def An {i:Nat}{x:W}(h:ws[i]?=some x):Pl ws B i=x.2:=by unfold Pl;rw[h]
def ly (H:Mm ws B){i j:Nat}(h:i<=j):Pl ws B i<=Pl ws B j:=by
 unfold Pl
 cases hi:ws[i]? with
 |none=>
  have:ws[j]?=none:=(by rw[List.getElem?_eq_none_iff]at hi⊢;omega);rw[this]
  exact aD _
 |some x=>
  cases hj:ws[j]? with
  |none=>exact H.top i x hi
  |some y=>exact H.mon i j x y h hi hj
def BM (H:Mm ws B){i j:Nat}{v:W×W}(h:jx ws i= .ok (v,j)):gu (Pl ws B i) (GU v) (Pl ws B j)/\oG v.2.1/\i<=j:=by
 unfold jx at h;obtain⟨n,p,e,h⟩:=dQ h;obtain⟨_,b,f,h⟩:=dQ h;obtain⟨m,q,g,h⟩:=dQ h;obtain⟨_,c,k,h⟩:=dQ h;have d:=gJ _ _ _ _ _ e;have l:=(eA _ _ _ _ _ f).1;have a:=gJ _ _ _ _ _ g;have o:=(eA _ _ _ _ _ k).1;simp at h;obtain⟨rfl,rfl⟩:=h;have r:=An (B:=B) d.2.1;have s:=An (B:=B) a.2.1;have l1:=ly H (show i<=b by omega);have l2:=ly H (show b<=c by omega);refine⟨⟨?_,?_,?_⟩,H.num _ _ a.2.1 a.2.2,Te⟩;.show Pl ws B i<=n.2;omega
 .show n.2<=m.2;omega
 .show m.2<=Pl ws B c;omega
def BN (H:Mm ws B){i j:Nat}{x:W}(h:lN ws i= .ok (x,j)):gu (Pl ws B i) [x.2] (Pl ws B j)/\j=i+1:=by
 have a:=ke _ _ _ _ h;have b:=An (B:=B) a.2.1;have l:=ly H (show i<=j by omega);exact⟨⟨Te,by show x.2<=_;omega⟩,a.1⟩
def oH (H:Mm ws B){i j:Nat}{form:Int}(a:(form==4)=false){f:ek}(h:fF ws form i= .ok (f,j)):gu (Pl ws B i) (vD f) (Pl ws B j)/\uX f:=by
 unfold fF at h;obtain⟨x,g,b,h⟩:=dQ h;obtain⟨nm,k,c,h⟩:=dQ h;simp at h;obtain⟨rfl,rfl⟩:=h;obtain⟨e,d,_⟩:=BM H c;exact⟨(BN H b).1.app e,.inl ⟨rfl,a⟩,d⟩
def N3 (H:Mm ws B){i j:Nat}{f:ek}(h:lS ws i= .ok (f,j)):gu (Pl ws B i) (vD f) (Pl ws B j)/\uX f:=by
 unfold lS at h;obtain⟨_,D,a,h⟩:=dQ h;obtain⟨_,m,b,h⟩:=dQ h;obtain⟨k,n,c,h⟩:=dQ h;obtain⟨_,o,d,h⟩:=dQ h;obtain⟨x,p,e,h⟩:=dQ h;obtain⟨_,q,g,h⟩:=dQ h;obtain⟨nm,E,l,h⟩:=dQ h;simp at h;obtain⟨rfl,rfl⟩:=h;have y:=(eA _ _ _ _ _ a).1;have z:=(eA _ _ _ _ _ b).1;have A:=(eA _ _ _ _ _ d).1;have C:=(eA _ _ _ _ _ g).1;obtain⟨w,t,_⟩:=BM H l;have v:=(BN H e).1;have u:=(BN H c).1;have l2:=ly H (show i<=m by omega);have r:=ly H (show n<=o by omega);have s:=ly H (show p<=q by omega);refine⟨?_,.inr ⟨k,rfl,rfl⟩,t⟩;exact((u.low l2).app (v.low r)).app (w.low s)
def tC {α:Type}{stop:Nat->Bool}{p:Nat->mX α}{pl:α->aB}{Q:α->Prop}(e:∀i a j,p i= .ok (a,j)->gu (Pl ws B i) (pl a) (Pl ws B j)/\Q a):
  ∀(n i:Nat) (l:List α) (j:Nat),fC stop p n i= .ok (l,j)->gu (Pl ws B i) (l.flatMap pl) (Pl ws B j)/\∀a∈l,Q a
 |0,i,l,j,h=>by
  simp[fC]at h;obtain⟨rfl,rfl⟩:=h
  exact⟨aD _,λa c=>by simp at c⟩
 |n+1,i,l,j,h=>by
  unfold fC at h;split at h;.simp at h;obtain⟨rfl,rfl⟩:=h;exact⟨aD _,λa c=>by simp at c⟩
  .obtain⟨a,k,f,h⟩:=dQ h;obtain⟨l2,m,g,h⟩:=dQ h;simp at h;obtain⟨rfl,rfl⟩:=h;obtain⟨r,o⟩:=e _ _ _ f;obtain⟨s,q⟩:=tC e n k l2 m g;rw[aW];refine⟨r.app s,λb d=> ?_⟩;rcases aR.1 d with rfl|d;.exact o
   .exact q b d
def Iv (H:Mm ws B){i j:Nat}{p:ft}(h:ie ws i= .ok (p,j)):gu (Pl ws B i) (zg p) (Pl ws B j)/\yv p:=by
 unfold ie at h;obtain⟨_,m,q,h⟩:=dQ h;obtain⟨o,M,r,h⟩:=dQ h;obtain⟨_,c,s,h⟩:=dQ h;obtain⟨f,N,t,h⟩:=dQ h;obtain⟨l,O,u,h⟩:=dQ h;obtain⟨_,n,v,h⟩:=dQ h;obtain⟨y,d,w,k⟩:=dQ u;simp at h k;obtain⟨rfl,rfl⟩:=h;obtain⟨rfl,rfl⟩:=k;have J:=(eA _ _ _ _ _ q).1;have e:=gJ _ _ _ _ _ r;have K:=(eA _ _ _ _ _ s).1;have L:=(eA _ _ _ _ _ v).1;have S:=An (B:=B) e.2.1;have l1:=ly H (show i<=m by omega);have P:=ly H (show m<=c by omega);have z:=ly H (show d<=n by omega);obtain⟨E,A⟩:=oH H Th t;obtain⟨F,C⟩:=tC (pl:=vD) (Q:=uX) (λi a j h=>oH H Th h) _ _ _ _ w;have D:gu (Pl ws B i) [o.2] (Pl ws B c):=⟨Te,by show o.2<=_;omega⟩;have I:gu (Pl ws B c) ((f::y).flatMap vD) (Pl ws B d):=by rw[aW];exact E.app F
 have G:gu (Pl ws B d) [] (Pl ws B n):=z;refine⟨?_,⟨λR x=>by cases x;exact e.2.2,λg b=> ?_⟩⟩;.have:=(D.app I).app G;simpa [zg,mT]using this
 .rcases aR.1 b with rfl|b;.exact A
  .exact C g b
def tD {i j k:Nat}(a:Pl ws B i<=Pl ws B k){r:mX ek}(e:∀f j,r= .ok (f,j)->gu (Pl ws B k) (vD f) (Pl ws B j)/\uX f){p:ft}(h:kN r= .ok (p,j)):gu (Pl ws B i) (zg p) (Pl ws B j)/\yv p:=by
 obtain⟨f,n,c,h⟩:=dQ h;obtain⟨m,l⟩:=e _ _ c;simp at h;obtain⟨rfl,rfl⟩:=h;refine⟨?_,⟨λo d=>(by cases d),λg b=> ?_⟩⟩;.have:=m.low a;simpa [zg,mT]using this
 .simp at b;subst b;exact l
def LS (H:Mm ws B){i j:Nat}{p:ft}(h:jg ws i= .ok (p,j)):gu (Pl ws B i) (zg p) (Pl ws B j)/\yv p:=by
 unfold jg at h;split at h;.exact Iv H h
 .split at h;.exact tD (aD _) (λf j h=>N3 H h) h
  .split at h;.exact tD (ly H (bC i)) (λf j h=>oH H Th h) h
   .split at h;.exact tD (ly H (bC i)) (λf j h=>oH H Th h) h
    .exact tD (aD _) (λf j h=>oH H Th h) h
def Iw (H:Mm ws B){i j:Nat}{b:dS}(h:ir ws i= .ok (b,j)):gu (Pl ws B i) (DG b) (Pl ws B j)/\DK b:=by
 unfold ir at h;split at h;.unfold j9 at h;obtain⟨_,c,k,h⟩:=dQ h;obtain⟨nm,D,m,h⟩:=dQ h;obtain⟨_,d,n,h⟩:=dQ h;obtain⟨l,e,o,h⟩:=dQ h;obtain⟨_,f,q,h⟩:=dQ h;simp at h;obtain⟨rfl,rfl⟩:=h;have x:=(eA _ _ _ _ _ k).1;have g:=gJ _ _ _ _ _ m;have y:=(eA _ _ _ _ _ n).1;have z:=(eA _ _ _ _ _ q).1;have F:=An (B:=B) g.2.1;have l1:=ly H (show i<=c by omega);have E:=ly H (show c<=d by omega);have r:=ly H (show e<=f by omega);obtain⟨u,s⟩:=tC (pl:=GU) (Q:=λv:W×W=>oG v.2.1) (λi a j h=>by have:=BM H h;exact⟨this.1,this.2.1⟩) _ _ _ _ o;have t:gu (Pl ws B i) [nm.2] (Pl ws B d):=⟨Te,by show nm.2<=_;omega⟩;have w:gu (Pl ws B e) [] (Pl ws B f):=r;refine⟨?_,⟨λp A=>by simp at A,s⟩⟩;have:=(t.app u).app w;simpa [DG]using this
 .unfold gz at h;obtain⟨_,c,k,h⟩:=dQ h;obtain⟨nm,D,m,h⟩:=dQ h;obtain⟨_,d,n,h⟩:=dQ h;obtain⟨l,e,o,h⟩:=dQ h;obtain⟨_,f,q,h⟩:=dQ h;simp at h;obtain⟨rfl,rfl⟩:=h;have x:=(eA _ _ _ _ _ k).1;have g:=gJ _ _ _ _ _ m;have y:=(eA _ _ _ _ _ n).1;have z:=(eA _ _ _ _ _ q).1;have F:=An (B:=B) g.2.1;have l1:=ly H (show i<=c by omega);have E:=ly H (show c<=d by omega);have r:=ly H (show e<=f by omega);obtain⟨u,s⟩:=tC (pl:=zg) (Q:=yv) (λi a j h=>LS H h) _ _ _ _ o;have t:gu (Pl ws B i) [nm.2] (Pl ws B d):=⟨Te,by show nm.2<=_;omega⟩;have w:gu (Pl ws B e) [] (Pl ws B f):=r;refine⟨?_,⟨s,λv C=>by simp at C⟩⟩;have:=(t.app u).app w;simpa [DG]using this
def DL (H:Mm ws B){j:Nat}{bs:List dS}(h:nY ws= .ok (bs,j)):gu (Pl ws B 0) (bs.flatMap DG) (Pl ws B j)/\∀b∈bs,DK b:=
 tC (pl:=DG) (Q:=DK) (λ_ _ _ h=>Iw H h) _ _ _ _ h
end
def ut (t:au):∀(n a:Nat),∀(i j:Nat) (x y:W),i<=j->(jT t n a)[i]?=some x->(jT t n a)[j]?=some y->x.2<=y.2
 |0,a,i,j,x,y,_,hx,_=>by simp[jT]at hx
 |n+1,a,i,j,x,y,Tt,hx,hy=>by
  unfold jT at hx hy;by_cases ha:a<t.size
  .rw[dH ha]at hx hy;by_cases hg:Cg (fR t a)=true;.rw[dH hg]at hx hy;exact ut t n (a+1) i j x y Tt hx hy
   .rw[dG hg]at hx hy;have b:=oM t a ha
    cases i with
    |zero=>
     simp at hx;subst hx
     cases j with
     |zero=>
      simp at hy;subst hy
      exact aD _
     |succ j=>
      rw[cg]at hy;have:=jJ t n (ic t a) y (aO hy);simp only
      omega
    |succ i=>
     cases j with
     |zero=>omega
     |succ j=>
      rw[cg]at hx hy;exact ut t n (ic t a) i j x y Te hx hy
  .rw[dG ha]at hx;simp at hx
def yw (t:au)(g:t.size<=2000):Mm (eB t) t.size:=by
 refine⟨λi j x y d a b=> ?_,λi x a=> ?_,BG t g⟩
 .rcases gK b with⟨c,k⟩|⟨c,rfl⟩;.have e:(yH t)[j]?=some y:=(by unfold eB at b;rw[bW c]at b;exact b);have f:(yH t)[i]?=some x:=(by unfold eB at a;rw[bW Te]at a;exact a);exact ut t _ _ i j x y d f e
  .rcases gK a with⟨_,h⟩|⟨_,rfl⟩;.have:=jJ t t.size 0 x h;simp only;omega
   .exact aD _
 .rcases gK a with⟨_,h⟩|⟨_,rfl⟩;.have:=jJ t t.size 0 x h;omega
  .exact aD _
def uY (t:au):∀(k:Nat) (x:W),(eB t)[k]?=some x->k+1<(eB t).length->0<x.1.size:=by
 intro k x b a;rw[jA]at a;rcases gK b with⟨_,h⟩|⟨c,_⟩;.have:=jJ t t.size 0 x h;omega
 .omega
def Ra:Except (Int×Nat) (List dS)->Except (Int×Int) eE
 | .error (k,p)=> .error (k,p)
 | .ok bs=> .ok (BK bs)
def Qa (t:au):Ff t=Ra (gI t):=by
 unfold Ff gI;by_cases hl:2000<t.size;.rw[dH hl,dH hl];rfl
 .rw[dG hl,dG hl];have g:t.size<=2000:=Te;have H:=yq t g;have i:=yw t g;have hlen:0<(eB t).length:=by rw[jA];omega
  have f:iC (eB t) yo:=⟨hlen,aD _⟩;have d:yo.bad<0:=Th;have e:fo (eB t) yo<=(eB t).length:=by unfold fo;rw[dH d];omega
  cases hT:nY (eB t)with
  |error q=>
   have h:=yt (types:= []) H (uY t) (eB t).length (eB t).length yo f d e Te;have c:fC (mm (eB t)) (ir (eB t)) (eB t).length yo.i= .error q:=hT;rw[c]at h;have a:(pI t).bad=q:=h;rw[dH (by rw[a];omega),a]
   rfl
  |ok v=>
   obtain⟨bs,j⟩:=v;have h:=yt (types:=eZ bs) H (uY t) (eB t).length (eB t).length yo f d e Te;have c:fC (mm (eB t)) (ir (eB t)) (eB t).length yo.i= .ok (bs,j):=hT;rw[c]at h;obtain⟨s,w,x,y,z⟩:=h;have l:(pI t).bad= -1:=s;have o:(pI t).names=eZ bs:=x;have p:(pI t).msgs=(BK bs).ms:=y;have r:(pI t).enums=(BK bs).es:=z;have n:qR (eZ bs) (pI t).used (pI t).wrong=It (eZ bs) bs [] 0 (-1):=w;rw[dG (by rw[l];decide),o,n,p,r];obtain⟨A,k⟩:=DL i hT;have b:=ur (types:=eZ bs) (names:= []) (m:=0) (wr:= -1) Th k A;simp only
   cases hc:fD (eZ bs) [] 0 bs with
   |error q=>
    rw[hc]at b;have a:It (eZ bs) bs [] 0 (-1)=q:=b;rw[a,dH Te]
    rfl
   |ok u=>
    rw[hc]at b;have a:It (eZ bs) bs [] 0 (-1)<0:=b;rw[dG Te];rfl
def Fi {t:au}{bs:List dS}(h:gI t= .ok bs):∀b∈bs,DK b:=by
 unfold gI at h;split at h;.cases h
 .rename_i d
  cases hT:nY (eB t)with
  |error q=>rw[hT]at h;cases h
  |ok v=>
   obtain⟨a,j⟩:=v;rw[hT]at h;have c:=(DL (yw t Te) hT).2;simp only at h;split at h;.cases h
   .cases h;exact c
def Qb {types:aA}{o:Option W}{f:ek}(h:uX f)(k:Hg types f):PP o f=iD o f:=by
 unfold PP iD;have a:=h.num;unfold oG at a;have b:=k.hi;rw[a];have e:min (gV f.num.1) 1099511627776=gV f.num.1:=Te;rw[e]
def N4 {t:au}{bs:List dS}(h:gI t= .ok bs):BK bs=eM bs:=by
 have g:=Fi h;have i:=mr h;unfold BK eM gm;congr 1;refine List.map_congr_left λb j=> ?_
 have⟨a,e⟩:=cl.1 j;have k:=i.chk b a (by simpa using e);unfold RP oV;congr 1;rw[List.flatMap_def,List.flatMap_def];congr 1;refine List.map_congr_left λp d=> ?_
 unfold PQ;exact List.map_congr_left λf c=>Qb (((g b a).parts p d).fields f c) (k.flds p d f c)
section
variable {k i:Nat} {w:aw} {l:List PV} {row:ay}
theorem GY:∀{l:List PV} {ms:ay} {Y:ax},i8 (λmv (v:PV) C=>lR k w mv v.2.2 C) Y ms l->l.length<=m8 k l
 | [],[],_,_=>aD _
 |v::l,mv::ms,Y,h=>by
  obtain⟨A,B,a,b,_⟩:=h;have ih:=GY b;rw[mW,bF]
  cases k with
  |zero=>exact a.elim
  |succ k=>rw[lz];omega
theorem DO {α β:Type}{P:α->β->(ax)->Prop}{Y:ax}{ms:List α}{l:List β}{x:β}(h:i8 P Y (ms.drop i) (l.drop i))(n:l[i]?=some x):
  ∃mv C B,ms[i]?=some mv/\P mv x C/\i8 P B (ms.drop (i+1)) (l.drop (i+1))/\(∀b,C b->Y b)/\(∀b,B b->Y b)/\∀b,C b->¬B b:=by
 have⟨k,e⟩:=bt.1 n;have m:=h.len;rw[List.length_drop,List.length_drop]at m;have a:i<ms.length:=Te;rw[aS k,aS a]at h;obtain⟨A,B,c,d,f,g,j⟩:=h;exact⟨_,A,B,aP a,by rw[<-e];exact c,d,f,g,j⟩
theorem DP:∀{ms:ay} {l:List PV} {i:Nat} {mv:Value} {x:PV},ms[i]?=some mv->l[i]?=some x->
  (kU ms l)[i*4]?=some (.int .u64 x.1)/\(kU ms l)[i*4+1]?=some (ae x.2.1)/\(kU ms l)[i*4+2]?=some mv/\(kU ms l)[i*4+3]?=some (ae x.2.2.unk)
 |m::ms,y::l,0,mv,x,h1,h2=>by
  simp at h1 h2;subst h1 h2
  exact⟨rfl,rfl,rfl,rfl⟩
 |m::ms,y::l,i+1,mv,x,h1,h2=>by
  simp only[cg]at h1 h2;have⟨a,b,c,d⟩:=DP h1 h2;have e:(i+1)*4=i*4+1+1+1+1:=Te;rw[e];exact⟨a,b,c,d⟩
theorem DQ:∀{vs:ay} {l:List PF} {i:Nat} {vv:Value} {x:PF},vs[i]?=some vv->l[i]?=some x->
  (lW vs l)[i*2]?=some (aa x.1)/\(lW vs l)[i*2+1]?=some vv
 |m::ms,y::l,0,mv,x,h1,h2=>by
  simp at h1 h2;subst h1 h2
  exact⟨rfl,rfl⟩
 |m::ms,y::l,i+1,mv,x,h1,h2=>by
  simp only[cg]at h1 h2;have⟨a,b⟩:=DQ h1 h2;have e:(i+1)*2=i*2+1+1:=Te;rw[e];exact⟨a,b⟩
theorem L4 {x:PV}(h:l[i]?=some x):m8 k (l.take (i+1))=m8 k (l.take i)+mZ k x.2.2:=by
 rw[bu,h,pi];simp[m8]
theorem Qd (i:Nat):m8 k (l.take i)<=m8 k l:=by
 have:=pi k (l.take i) (l.drop i);rw[b8]at this;omega
theorem L5 {l:List PF}{x:PF}(h:l[i]?=some x):sr k (l.take (i+1))=sr k (l.take i)+(1+m8 k x.2):=by
 rw[bu,h,wi];simp[sr]
theorem Qe {l:List PF}(i:Nat):sr k (l.take i)<=sr k l:=by
 have:=wi k (l.take i) (l.drop i);rw[b8]at this;omega
structure L1 {α β:Type}(T:TypeId)(c:Nat)(P:aw->α->β->(ax)->Prop)(row:ay)(w wr:aw)(bb M:Nat)(D A Di Yi:ax)(vv:Value)(ms:List α)(l:List β)(i:Nat):Prop where
 bk:vF wr bb M Di
 di:∀b,Di b->D b\/A b\/w.heap.size<=b
 sp:i8 (P wr) Yi (ms.drop i) (l.drop i)
 yi:∀b,Yi b->A b/\¬Di b
 ro:d5 wr A T c vv l.length row
 rn:∀b,vv.ownBlock=some b->¬Yi b/\¬Di b
 ch:nJ w (λb=>D b\/A b) wr
theorem L1.step {α β:Type}{T:TypeId}{c:Nat}{P:aw->α->β->(ax)->Prop}{wr w':aw}{bb M M':Nat}{D A Di Yi B C:ax}{vv:Value}{ms:List α}{l:List β}
  (r:∀w w' x y C,P w x y C->(∀b,C b->b<w.heap.size->w'.heap[b]?=w.heap[b]?)->P w' x y C)
  (h:L1 T c P row w wr bb M D A Di Yi vv ms l i) (n:∀b,A b->b<w.heap.size) (p:i8 (P wr) B (ms.drop (i+1)) (l.drop (i+1))) (d:∀b,C b->Yi b) (a:∀b,B b->Yi b) (j:∀b,C b->¬B b)
  (f:vF w' bb M' (λb=>Di b\/C b\/wr.heap.size<=b)) (k:nJ wr (λb=>Di b\/C b) w'):L1 T c P row w w' bb M' D A (λb=>Di b\/C b\/wr.heap.size<=b) B vv ms l (i+1):=by
 have v:=h.ch.size;have g:∀b,B b->¬(Di b\/C b):=λb f q=>q.elim (h.yi b (a b f)).2 (λq=>j b q f)
 refine⟨f,λb q=> ?_,p.imp λx y E _ _ o t=>r _ _ x y E t (λb q s=>k.block b s (g b (o b q))),λb q=>⟨(h.yi b (a b q)).1,λe=> ?_⟩,h.ro.1.elim (λ_ _=> ?_),λb q=> ?_,h.ch.J k (λx z q=> ?_)⟩
 .rcases q with q|q|q;.exact h.di b q
  .exact .inr (.inl (h.yi b (d b q)).1)
  .exact .inr (.inr Te)
 .rcases e with e|e|e;.exact g b q (.inl e)
  .exact g b q (.inr e)
  .have:=n b (h.yi b (a b q)).1;omega
 .exact⟨dR h.ro.1 λb q=>k.block b (h.ro.1.lt b q).2 (λe=>e.elim (h.rn b q).2 (λe=>(h.rn b q).1 (d b e))),h.ro.2⟩
 .have⟨m,u⟩:=h.rn b q;refine⟨λe=>m (a b e),λe=> ?_⟩;rcases e with e|e|e;.exact u e
  .exact m (d b e)
  .have:=(h.ro.1.lt b q).2;omega
 .rcases q with q|q
  .rcases h.di x q with q|q|q;.exact .inl q
   .exact .inr q
   .omega
  .exact .inr (h.yi x (d x q)).1
end
section
variable {lo b:Nat} {W:aw} {t v:Value} {T:TypeId} {cs:aq}
structure Bx (lo:Nat)(W:aw)(on st vr:Bool)(t:Value)(b:Nat)(T:TypeId)(v:Value):Prop where
 made:on=true->t=ag b/\lo<=b/\iK W b T
 put:st=true->dP W b #[v] T
 dep:st=true->on=true/\vr=true
section
variable {lo:Nat} {W W':aw} {on st vr:Bool} {t:Value} {b:Nat} {T:TypeId} {v:Value}
theorem Bx.start:Bx lo W false false false t b T v:=⟨nofun,nofun,nofun⟩
theorem Bx.G (h:Bx lo W on st vr t b T v)(hb:Below W.heap.size W W'):Bx lo W' on st vr t b T v:=
 ⟨λe=>by
  have⟨c,d,u,a⟩:=h.made e
  exact⟨c,d,u,a.G hb a.lt⟩,λe=>(h.put e).G hb (h.put e).lt,h.dep⟩
theorem Bx.alloc (h:Bx lo W on st vr t b T v)(o:Obj):Bx lo (W.alloc o) on st vr t b T v:=h.G ((Below.refl _ _).alloc (aD _) o)
theorem Bx.val (h:Bx lo W on st false t b T v)(v':Value):Bx lo W on st true t b T v':=
 ⟨h.made,λe=>(by cases(h.dep e).2),λe=>(by cases(h.dep e).2)⟩
theorem Bx.new (h:Bx lo W false st vr t b T v)(hl:lo<=W.heap.size)(u:Value):Bx lo (W.alloc (.cells #[u] T)) true st vr (ag W.heap.size) W.heap.size T v:=
 ⟨λ_=>⟨rfl,hl,u,dP.new _ _ _⟩,λe=>(by cases(h.dep e).1),λe=>(by cases(h.dep e).1)⟩
theorem Bx.store (h:Bx lo W true st true t b T v):Bx lo (W.setCell (ai b 0) v) true true true t b T v:=by
 have⟨a,c,d⟩:=h.made rfl;have q:=dP.set1 d v;exact⟨λ_=>⟨a,c,v,q⟩,λ_=>q,λ_=>⟨rfl,rfl⟩⟩
theorem Bx.other (h:Bx lo W on st vr t b T v){c:Nat}(a:on=true->c≠b)(x:Value):Bx lo (W.setCell (ai c 0) x) on st vr t b T v:=
 ⟨λe=>by
  have⟨d,f,g⟩:=h.made e
  exact⟨d,f,g.other 0 x (a e)⟩,λe=>(h.put e).other 0 x (a (h.dep e).1),h.dep⟩
theorem Bx.lt (h:Bx lo W on st vr t b T v)(e:on=true):b<W.heap.size:=by
 have⟨_,_,u,a⟩:=h.made e;exact a.lt
end
def ve (on1 rG:Bool)(b1 b2:Nat):Prop:=on1=true->rG=true->b1≠b2
theorem ve.sy {on1 rG:Bool}{b1 b2:Nat}(h:ve on1 rG b1 b2):ve rG on1 b2 b1:=λa c e=>h c a e.sy
theorem ve.new1 {on st vr:Bool}(h:Bx lo W on st vr t b T v):ve true on W.heap.size b:=λ_ e q=>by
 have:=h.lt e;omega
theorem ve.new2 {on st vr:Bool}(h:Bx lo W on st vr t b T v):ve on true b W.heap.size:=(ve.new1 h).sy
def RQ (on vr:Bool)(b n1 n2:Nat):Prop:=on=true->vr=true->b<n1\/n2<=b
def By (lo:Nat)(W:aw)(on:Bool)(t:Value)(b:Nat)(T:TypeId)(n:Nat):Prop:=on=true->t=ag b/\lo<=b/\∃cs:aq,cs.size=n/\dP W b cs T
section
variable {lo:Nat} {W W':aw} {on:Bool} {t:Value} {b:Nat} {T:TypeId} {n:Nat}
theorem By.G (h:By lo W on t b T n)(hb:Below W.heap.size W W'):By lo W' on t b T n:=λe=>by
 have⟨c,d,cs,f,a⟩:=h e;exact⟨c,d,cs,f,a.G hb a.lt⟩
theorem By.alloc (h:By lo W on t b T n)(o:Obj):By lo (W.alloc o) on t b T n:=h.G ((Below.refl _ _).alloc (aD _) o)
theorem By.new (hl:lo<=W.heap.size)(a:cs.size=n):By lo (W.alloc (.cells cs T)) true (ag W.heap.size) W.heap.size T n:=λ_=>⟨rfl,hl,cs,a,dP.new _ _ _⟩
theorem By.set (h:By lo W on t b T n)(c off:Nat)(v:Value):By lo (W.setCell (ai c off) v) on t b T n:=λe=>by
 have⟨a,d,cs,f,g⟩:=h e;by_cases hc:c=b;.subst hc;exact⟨a,d,_,by simpa using f,g.set off v⟩
 .exact⟨a,d,cs,f,g.other off v hc⟩
theorem OO (h:cs.size=1):∃u,cs= #[u]:=by
 obtain⟨l⟩:=cs
 match l,h with
 | [u],_=>exact⟨u,rfl⟩
theorem Re (h:cs.size=2):∃u v,cs= #[u,v]:=by
 obtain⟨l⟩:=cs
 match l,h with
 | [u,v],_=>exact⟨u,v,rfl⟩
end
theorem kY (h:iK W b T):∃u,(∀off,W.cell? (ai b off)=(#[u]:aq)[off]?)/\(∀off,W.frozen? (ai b off)=false):=by
 obtain⟨u,h⟩:=h;exact⟨u,h.I⟩
end
section
open Tq
inductive Sj (wa:aw)(mp:am)(g:GF)(fb p wn:Nat)(Tv:Int)(sg:Bool)(W:aw):Array Bool->Act->Prop where
 |mk {l0 l1 l2 l3 l4 l5 l6 l7 l8 l9 l10 Tw TA TB TC:Bool} {t5 t6 t7 t8 t9 TH TD TI TE TJ TK TF:Value} (bP bQ bR:Nat) (pv:Value) (f0:l0=true->t8=ag fb) (f1:l1=true->t9=ag fb) (f2:l2=true->TH=ag fb) (f3:l3=true->TD=aa g.f.num) (f4:l4=true->TI=ag fb) (f5:l5=true->TE=aa Tv) (f6:l6=true->TJ=ag fb) (f7:l7=true->TK= .agg #[aa (jd mp g.f.key),pv]) (f8:l8=true->TF= .bool sg) (B:Below wa.heap.size wa W) (xP:Bx (wa.heap.size) W l9 TA l3 t5 bP 3 TD) (xQ:Bx (wa.heap.size) W l10 TB l5 t6 bQ 3 TE) (xR:Bx (wa.heap.size) W Tw TC l8 t7 bR 4 TF) (Ts:ve l9 l10 bP bQ) (Tt:ve l9 Tw bP bR) (Tu:ve l10 Tw bQ bR):Sj wa mp g fb p wn Tv sg W #[l0,l1,l2,l3,l4,l5,l6,l7,l8,l9,l10,Tw,TA,TB,TC] ⟨#[ag fb,ag p,undef,ag wn,.nilFunc,t5,t6,t7,t8,t9,TH,TD,TI,TE,TJ,TK,TF,undef],[]⟩
section
variable (w:aw) (Q P:ax) (mp:am) (g:GF) (fb p:Nat)
def yD (hQ:∀b,w.heap.size<=b->Q b)(h:eR w P mp g fb)(h4:g.form=4):Calls prog 377 #[ag fb,ag p] w (pw w λw' v=>OD w' Q mp (λx=>x=p) g v):=by
 have a:= @yG;have⟨d,e,N,_,c,a⟩:=h.blk;obtain⟨e,rfl⟩:=g8 a;obtain⟨e,i,f,rfl⟩:=dO c.1;have⟨T,U⟩:=eY w #[ag p] 116;have J:eR (w.alloc (ak #[ag p] 116)) P mp g fb:=h.O (λb _ I=>T.block b I);have X:=N.alloc (ak #[ag p] 116);have G:=X.lt;obtain⟨H,Ty⟩:=Td (kA mp g);obtain⟨sg,TO⟩:=Td (tP (jd mp g.f.key));have TM:=λW d=>rP W (jd mp g.f.key) d (nP mp _)
 rw[TO]at TM;clear a c h;go_in
 go_upto_region 1 with fail
 obtain⟨E,V⟩:=Td (w.alloc (ak #[ag p] 116));rw[V]at T U J X G;simp only[V];have TP:w.heap.size<E.heap.size:=U.lt;clear V N
 have M:∀W,Below E.heap.size E W->S9 186 #[ag fb] W λe w'=>e= .returned (aa H)/\w'=W:=λW Y=>by
  rw[<-Ty];exact sO W P mp g fb (J.O (λb _ I=>Y.block b I))
 have V:∀W,Below E.heap.size E W->S9 188 #[ag fb] W λe w'=>∃d,e= .returned (.agg #[aa (jd mp g.f.key),d])/\Below W.heap.size W w':=λW Y=>JU W P mp g fb (J.O (λb _ I=>Y.block b I)) h4
 clear J;go_cut [5,6,7]from 8 to 16 (λx y z S=>∃nb O R,x=ag nb/\y=ag O/\z=ag R/\dP S nb #[aa g.f.num] 3/\dP S O #[aa H] 3/\dP S R #[.bool sg] 4/\E.heap.size<=nb/\E.heap.size<=O/\E.heap.size<=R/\Below E.heap.size E S)
 case first=>
  refine li (λL a W=>Sj E mp g fb p w.heap.size H sg W L a) Tj ⟨0,0,0,undef,nofun,nofun,nofun,nofun,nofun,nofun,nofun,nofun,nofun,(Below.refl _ _).drew,Bx.start,Bx.start,Bx.start,nofun,nofun,nofun⟩ Tj ?_ ?_
  .rintro L a W @⟨l0,l1,l2,D,l4,E,l6,l7,H,I,Z,z,c,k,y,t5,t6,t7,t8,t9,Y,J,TI,K,TJ,TK,S,o,q,r,d,t,f1,f2,f3,u,f5,A,C,s,B,f,i,j,l,m,n⟩ F;obtain rfl:D=true:=F 3 Th;obtain rfl:E=true:=F 5 Th;obtain rfl:H=true:=F 8 Th;obtain rfl:I=true:=F 9 Th;obtain rfl:Z=true:=F 10 Th;obtain rfl:z=true:=F 11 Th;obtain rfl:c=true:=F 12 Th;obtain rfl:k=true:=F 13 Th;obtain rfl:y=true:=F 14 Th;obtain⟨rfl,y,_⟩:=f.made rfl;obtain⟨rfl,z,_⟩:=i.made rfl;obtain⟨rfl,E,_⟩:=j.made rfl;obtain rfl:=f3 rfl;obtain rfl:=f5 rfl;obtain rfl:=s rfl;have c:=f.put rfl;have k:=i.put rfl;have D:=j.put rfl;go_wp2;go_meet
   case rel=>exact⟨_,_,_,rfl,rfl,rfl,c,k,D,y,z,E,B⟩
  refine .cons ?_ (.cons ?_ (.cons ?_ (.cons ?_ (.cons ?_ (.cons ?_ (.cons ?_ (.cons ?_ (.cons ?_ (.cons ?_ (.cons ?_ (.cons ?_ (.cons ?_ (.cons ?_ (.cons ?_ .nil))))))))))))))
  all_goals
   rintro L a W ⟨o,q,r,d,t,f1,f2,f3,u,f5,A,C,s,B,f,i,j,l,m,n⟩ N c K D;subst N
  .clear c;go_simp;refine D.out _ _ ?_;simp only[S7];exact⟨o,q,r,d,λ_=>rfl,f1,f2,f3,u,f5,A,C,s,B,f,i,j,l,m,n⟩
  .obtain rfl:=eH (k:=0) c Tj;obtain rfl:=t rfl;clear c;go_simp;refine D.out _ _ ?_;simp only[S7];exact⟨o,q,r,d,λ_=>rfl,λ_=>rfl,f2,f3,u,f5,A,C,s,B,f,i,j,l,m,n⟩
  .obtain rfl:=eH (k:=1) c Tj;obtain rfl:=f1 rfl;clear c;go_simp;refine D.out _ _ ?_;simp only[S7];exact⟨o,q,r,d,t,λ_=>rfl,λ_=>rfl,f3,u,f5,A,C,s,B,f,i,j,l,m,n⟩
  .obtain rfl:=eH (k:=2) c Tj;obtain rfl:=f2 rfl;have a:=X.G B G;have⟨F,G⟩:=a.I;clear c;go_simp;refine D.out _ _ ?_;simp only[S7];exact⟨o,q,r,d,t,f1,λ_=>rfl,λ_=>rfl,u,f5,A,C,s,B,(f.val _),i,j,l,m,n⟩
  .clear c;go_simp;refine D.out _ _ ?_;simp only[S7];exact⟨o,q,r,d,t,f1,f2,f3,λ_=>rfl,f5,A,C,s,B,f,i,j,l,m,n⟩
  .obtain rfl:=eH (k:=4) c Tj;obtain rfl:=u rfl;clear c;go_simp;go_wp2_with (first|(go_at_call 186;refine(M _ B).V ?_;rintro e _ ⟨rfl,rfl⟩))
   refine D.out _ _ ?_;simp only[S7];exact⟨o,q,r,d,t,f1,f2,f3,λ_=>rfl,λ_=>rfl,A,C,s,(dL B (Below.refl _ _)),(f.G (Below.refl _ _)),((i.G (Below.refl _ _)).val _),(j.G (Below.refl _ _)),l,m,n⟩
  .clear c;go_simp;refine D.out _ _ ?_;simp only[S7];exact⟨o,q,r,d,t,f1,f2,f3,u,f5,λ_=>rfl,C,s,B,f,i,j,l,m,n⟩
  .obtain rfl:=eH (k:=6) c Tj;obtain rfl:=A rfl;clear c;go_simp;go_wp2_with (first|(go_at_call 188;refine(V _ B).V ?_;rintro e w2 ⟨a,rfl,M⟩))
   refine D.out _ _ ?_;simp only[S7];exact⟨o,q,r,a,t,f1,f2,f3,u,f5,λ_=>rfl,λ_=>rfl,s,(dL B M),(f.G M),(i.G M),(j.G M),l,m,n⟩
  .obtain rfl:=eH (k:=7) c Tj;obtain rfl:=C rfl;clear c;go_simp;go_wp2_with (first|(go_at_call 189;refine(TM _ d).V ?_;rintro e w3 ⟨rfl,G⟩))
   refine D.out _ _ ?_;simp only[S7];exact⟨o,q,r,d,t,f1,f2,f3,u,f5,A,λ_=>rfl,λ_=>rfl,(dL B G),(f.G G),(i.G G),((j.G G).val _),l,m,n⟩
  .clear c;go_simp;refine D.out _ _ ?_;simp only[S7];exact⟨W.heap.size,q,r,d,t,f1,f2,f3,u,f5,A,C,s,(B.alloc B.size _),(f.new B.size _),(i.alloc _),(j.alloc _),(ve.new1 i),(ve.new1 j),n⟩
  .clear c;go_simp;refine D.out _ _ ?_;simp only[S7];exact⟨o,W.heap.size,r,d,t,f1,f2,f3,u,f5,A,C,s,(B.alloc B.size _),(f.alloc _),(i.new B.size _),(j.alloc _),(ve.new2 f),m,(ve.new1 j)⟩
  .clear c;go_simp;refine D.out _ _ ?_;simp only[S7];exact⟨o,q,W.heap.size,d,t,f1,f2,f3,u,f5,A,C,s,(B.alloc B.size _),(f.alloc _),(i.alloc _),(j.new B.size _),l,(ve.new2 f),(ve.new2 i)⟩
  .obtain rfl:=eH (k:=9) c Tj;obtain rfl:=eH (k:=3) c Tj;obtain⟨rfl,y,a⟩:=f.made rfl;have⟨I,F,H⟩:=kY a;obtain rfl:=f3 rfl;clear c;go_simp;refine D.out _ _ ?_;simp only[S7];exact⟨o,q,r,d,t,f1,f2,λ_=>rfl,u,f5,A,C,s,(B.setCell (p:=(ai o 0)) y _),f.store,(i.other (λe=>l rfl e) _),(j.other (λe=>m rfl e) _),l,m,n⟩
  .obtain rfl:=eH (k:=10) c Tj;obtain rfl:=eH (k:=5) c Tj;obtain⟨rfl,z,a⟩:=i.made rfl;have⟨H,y,F⟩:=kY a;obtain rfl:=f5 rfl;clear c;go_simp;refine D.out _ _ ?_;simp only[S7];exact⟨o,q,r,d,t,f1,f2,f3,u,λ_=>rfl,A,C,s,(B.setCell (p:=(ai q 0)) z _),(f.other (λe=>l.sy rfl e) _),i.store,(j.other (λe=>n rfl e) _),l,m,n⟩
  .obtain rfl:=eH (k:=11) c Tj;obtain rfl:=eH (k:=8) c Tj;obtain⟨rfl,E,a⟩:=j.made rfl;have⟨z,k,y⟩:=kY a;obtain rfl:=s rfl;clear c;go_simp;refine D.out _ _ ?_;simp only[S7];exact⟨o,q,r,d,t,f1,f2,f3,u,f5,A,C,λ_=>rfl,(B.setCell (p:=(ai r 0)) E _),(f.other (λe=>m.sy rfl e) _),(i.other (λe=>n.sy rfl e) _),j.store,l,m,n⟩
 case rest=>
  obtain⟨nb,O,R,rfl,rfl,rfl,a,c,d,e,f,i,G⟩:=hcut;go_wp2;go_ret;exact⟨_,rfl,⟨_,_,_,_,p,rfl,U.G G TP,by rw[Ty];exact c,a,by rw[TO];exact d,rfl,hQ _ (aD _),hQ _ Te,hQ _ Te,hQ _ Te⟩,dL T G⟩
end
def yE (w:aw)(P:ax)(mp:am)(g:GF)(fb:Nat)(iq:aC)(h:eR w P mp g fb):Calls prog 210 #[ag fb,.pointer iq] w (mO w):=by
 have O:= @yG;have⟨v,a,n,_,p,q⟩:=h.blk;obtain⟨S,rfl⟩:=g8 q;obtain⟨X,Z,Y,rfl⟩:=dO p.1
 have z:eG mp g<=16:=by
  unfold eG;split;.exact aD _
  .exact nP _ _
 have L:=vz w (eG mp g) S iq z;have A:∀W,aj w W->eR W P mp g fb:=λW M=>h.O (λb _ N=>M.block b N)
 clear q p h;have⟨Q,R⟩:=n.I;go_in
 go_wp2_with fail;refine L.V ?_;rintro e w2 ⟨d,c,rfl,r⟩;have x:=n.G r n.lt;have f:∀o,aj w (w2.alloc o):=λo=>dL r ((Below.refl _ _).alloc (aD _) _)
 have⟨U,V⟩:=(x.alloc (ak #[.func (.func d) #[] c] 398)).I;have k:=dP.new w2 #[.func (.func d) #[] c] 398;have u:=λW=>Lb W d c
 have J:=λW=>Lc W d c
 have K:=λW sg=>H9 W d c sg
 clear Q R;by_cases h4:g.form=4
 .have I:(g.form==4)=true:=by simp[h4]
  have B:=JU _ P mp g fb (A (w2.alloc (ak #[.func (.func d) #[] c] 398)).drew (f _).drew) h4;have C:=λW v=>rP W (jd mp g.f.key) v (nP mp _)
  have G:=k.cell 0;have D:=f (ak #[.func (.func d) #[] c] 398);go_upto_region 3 with fail
  generalize w2.alloc (ak #[.func (.func d) #[] c] 398)=w3 at*
  go_region_held2 (λW=>W.cell? (ai w2.heap.size 0)=some (.func (.func d) #[] c))
   (first|exact F.cell 0|exact m.cell 0|exact l.cell 0|exact G)
   (first|(go_at_call 188;refine B.V ?_;rintro e i ⟨y,rfl,a⟩;have l:=dP.G (w:=w3.drew) k a k.lt)|(go_at_call 189;refine(C i y).V ?_;rintro e T ⟨rfl,s⟩;have m:=l.G s l.lt)|(go_at_call 285;refine(K T _).V ?_;rintro e w6 ⟨j,c6,rfl,t⟩;have F:=m.G t m.lt))
  all_goals
   go_wp2;go_ret;exact⟨_,_,rfl,dL D (dL (dL (Below.refl _ _).drew a) (dL s t))⟩
 .have I:(g.form==4)=false:=by simp[h4]
  by_cases h2:g.form=2
  .have f2:(g.form==2)=true:=by simp[h2]
   go_wp2_with fail;refine(J _).V ?_;rintro e i ⟨j,c6,rfl,a⟩;go_wp2;go_ret;exact⟨_,_,rfl,dL (f _) a⟩
  .have f2:(g.form==2)=false:=by simp[h2]
   by_cases h0:g.form=0
   .have H:(g.form==0)=true:=by simp[h0]
    by_cases h16:eG mp g=16
    .have E:((eG mp g:Int)==16)=true:=by simp[h16]
     go_wp2_with fail;refine(u _).V ?_;rintro e i ⟨j,c6,rfl,a⟩;go_wp2;go_ret;exact⟨_,_,rfl,dL (f _) a⟩
    .have E:((eG mp g:Int)==16)=false:=Tg;go_wp2_with fail;refine(Lb _ _ _).V ?_;rintro e i ⟨j,c6,rfl,a⟩;go_wp2;go_ret;exact⟨_,_,rfl,dL (f _) a⟩
   .have H:(g.form==0)=false:=by simp[h0]
    go_wp2_with fail;refine(u _).V ?_;rintro e i ⟨j,c6,rfl,a⟩;go_wp2;go_ret;exact⟨_,_,rfl,dL (f _) a⟩
end
end Go.Proofs.YtfebdimolnobaaaGreatDoor
