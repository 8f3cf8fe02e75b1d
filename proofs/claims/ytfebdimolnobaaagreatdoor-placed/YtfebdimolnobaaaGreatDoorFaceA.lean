import Derived.Test.YtfebdimolnobaaaGreatDoorFnB
import Derived.Defers
import Derived.Recover
import Derived.Laws.EntriesVeiled
set_option maxRecDepth 100000
set_option maxHeartbeats 8000000
set_option linter.all false
namespace Go.Proofs.YtfebdimolnobaaaGreatDoor
open Go.RowKit
section
open Go.Maps
theorem d5.keep {w w':an}{P:ap}{v:Value}{bs:List dh}{y:List YM}(hk:∀b,P b->b<w.heap.size->w'.heap[b]?=w.heap[b]?)(h:d5 w P v bs y):d5 w' P v bs y:=
 ⟨h.row.keep hk,h.names,fun m hm=>(h.msg m hm).keep hk,h.g⟩
theorem d5.mono {w:an}{P Q:ap}{v:Value}{bs:List dh}{y:List YM}(hs:∀b,P b->b<w.heap.size->Q b)(h:d5 w P v bs y):d5 w Q v bs y:=
 ⟨h.row.mono hs,h.names,fun m hm=>(h.msg m hm).mono hs,h.g⟩
def zF (w:an)(sb kp mk:Nat)(bs:List dh)(lo:Nat):Prop:=
 ∃v y,de w sb #[v,ag kp] 92/\(lo<=sb/\lo<=kp/\lo<=mk/\sb≠kp/\sb≠mk/\mk≠kp)/\d5 w (fun b=>lo<=b/\b≠sb/\b≠kp/\b≠mk) v bs y/\FI w kp mk 0 (fun _=>none)
def Il (w:an)(r:Except (Int×Nat) (List dh))(e:Ending)(w':an):Prop:=
 (match r with
 | .error (k,p)=>e=da k p
 | .ok bs=>∃sb kp mk,e= .returned (ag sb)/\zF w' sb kp mk bs w.heap.size)/\aj w w'
theorem Im (w:an)(tb:Nat)(t:am)(hmax:t.size<=140737488355328)(hc:w.cell? (ai tb 0)=some (ae t))(hg:GOK w)(hbo:BOK w):
  Calls Tryz.prog 34 #[ag tb] w (Il w (gi t)):=by
 generalize hr:gi t=r;have HR:Hid (gi t=r):=hr;clear hr;go_enter Tryz.func34,Tryz.ntmps34
 go_wp2_with fail
 refine(NT _ t hmax hg).mono ?_
 cases h:gi t with
 |error q=>
  obtain⟨k,p⟩:=q;rintro e w2 ⟨he,N2⟩;obtain rfl:e=da k p:=he;obtain rfl:r= .error (k,p):=HR.out.symm.trans h;unfold da;go_wp2;exact⟨rfl,rfl,N2⟩
 |ok bs=>
  rintro e w2 ⟨⟨a,n,c,cs,rfl,Oa,Om⟩,N2⟩;have OK:=o9 h;obtain rfl:n=bs.length:=dR Oa.1;obtain rfl:r= .ok bs:=HR.out.symm.trans h;go_wp2_with fail
  refine(Hp w2 a c bs cs _ Oa Om OK (hg.keep (N2.block _ hg.lt)) (hbo.keep (N2.block _ hbo.lt))).mono ?_;rintro e w3 ⟨v,y,rfl,hM,Oo⟩;obtain⟨va,vn,vc,rfl⟩:=df hM.row.1;have C3:=dH N2 Oo;go_wp2_with fail
  refine(Dr w3).mono ?_;rintro e w4 ⟨kp,mk,rfl,hK,hkp,hmk,Oq,Ob⟩;have C4:=dH C3 Ob;have z3:=C3.size;have z2:=N2.size;have zk:=hK.1.lt;have zm:=hK.2.lt;go_wp2;go_ret;refine⟨⟨w4.heap.size,kp,mk,rfl,_,y,de.new w4 _ _,⟨C4.size,by omega,by omega,by omega,by omega,Oq⟩,?_,(hK.1.alloc _),hK.2.keep (Below.heap_alloc _ _ _ zm)⟩,C4.alloc C4.size _⟩;have Oc:=hM.mono (Q:=fun b=>w.heap.size<=b/\b<w3.heap.size) (fun x hx hl=>⟨by omega,hl⟩);have h5:=Oc.keep (w':=w4) (fun x _ hl=>Ob.block x hl);have h6:=h5.mono (Q:=fun b=>w.heap.size<=b/\b≠w4.heap.size/\b≠kp/\b≠mk) (fun x hx hl=>⟨hx.1,by omega,by omega,by omega⟩);exact h6.keep (fun x _ hl=>Below.heap_alloc _ _ _ hl)
theorem In (k p:Int)(w:an):(Instr.typeAssert (.iface 142 (.agg #[aa k,aa p])) 20 142 true).run Tryz.prog w= .ok (.tuple #[.agg #[aa k,aa p],.bool true]) w:=by kernel_rfl
theorem rD (x y v:Value): #[x,y]++(((Array.replicate 18 undef).setIfInBounds 3 v).setIfInBounds 0 v)= #[x,y,v,undef,undef,v,undef,undef,undef,undef,undef,undef,undef,undef,undef,undef,undef,undef,undef,undef]:=by kernel_rfl
theorem FJ (a b:Addr)(w:an):
  CallsD Tryz.prog 65 #[.pointer (some a),.pointer (some b)] .returning w fun e u' w'=>e= .returned (.tuple #[])/\u'= .returning/\w'=w:=by
 refine callsD_of_wpS Tryz.func65 rfl fun c₀ cs hu=> ?_
 apply wpS_seq;apply wpS_region;simp[wpOpsS,go_sem,recoverD,hu,Tryz.ntmps65,Exit.thenS];refine wpS_of_wp ?_;rw[rD];go_wp2
 cases c₀
 simp_all [bodyPostS,results,Tryz.results65]
theorem Bf (ab bb:Nat)(k p:Int)(older:List PanicEntry)(w:an)(x y:Value)(ha:w.cell? (ai ab 0)=some x)(hb:w.cell? (ai bb 0)=some y)(fa:w.frozen? (ai ab 0)=false)(fb:w.frozen? (ai bb 0)=false)(hab:¬ab=bb):
  CallsD Tryz.prog 65 #[ag ab,ag bb] (.panicking ({v:= .iface 142 (.agg #[aa k,aa p]),recovered:=false}::older)) w fun e u' w'=>
   e= .returned (.tuple #[])/\u'= .panicking ({v:= .iface 142 (.agg #[aa k,aa p]),recovered:=true}::older)/\
    w'=(((w.setCell (ai ab 0) (aa k)).setCell (ai bb 0) (aa p)).alloc (ak #[aa k,aa p] 142)).drew:=by
 have hta:=In k p;have la:=aN _ _ ha;have lb:=aN _ _ hb;simp only at la lb;obtain⟨p1,p2,p3,p4⟩:=eK (w:=w) (b:=ab) la;obtain⟨s1,s2,s3,s4⟩:=eK (w:=w) (b:=bb) lb;have hba:¬bb=ab:=fun e=>hab e.symm
 refine callsD_of_wpS Tryz.func65 rfl fun c₀ cs hu=> ?_
 apply wpS_seq;apply wpS_region;simp[wpOpsS,go_sem,recoverD,hu,Tryz.ntmps65,Exit.thenS];refine wpS_of_wp ?_;rw[rD];go_wp2;go_region
 exact⟨rfl,_,rfl,.tuple #[],by simp[results,Tryz.results65],rfl,rfl,rfl⟩
def zG (w:an)(r:Except (Int×Nat) (List dh))(e:Ending)(w':an):Prop:=
 (match r with
 | .error (k,p)=>e= .returned (.tuple #[.pointer none,aa k,aa p])
 | .ok bs=>∃sb kp mk,e= .returned (.tuple #[ag sb,aa 0,aa 0])/\zF w' sb kp mk bs w.heap.size)/\aj w w'
theorem Io (w:an)(tb:Nat)(t:am)(hmax:t.size<=140737488355328)(hc:w.cell? (ai tb 0)=some (ae t))(hg:GOK w)(hbo:BOK w):
  Calls Tryz.prog 33 #[.func (Fn.func 34) #[] #[ag tb]] w (zG w (gi t)):=by
 have hmf:= @rh;generalize hr:gi t=r;have HR:Hid (gi t=r):=hr;clear hr;have Od:=aN _ _ hc;have B0:=((Below.refl w.heap.size w).alloc (ay _) (ak #[aa 0] 24)).alloc (by simp) (ak #[aa 0] 3);go_enter_defers Tryz.func33,Tryz.ntmps33
 have Oe:((w.alloc (ak #[aa 0] 24)).alloc (ak #[aa 0] 3)).cell? (ai tb 0)=some (ae t):=(B0.cell (p:=(ai tb 0)) Od).trans hc;have Of:GOK ((w.alloc (ak #[aa 0] 24)).alloc (ak #[aa 0] 3)):=hg.keep (B0.block _ hg.lt);have N7:BOK ((w.alloc (ak #[aa 0] 24)).alloc (ak #[aa 0] 3)):=hbo.keep (B0.block _ hbo.lt);have K0:=(de.new w #[aa 0] 24).alloc (ak #[aa 0] 3)
 have K1:de ((w.alloc (ak #[aa 0] 24)).alloc (ak #[aa 0] 3)) (w.heap.size+1) #[aa 0] 3:=by
  have:=de.new (w.alloc (ak #[aa 0] 24)) #[aa 0] 3;simpa using this
 go_wp2_with fail
 refine(Im _ tb t hmax Oe Of N7).mono ?_
 cases h:gi t with
 |error q=>
  obtain⟨k,p⟩:=q;rintro e w2 ⟨he,N2⟩;obtain rfl:e=da k p:=he;obtain rfl:r= .error (k,p):=HR.out.symm.trans h;have K2:=K0.below N2 K0.lt;have K3:=K1.below N2 K1.lt;have C2:=B0.trans (N2.mono B0.size);obtain⟨k1,k2⟩:=K2.rules;obtain⟨k3,k4⟩:=K3.rules;have z3:=K3.lt;unfold da;refine leaves_cons (f:=65) (args:= #[ag w.heap.size,ag (w.heap.size+1)]) (by simp) (by simp[go_sem]) ?_;refine(Bf w.heap.size (w.heap.size+1) k p [] w2 _ _ (k1 0) (k3 0) (k2 0) (k4 0) (by omega)).mono ?_;rintro e u' Ot ⟨rfl,rfl,rfl⟩;have q0:=(((K2.set 0 (aa k)).other (c:=w.heap.size+1) 0 (aa p) (by omega)).alloc (ak #[aa k,aa p] 142)).cell 0;have q1:=(((K3.other (c:=w.heap.size) 0 (aa k) (by omega)).set 0 (aa p)).alloc (ak #[aa k,aa p] 142)).cell 0;have C3:aj w (((w2.setCell (ai w.heap.size 0) (aa k)).setCell (ai (w.heap.size+1) 0) (aa p)).alloc (ak #[aa k,aa p] 142)).drew:=(((C2.setCell (p:=(ai w.heap.size 0)) (ay _) (aa k)).setCell (p:=(ai (w.heap.size+1) 0)) (bE _) (aa p)).alloc (by simp[World.setCell];omega) _).drew;simp at q0 q1;simp[Leaves,settle,results,Tryz.results33,go_sem,q0,q1];exact⟨rfl,C3⟩
 |ok bs=>
  rintro e w2 ⟨⟨sb,kp,mk,rfl,N8⟩,N2⟩;obtain rfl:r= .ok bs:=HR.out.symm.trans h;have K2:=K0.below N2 K0.lt;have K3:=K1.below N2 K1.lt;have C2:=B0.trans (N2.mono B0.size);obtain⟨k1,k2⟩:=K2.rules;obtain⟨k3,k4⟩:=K3.rules;have z3:=K3.lt;go_wp2;refine leaves_cons (f:=65) (args:= #[ag w.heap.size,ag (w.heap.size+1)]) (by simp) (by simp[go_sem]) ?_;refine(FJ (ai w.heap.size 0) (ai (w.heap.size+1) 0) _).mono ?_;rintro e u' Ot ⟨rfl,rfl,rfl⟩;have q0:=((K2.set 0 (aa 0)).other (c:=w.heap.size+1) 0 (aa 0) (by omega)).cell 0;have q1:=((K3.other (c:=w.heap.size) 0 (aa 0) (by omega)).set 0 (aa 0)).cell 0;have C3:aj w ((w2.setCell (ai w.heap.size 0) (aa 0)).setCell (ai (w.heap.size+1) 0) (aa 0)):=(C2.setCell (p:=(ai w.heap.size 0)) (ay _) (aa 0)).setCell (p:=(ai (w.heap.size+1) 0)) (bE _) (aa 0)
  have Og:zF ((w2.setCell (ai w.heap.size 0) (aa 0)).setCell (ai (w.heap.size+1) 0) (aa 0)) sb kp mk bs w.heap.size:=by
   obtain⟨v,y,h1,⟨h3,h4,h5,h6,h7,h8⟩,hM,hK⟩:=N8;have Oh:w.heap.size+2<=sb:=by simpa using h3
   have Oi:w.heap.size+2<=kp:=by simpa using h4
   have Oj:w.heap.size+2<=mk:=by simpa using h5
   have N3:∀x,w.heap.size+2<=x->((w2.setCell (ai w.heap.size 0) (aa 0)).setCell (ai (w.heap.size+1) 0) (aa 0)).heap[x]?=w2.heap[x]?:=fun x hx=>by rw[dd,if_neg (by omega),dd,if_neg (by omega)]
   have Ok:=hM.keep (w':=((w2.setCell (ai w.heap.size 0) (aa 0)).setCell (ai (w.heap.size+1) 0) (aa 0))) (fun x hx _=>N3 x (by simpa using hx.1))
   have Ol:=Ok.mono (Q:=fun b=>w.heap.size<=b/\b≠sb/\b≠kp/\b≠mk) (fun x hx _=>by
    have h9:w.heap.size+2<=x:=by simpa using hx.1
    exact⟨by omega,hx.2⟩)
   exact⟨v,y,(N3 sb Oh).trans h1,⟨by omega,by omega,by omega,h6,h7,h8⟩,Ol,(N3 kp Oi).trans hK.1,hK.2.keep (N3 mk Oj)⟩
  simp at q0 q1;simp[Leaves,settle,results,Tryz.results33,go_sem,q0,q1];exact⟨⟨sb,kp,mk,rfl,Og⟩,C3⟩
end
section
open Go.Maps
attribute [local go_sem↓] Go.wp_at_zero Go.wp_at_succ
def Cu (w:an)(R:Fx PM)(e:Ending)(w':an):Prop:=
 match R with
 | .error x=>e= .returned (.tuple #[.agg #[ah,ae ⟨#[]⟩],aa x.1,aa x.2])/\aj w w'
 | .ok m=>∃v Z',e= .returned (.tuple #[.agg #[v,ae m.unk],aa 0,aa 0])/\nE 9 w' v m Z'/\(∀b,Z' b->w.heap.size<=b/\b<w'.heap.size)/\aj w w'
theorem Ip (a b:Addr)(w:an):
  CallsD Tryz.prog 82 #[.pointer (some a),.pointer (some b)] .returning w fun e u' w'=>e= .returned (.tuple #[])/\u'= .returning/\w'=w:=by
 refine callsD_of_wpS Tryz.func82 rfl fun c₀ cs hu=> ?_
 apply wpS_seq;apply wpS_region;simp[wpOpsS,go_sem,recoverD,hu,Tryz.ntmps82,Exit.thenS];refine wpS_of_wp ?_;rw[rD];go_wp2
 cases c₀
 simp_all [bodyPostS,results,Tryz.results82]
theorem Ds (ab bb:Nat)(k p:Int)(older:List PanicEntry)(w:an)(x y:Value)(ha:w.cell? (ai ab 0)=some x)(hb:w.cell? (ai bb 0)=some y)(fa:w.frozen? (ai ab 0)=false)(fb:w.frozen? (ai bb 0)=false)(hab:¬ab=bb):
  CallsD Tryz.prog 82 #[ag ab,ag bb] (.panicking ({v:= .iface 142 (.agg #[aa k,aa p]),recovered:=false}::older)) w fun e u' w'=>
   e= .returned (.tuple #[])/\u'= .panicking ({v:= .iface 142 (.agg #[aa k,aa p]),recovered:=true}::older)/\
    w'=(((w.setCell (ai ab 0) (aa k)).setCell (ai bb 0) (aa p)).alloc (ak #[aa k,aa p] 142)).drew:=by
 have hta:=In k p;have la:=aN _ _ ha;have lb:=aN _ _ hb;simp only at la lb;obtain⟨p1,p2,p3,p4⟩:=eK (w:=w) (b:=ab) la;obtain⟨s1,s2,s3,s4⟩:=eK (w:=w) (b:=bb) lb;have hba:¬bb=ab:=fun e=>hab e.symm
 refine callsD_of_wpS Tryz.func82 rfl fun c₀ cs hu=> ?_
 apply wpS_seq;apply wpS_region;simp[wpOpsS,go_sem,recoverD,hu,Tryz.ntmps82,Exit.thenS];refine wpS_of_wp ?_;rw[rD];go_wp2;go_region
 exact⟨rfl,_,rfl,.tuple #[],by simp[results,Tryz.results82],rfl,rfl,rfl⟩
theorem vS {fn:Func}{p q r:Tmp}{ty ty' ty'':TypeId}{b b1 b2:Nat}{cs:Array Value}{fs:Array Field}{v1 v2:Value}(h:fn.results= #[.cell p ty,.cell q ty',.cell r ty''])(tmps:Array Value)(W:an)
  (hp:tmps.getD p undef=ag b) (hq:tmps.getD q undef=ag b1) (hr:tmps.getD r undef=ag b2) (K:de W b cs ty)
  (hu:Tryz.prog.underlying ty=some (.struct fs)) (hi:(Tryz.prog.info? ty).map (·.size)=some cs.size) (h1:(loadVar ty' (ai b1 0)).run Tryz.prog W= .ok v1 W) (h2:(loadVar ty'' (ai b2 0)).run Tryz.prog W= .ok v2 W):
  (results fn tmps).run Tryz.prog W= .ok (.tuple #[.agg cs,v1,v2]) W:=by
 have hl:=run_loadVar_row (P:=Tryz.prog) W b ty ty cs (0,0) _ K hu rfl hi;have N2:tmps[p]?.getD undef=ag b:=by simpa using hp
 have N3:tmps[q]?.getD undef=ag b1:=by simpa using hq
 have N7:tmps[r]?.getD undef=ag b2:=by simpa using hr
 simp only[results,h];simp[N2,N3,N7,asAddr,hl,h1,h2]
def LM (w:an)(y:List YM)(nm:am)(e:Ending)(w':an):Prop:=
 w'=w/\((∃(i:Nat) (m:YM),y[i]?=some m/\(m.1.1.toList==nm.toList)=true/\e= .returned (.tuple #[ag m.1.2,aa 0]))\/
  ((∀m∈y,(m.1.1.toList==nm.toList)=false)/\e= .returned (.tuple #[.pointer none,aa 5])))
theorem tP (w:an)(sb:Nat)(v kv:Value)(bs:List dh)(y:List YM)(P:ap)(nm:am)(way:Int)(h1:de w sb #[v,kv] 92)(hM:d5 w P v bs y)(hl:y.length<=2001)(hw:way=1\/way=2):
  Calls Tryz.prog 44 #[ag sb,aa way,ae nm] w (LM w y nm):=by
 obtain⟨va,vc,rfl⟩:=gS hM.row.1;obtain⟨k1,k2⟩:=h1.rules
 ·go_enter Tryz.func44,Tryz.ntmps44
  rcases hw with rfl|rfl
  all_goals
   go_wp2;go_loopw [9,23] (fun _ i wr=>∃(q:Nat),q<=y.length/\i=aa q/\(∀m∈y.take q,(m.1.1.toList==nm.toList)=false)/\wr=w) (fun _ i _=>y.length-(intOf i).toNat)
   case atStart=>exact⟨0,aM _,rfl,by simp,rfl⟩
   case round=>
    obtain⟨q,hq,rfl,N7,rfl⟩:=hrel
    by_cases hlt:q<y.length
    ·obtain⟨m,hm⟩:=gx hlt;have N3:Hid (y.take (q+1)=y.take q++ [m]):=by show _=_;rw[bu,hm];rfl
     obtain⟨g,rfl,_,hgl,N2⟩:=dE hM.row.1 (by omega);have t0:=N2 wr rfl q (ft (some m.1.2)) (by simp[dV,hm]);unfold ft at t0;obtain⟨fv,fbs,N8,_,_,_⟩:=hM.msg m (aI hm);obtain⟨k3,k4⟩:=N8.rules;clear N2
     cases hc:m.1.1.toList==nm.toList with
     |true=>
      have HM:Hid (y[q]?=some m):=hm;clear hm;go_wp2;go_ret2;exact⟨rfl,.inl ⟨q,m,HM.out,hc,rfl⟩⟩
     |false=>
      clear hm;go_wp2;go_roundw
      case rel=>
       refine⟨q+1,by omega,by go_num,?_,trivial⟩;rw[N3.out];intro x hx
       rcases ba.1 hx with hx|hx
       ·exact N7 x hx
       ·rw[bU.1 hx];exact hc
      case measure=>simp[intOf];omega
    ·have hli:decide ((q:Int)<(y.length:Int))=false:=by simp;omega
     obtain rfl:q=y.length:=by omega
     rw[aY]at N7;go_wp2;go_ret2;exact⟨rfl,.inr ⟨N7,rfl⟩⟩
theorem JI (R:Fx PM)(w:an)(q0 q1 q2 q3 mb:Nat)(b:am)(hc0:w.cell? (ai q0 0)=some (aa 1))(hc1:w.cell? (ai q1 0)=some (ag mb))(hc2:w.cell? (ai q2 0)=some (ae b))
  (h:∀w0,aj w w0->Calls Tryz.prog 47 #[ag mb,ae b] w0 (jN w0 R)):
  Calls Tryz.prog 46 #[ag q0,ag q1,ag q2,ag q3] w (jN w R):=by
 obtain⟨B0,KM⟩:=di w #[ah,ae ⟨#[]⟩] 49;have d0:=(B0.cell (p:=(ai q0 0)) (aN _ _ hc0)).trans hc0;have d1:=(B0.cell (p:=(ai q1 0)) (aN _ _ hc1)).trans hc1;have d2:=(B0.cell (p:=(ai q2 0)) (aN _ _ hc2)).trans hc2;have HC:Hid (Calls Tryz.prog 47 #[ag mb,ae b] _ (jN _ R)):=h _ B0;clear h;go_enter Tryz.func46,Tryz.ntmps46
 go_wp2_with fail
 generalize w.alloc (ak #[ah,ae ⟨#[]⟩] 49)=w1 at*;refine HC.out.mono ?_
 cases R with
 |error x=>
  rintro e w2 ⟨rfl,N2⟩;unfold da;go_wp2;exact⟨rfl,rfl,cY B0 N2⟩
 |ok m=>
  rintro e w2 ⟨v,Z',rfl,hm,hZ,N2⟩;obtain⟨va,vc,rfl⟩:=hm.form;have N3:=KM.below N2 KM.lt;have C2:=cY B0 N2;have z1:=KM.lt;obtain⟨k5,k6⟩:=N3.rules;clear d0 d1 d2 hc0 hc1 hc2;go_wp2
  have N7:=hm.keep (w':=(w2.setCell (ai w.heap.size 0) (.slice va m.fs.length vc)).setCell (ai w.heap.size 1) (ae m.unk)) (fun x hx _=>by
   have:=(hZ x hx).1
   rw[dd,if_neg (by omega),dd,if_neg (by omega)])
  exact bodyPost_ret (dw Tryz.results46 _ _ rfl ((N3.set 0 _).set 1 _) Tryz.underlying49 (by kernel_rfl)) rfl ⟨_,Z',rfl,N7,fun x hx=>⟨by have:=(hZ x hx).1;omega,by simp only[ca];exact(hZ x hx).2⟩,(C2.setCell (p:=(ai w.heap.size 0)) (ay _) _).setCell (p:=(ai w.heap.size 1)) (ay _) _⟩
theorem qN {fn:Func}{p q r:Tmp}{ty:TypeId}{b:Nat}{cs:Array Value}{fs:Array Field}(h:fn.results= #[.cell p ty,.tmp q,.tmp r])(tmps:Array Value)(W:an)(hp:tmps.getD p undef=ag b)(K:de W b cs ty)
  (hu:Tryz.prog.underlying ty=some (.struct fs)) (hi:(Tryz.prog.info? ty).map (·.size)=some cs.size):
  (results fn tmps).run Tryz.prog W= .ok (.tuple #[.agg cs,tmps.getD q undef,tmps.getD r undef]) W:=by
 have hl:=run_loadVar_row (P:=Tryz.prog) W b ty ty cs (0,0) _ K hu rfl hi;have N8:tmps[p]?.getD undef=ag b:=by simpa using hp
 simp only[results,h];simp[N8,asAddr,hl]
end
theorem zH {bs:List dh}(h:ix bs){t:am}(hm:dX (dq bs) t=true):cZ t=1/\dX (ez bs) t=true:=by
 obtain⟨x,hx,N7⟩:=(gE _ _).1 hm;obtain⟨c,hc,rfl⟩:=List.mem_map.1 hx;have Ob:=(List.mem_filter.1 hc).1;exact⟨by rw[<-pt N7];exact h.nm c Ob,(gE _ _).2 ⟨_,List.mem_map.2 ⟨c,Ob,rfl⟩,N7⟩⟩
theorem Cv {bs:List dh}{t:am}(h:((dt bs).msg t).isSome=true):dX (dq bs) t=true:=by
 cases hm:dX (dq bs) t with
 |true=>rfl
 |false=>
  rw[(sS (z:=(dq bs).map fun n=>(n,0)) (by rw[bz];simp[Function.comp_def]) hm).1]at h
  cases h
theorem zN (bs:List dh):((dq bs).map fun n=>((n,0):am×Nat)).map (·.1)=dq bs:=by rw[bz];simp[Function.comp_def]
theorem FK {t:am}(h3:cZ t=3)(hk:gL 3 t=true):(dL (o8 t)=2->gy t oA=true)/\(gy t oA=true->dL (o8 t)=2):=by
 have hm:t.toList∈kW:=by have:=lJ h3;simpa [g9]using this
 unfold o8 gy;unfold gL at hk;generalize t.toList=l at hm hk
 revert l;decide+kernel
theorem tQ {bs:List dh}(h:ix bs){t:am}(h3:cZ t=3):(dt bs).base t=o8 t:=by
 rw[si h.ok (zN bs) (.inl h3)];unfold gQ;rw[if_pos h3]
theorem I6 {bs:List dh}(h:ix bs){b:dh}(hb:b∈bs)(he:b.enum=false):jB (dt bs) (mL b):=by
 intro f hf N3;obtain⟨p,hp,f0,Oe,rfl⟩:=AS.1 hf;obtain⟨_,f2,_⟩:=vL (h.ok.shape b hb p hp) Oe;rw[f2]at N3;obtain⟨k3,kg⟩:=zb h hb he hp Oe (of_decide_eq_true N3);obtain⟨w1,w2⟩:=FK k3 kg;refine⟨tC h k3,fun e=>w1 ?_,fun e=> ?_⟩
 ·rw[<-tQ h k3];exact e
 ·show dL ((dt bs).base (iz f0.key))=2;rw[tQ h k3];exact w2 e
theorem LN {bs:List dh}(h:ix bs):za (dt bs):=by
 have Oc:∀d∈(dt bs).ms,∃b,b∈bs/\b.enum=false/\d=mL b:=fun d hd=>by
  obtain⟨b,hb,rfl⟩:=List.mem_map.1 hd;have:=List.mem_filter.1 hb;exact⟨b,this.1,by simpa using this.2,rfl⟩
 refine⟨⟨fun t ht=> ?_,fun d hd=> ?_⟩,fun d hd=> ?_⟩
 ·have hk:=zH h (Cv ht);have:=(vK h (zN bs) (.inr hk)).2 ht;show dL _=2;rw[this];rfl
 ·obtain⟨b,hb,he,rfl⟩:=Oc d hd;exact I6 h hb he
 ·obtain⟨b,hb,he,rfl⟩:=Oc d hd
  cases q:gy (mL b).name eS with
  |false=>rfl
  |true=>
   have h1:=h.nm b hb;rw[pt (fX.1 q:b.name.1.toList=eS.toList)]at h1;exact absurd h1 (by decide+kernel)
theorem ol {w:an}{P:ap}{v:Value}{bs:List dh}{y:List YM}(hM:d5 w P v bs y)(h:ix bs){t:am}{d:MT}(ht:(dt bs).msg t=some d):
  ∃(i:Nat) (m:YM),y[i]?=some m/\uK (jc (y.map (·.1))) t=some m.1.2/\m.1.1=d.name/\m.1.1.toList=t.toList/\gD w (fun b=>b<w.heap.size) (jc (y.map (·.1))) m.1.2 d.name m.2/\ja (dt bs) (jc (y.map (·.1))) d m.2/\jB (dt bs) d:=by
 have hz:(y.map (·.1)).map (·.1)=dq bs:=by rw[bz];exact hM.names
 have hm:=Cv (bs:=bs) (t:=t) (by rw[ht];rfl);obtain⟨i,b,blk,h1,h2,h3,h4⟩:=nh h.ok hz hm;rw[ht]at h2
 cases h2
 obtain⟨m,Oa,hg⟩:=hM.g i b h1;rw[aO,Oa]at h3;have e:m.1=(b.name.1,blk):=Option.some.inj h3;have N8:=List.mem_filter.1 (aI h1);have Od:b.enum=false:=by simpa using N8.2
 have hk:=zH h hm;have N2:=hM.msg m (aI Oa);rw[e]at N2
 have Of:b.name.1.toList=t.toList:=by
  obtain⟨i2,b2,q1,q2,q3⟩:=m9 (t:=t) (l:=eM bs) (by
   obtain⟨x,hx,N7⟩:=(gE _ _).1 hm;obtain⟨c,hc,rfl⟩:=List.mem_map.1 hx
   exact⟨c,hc,N7⟩)
  have:(dt bs).msg t=some (mL b2):=q3;rw[ht]at this;have e2:=congrArg MT.name (Option.some.inj this);have e3:b.name.1=b2.name.1:=e2;rw[e3];exact q2
 refine⟨i,m,Oa,?_,by rw[e];rfl,by rw[e];exact Of,?_,LI h hz N8.1 Od hg,I6 h N8.1 Od⟩
 ·unfold uK;rw[if_neg (by rw[hk.1];decide),h4,e]
 ·rw[e];exact N2.mono fun b _ hl=>hl
theorem qO {w:an}{P:ap}{v:Value}{bs:List dh}{y:List YM}(hM:d5 w P v bs y)(h:ix bs)(hu:UOK w):p8 w w.heap.size (dt bs) (jc (y.map (·.1))):=
 ⟨hu,hu.lt1,hu.lt2,ay _,fun _ _ ht=>by
  obtain⟨_,m,_,h1,_,_,h2,h3,_⟩:=ol hM h ht
  exact⟨m.1.2,m.2,h1,h2,h3⟩⟩
section
attribute [local go_sem↓] Go.wp_at_zero Go.wp_at_succ
def yi (f:Nat):Value:= .func (.func f) #[] #[]
def Cw (k:Nat):Nat:=if dL k=0 then 182 else if dL k=5 then 352 else 353
def zI (k:Nat):Option Nat:=
 if k=0\/k=9\/k=15 then some 347 else if k=2 then some 348 else if k=4 then some 349 else if k=5 then some 350 else if k=6 then some 351 else none
def kF (w:an)(Q:ap)(k:Nat)(v:Value):Prop:=
 (zI k=none/\v=yi (Cw k))\/∃t nb bb,zI k=some t/\v= .func (.func 447) #[] #[ag nb,ag bb]/\de w nb #[yi t] 423/\de w bb #[yi (Cw k)] 489/\Q nb/\Q bb
theorem kF.keep {w w':an}{Q:ap}{k:Nat}{v:Value}(h:kF w Q k v)(hk:∀b,Q b->b<w.heap.size->w'.heap[b]?=w.heap[b]?):kF w' Q k v:=by
 rcases h with h|⟨t,nb,bb,h1,h2,h3,h4,h5,h6⟩
 ·exact .inl h
 ·exact .inr ⟨t,nb,bb,h1,h2,(hk nb h5 h3.lt).trans h3,(hk bb h6 h4.lt).trans h4,h5,h6⟩
theorem FL (w:an)(f t:Nat):Calls Tryz.prog 444 #[yi f,yi t] w fun e w'=>∃nb bb,e= .returned (.func (.func 447) #[] #[ag nb,ag bb])/\
  de w' nb #[yi t] 423/\de w' bb #[yi f] 489/\w.heap.size<=nb/\w.heap.size<=bb/\aj w w':=by
 have hmf:= @rh;unfold yi;go_enter Tryz.func444,Tryz.ntmps444
 go_wp2;go_ret;exact⟨_,_,rfl,de.newAt (by simp) _ _,(de.new w _ _).alloc _,by omega,ay _,((Below.refl _ _).alloc (ay _) _).alloc (by simp) _⟩
def LO (w:an)(k:Nat)(e:Ending)(w':an):Prop:=∃v,e= .returned v/\kF w' (fun b=>w.heap.size<=b) k v/\aj w w'
theorem Bg (w:an)(k:Nat)(hn:gF k=true):Calls Tryz.prog 437 #[aa k] w (LO w k):=by
 have hk:k=0\/k=1\/k=2\/k=3\/k=4\/k=5\/k=6\/k=7\/k=8\/k=9\/k=10\/k=11\/k=12\/k=15:=by
  unfold gF at hn;simp at hn;omega
 clear hn;have hT:∀f t,Calls Tryz.prog 444 #[.func (.func f) #[] #[],.func (.func t) #[] #[]] w _:=FL w
 rcases hk with rfl|rfl|rfl|rfl|rfl|rfl|rfl|rfl|rfl|rfl|rfl|rfl|rfl|rfl
 all_goals
  go_enter Tryz.func437,Tryz.ntmps437
  go_wp2_with (first|(go_at_call 444;refine(hT _ _).mono ?_;rintro e w' ⟨nb,bb,rfl,h1,h2,h3,h4,h5⟩))
  go_ret
  first
   |exact⟨_,rfl,.inl ⟨by decide,rfl⟩,Below.refl _ _⟩
   |exact⟨_,rfl,.inr ⟨_,nb,bb,rfl,rfl,h1,h2,h3,h4⟩,h5⟩
theorem dl.ofDrew {bs:au}{w w':an}(h:dl bs w.drew w'):dl bs w w':=⟨h.os,h.tape,h.output,h.size,h.block⟩
def jO (v:Value)(args:aq)(w:an)(R:Ending->an->Prop):Prop:=∃(f:Nat) (cap:aq),v= .func (.func f) #[] cap.toArray/\(∀args w,(callFunc f args).run Tryz.prog w= .ok (.enter f args) w)/\Calls Tryz.prog f (args++cap).toArray w R
def qP (s:am)(a k:Nat):Fx (Int×Nat):=if dL k=0 then fA s a s.size else if dL k=5 then fh s a 4 else fh s a 8
theorem Dt {s:am}{a k:Nat}{x:Int×Int}(h:qP s a k= .error x):eX s a k= .error x:=by
 unfold eX;unfold qP at h;rw[h]
theorem FM {s:am}{a k:Nat}{x:Int×Nat}(h:qP s a k= .ok x):eX s a k= .ok (eW k x.1,x.2):=by
 unfold eX;unfold qP at h;rw[h]
theorem Iq {s:am}{a:Nat}{x:Int×Nat}(h:fA s a s.size= .ok x):0<=x.1/\x.1<18446744073709551616:=by
 obtain⟨n,z⟩:=x;obtain⟨v0,v1,v2,v3⟩:=fW h;exact⟨by assumption,by assumption⟩
def ME (n:Int):Int:=if 0<n then 1 else 0
theorem FN (w:an)(n:Int)(h0:0<=n):Calls Tryz.prog 351 #[.int .u64 n] w fun e w'=>e= .returned (.int .u64 (ME n))/\w'=w:=sk w n h0
theorem Bh (w:an)(rb:Nat)(s:am)(a:Nat)(deep:Int)(k t nb bb:Nat)(h:dn w rb s a deep)(ha:a<=s.size)(hs:s.size<=140737488355328)(ht:zI k=some t)(hn:de w nb #[yi t] 423)(hb:de w bb #[yi (Cw k)] 489)(hnr:nb≠rb)(hbr:bb≠rb):
  Calls Tryz.prog 447 #[ag rb,ag nb,ag bb] w (ni w rb s deep (eX s a k) (Value.int .u64)):=by
 have hk:k=0\/k=2\/k=4\/k=5\/k=6\/k=9\/k=15:=by
  unfold zI at ht
  by_cases h1:k=0\/k=9\/k=15
  ·omega
  ·rw[if_neg h1]at ht
   by_cases h2:k=2
   ·omega
   ·rw[if_neg h2]at ht
    by_cases h3:k=4
    ·omega
    ·rw[if_neg h3]at ht
     by_cases h4:k=5
     ·omega
     ·rw[if_neg h4]at ht
      by_cases h5:k=6
      ·omega
      ·rw[if_neg h5]at ht;cases ht
 have hV:=gj w.drew rb s a deep h hs;have hF:=qB w.drew rb s a deep h ha hs;have N3:=hn.drew;have N7:=hb.drew;have n0:=N3.cell 0;have b0:=N7.cell 0;obtain⟨r,HR⟩:∃r,Hid (eX s a k=r):=⟨_,rfl⟩;have HE:Hid (∀x,qP s a k= .error x->r= .error x):=fun x hx=>HR.out.symm.trans (Dt hx)
 have HO:Hid (∀x,qP s a k= .ok x->r= .ok (eW k x.1,x.2)):=fun x hx=>HR.out.symm.trans (FM hx)
 rw[HR.out];obtain⟨fb,Oa⟩:∃fb,Cw k=fb:=⟨_,rfl⟩
 have N8:fb=if k=9 then 352 else 182:=by
  rw[<-Oa]
  rcases hk with rfl|rfl|rfl|rfl|rfl|rfl|rfl<;>decide
 rw[Oa]at b0;unfold yi at n0 b0
 rcases hk with rfl|rfl|rfl|rfl|rfl|rfl|rfl
 all_goals
  cases ht
  simp at N8;subst N8;clear Oa;go_enter Tryz.func447,Tryz.ntmps447
  go_upto_region 1 with fail
  go_region_held2 (fun W=>W.cell? (ai nb 0)=w.drew.cell? (ai nb 0)/\W.cell? (ai bb 0)=w.drew.cell? (ai bb 0))
   (first|exact a1|exact⟨rfl,rfl⟩)
   (first
    |(
      go_at_call 182
      refine hV.mono ?_;intro e w1 hq
      rcases hq.part with⟨x,hx,rfl,N2⟩|⟨x,hx,rfl,N2,Ob⟩
      ·obtain rfl:=HE.out x hx;unfold da;go_wp2;exact⟨rfl,N2.ofDrew,rfl⟩
      obtain rfl:=HO.out x hx;obtain⟨v0,v1⟩:=Iq hx
      have a1:w1.cell? (ai nb 0)=w.drew.cell? (ai nb 0)/\w1.cell? (ai bb 0)=w.drew.cell? (ai bb 0):=⟨((N3.kept N2 (by simpa using hnr)).cell 0).trans (N3.cell 0).symm,((N7.kept N2 (by simpa using hbr)).cell 0).trans (N7.cell 0).symm⟩)
    |(
      go_at_call 352
      refine hF.mono ?_;intro e w1 hq
      rcases hq.part with⟨x,hx,rfl,N2⟩|⟨x,hx,rfl,N2,Ob⟩
      ·obtain rfl:=HE.out x hx;unfold da;go_wp2;exact⟨rfl,N2.ofDrew,rfl⟩
      obtain rfl:=HO.out x hx
      have a1:w1.cell? (ai nb 0)=w.drew.cell? (ai nb 0)/\w1.cell? (ai bb 0)=w.drew.cell? (ai bb 0):=⟨((N3.kept N2 (by simpa using hnr)).cell 0).trans (N3.cell 0).symm,((N7.kept N2 (by simpa using hbr)).cell 0).trans (N7.cell 0).symm⟩)
    |(go_at_call 347;refine(jm _ _).mono ?_;rintro e w2 ⟨rfl,rfl⟩)
    |(go_at_call 348;refine(pS _ _).mono ?_;rintro e w2 ⟨rfl,rfl⟩)
    |(go_at_call 349;refine(EI _ _).mono ?_;rintro e w2 ⟨rfl,rfl⟩)
    |(go_at_call 350;refine(AF _ _ v0 v1).mono ?_;rintro e w2 ⟨rfl,rfl⟩)
    |(go_at_call 351;refine(FN _ _ v0).mono ?_;rintro e w2 ⟨rfl,rfl⟩))
  go_wp2;go_ret;exact⟨N2.ofDrew,rfl,Ob⟩
theorem LP {w:an}{Q:ap}{k:Nat}{v:Value}(hv:kF w Q k v)(rb:Nat)(s:am)(a:Nat)(deep:Int)(h:dn w rb s a deep)(ha:a<=s.size)(hs:s.size<=140737488355328)(hQ:¬Q rb)(hn:gF k=true):
  jO v [ag rb] w (ni w rb s deep (eX s a k) (Value.int .u64)):=by
 rcases hv with⟨ht,rfl⟩|⟨t,nb,bb,ht,rfl,h1,h2,q1,q2⟩
 ·have hk:k=1\/k=3\/k=7\/k=8\/k=10\/k=11\/k=12:=by
   have Oc:k<=15:=by unfold gF at hn;simp at hn;omega
   have:∀j:Nat,j<=15->gF j=true->zI j=none->j=1\/j=3\/j=7\/j=8\/j=10\/j=11\/j=12:=by decide
   exact this k Oc hn ht
  have e:∀(r:Fx (Int×Nat)),(match r with| .error x=> .error x| .ok x=> .ok (x.1,x.2):Fx (Int×Nat))=r:=fun r=>by cases r<;>rfl
  rcases hk with rfl|rfl|rfl|rfl|rfl|rfl|rfl
  ·exact⟨182,[],rfl,enters_of Tryz.func182 (by kernel_rfl) rfl,by have:=gj w rb s a deep h hs;rw[<-e (fA s a s.size)]at this;exact this⟩
  ·exact⟨182,[],rfl,enters_of Tryz.func182 (by kernel_rfl) rfl,by have:=gj w rb s a deep h hs;rw[<-e (fA s a s.size)]at this;exact this⟩
  ·exact⟨352,[],rfl,enters_of Tryz.func352 (by kernel_rfl) rfl,by have:=qB w rb s a deep h ha hs;rw[<-e (fh s a 4)]at this;exact this⟩
  ·exact⟨353,[],rfl,enters_of Tryz.func353 (by kernel_rfl) rfl,by have:=oc w rb s a deep h ha hs;rw[<-e (fh s a 8)]at this;exact this⟩
  ·exact⟨353,[],rfl,enters_of Tryz.func353 (by kernel_rfl) rfl,by have:=oc w rb s a deep h ha hs;rw[<-e (fh s a 8)]at this;exact this⟩
  ·exact⟨352,[],rfl,enters_of Tryz.func352 (by kernel_rfl) rfl,by have:=qB w rb s a deep h ha hs;rw[<-e (fh s a 4)]at this;exact this⟩
  ·exact⟨353,[],rfl,enters_of Tryz.func353 (by kernel_rfl) rfl,by have:=oc w rb s a deep h ha hs;rw[<-e (fh s a 8)]at this;exact this⟩
 ·exact⟨447,[_,_],rfl,enters_of Tryz.func447 (by kernel_rfl) rfl,Bh w rb s a deep k t nb bb h ha hs ht h1 h2 (fun e=>hQ (e▸q1)) (fun e=>hQ (e▸q2))⟩
def kG (w:an)(Q:ap)(k:Nat)(v:Value):Prop:=
 (k=13/\v=yi 435)\/(k=14/\v=yi 436)\/(gF k=true/\∃nb nv,v= .func (.func 438) #[] #[ag nb]/\de w nb #[nv] 489/\Q nb/\kF w Q k nv)
theorem kG.keep {w w':an}{Q:ap}{k:Nat}{v:Value}(h:kG w Q k v)(hk:∀b,Q b->b<w.heap.size->w'.heap[b]?=w.heap[b]?):kG w' Q k v:=by
 rcases h with h|h|⟨h0,nb,nv,h1,h2,h3,h4⟩
 ·exact .inl h
 ·exact .inr (.inl h)
 ·exact .inr (.inr ⟨h0,nb,nv,h1,(hk nb h3 h2.lt).trans h2,h3,h4.keep hk⟩)
theorem kF.form {w:an}{Q:ap}{k:Nat}{v:Value}(h:kF w Q k v):∃f cap,v= .func (.func f) #[] cap:=by
 rcases h with⟨_,rfl⟩|⟨t,nb,bb,_,rfl,_⟩
 ·exact⟨_,_,rfl⟩
 ·exact⟨_,_,rfl⟩
theorem kF.mono {w:an}{Q Q':ap}{k:Nat}{v:Value}(h:kF w Q k v)(hq:∀b,Q b->Q' b):kF w Q' k v:=by
 rcases h with h|⟨t,nb,bb,h1,h2,h3,h4,h5,h6⟩
 ·exact .inl h
 ·exact .inr ⟨t,nb,bb,h1,h2,h3,h4,hq _ h5,hq _ h6⟩
def LQ (w:an)(k:Nat)(e:Ending)(w':an):Prop:=∃v,e= .returned v/\kG w' (fun b=>w.heap.size<=b) k v/\aj w w'
theorem vT (w:an)(k:Nat)(pv:Value)(hk:k<=15):Calls Tryz.prog 420 #[.agg #[aa k,pv]] w (LQ w k):=by
 have hmf:= @rh;have B0:∀o,aj w (w.alloc o):=fun o=>(Below.refl w.heap.size w).alloc (ay _) o
 have KT:=de.new w #[aa k,pv] 216;obtain⟨k1,k2⟩:=KT.rules
 by_cases h13:k=13
 ·subst h13;go_enter Tryz.func420,Tryz.ntmps420
  go_wp2;go_ret;exact⟨_,rfl,.inl ⟨rfl,rfl⟩,B0 _⟩
 ·by_cases h14:k=14
  ·subst h14;go_enter Tryz.func420,Tryz.ntmps420
   go_wp2;go_ret;exact⟨_,rfl,.inr (.inl ⟨rfl,rfl⟩),B0 _⟩
  ·have hn:gF k=true:=by
    have:∀j:Nat,j<=15->j≠13->j≠14->gF j=true:=by decide
    exact this k hk h13 h14
   have e13:((k:Int)==13)=false:=by simp;omega
   have e14:((k:Int)==14)=false:=by simp;omega
   have hN:=Bg (w.alloc (ak #[aa k,pv] 216)) k hn;go_enter Tryz.func420,Tryz.ntmps420
   go_wp2_with fail
   refine hN.mono ?_;rintro e w1 ⟨nv,rfl,N2,N3⟩;obtain⟨nf,ncap,rfl⟩:=N2.form;go_wp2;go_ret;have C1:=cY (B0 _) N3;refine⟨_,rfl,.inr (.inr ⟨hn,_,_,rfl,de.new w1 _ _,C1.size,?_⟩),C1.alloc C1.size _⟩;exact(N2.mono (fun b hb=>by simp at hb;omega)).keep fun b _ hl=>Below.heap_alloc _ _ b hl
theorem xG {w w1 w2:an}{rb vb:Nat}{s:am}{z:Nat}{deep:Int}(x:LV)(k1:dl [rb] w w1)(v1:de w1 vb #[.int .u64 0,ae ⟨#[]⟩,ah,ae ⟨#[]⟩] 55)(hv:w.heap.size<=vb)(hr:rb<w.heap.size)(k2:dl [rb] w1 w2)(r2:dn w2 rb s z deep):
  de (((((w2.setCell (ai vb 0) (.int .u64 x.1)).setCell (ai vb 1) (ae x.2)).setCell (ai vb 2) (ah)).setCell (ai vb 3) (ae ⟨#[]⟩))) vb #[.int .u64 x.1,ae x.2,ah,ae ⟨#[]⟩] 55/\
  dl [rb] w (((((w2.setCell (ai vb 0) (.int .u64 x.1)).setCell (ai vb 1) (ae x.2)).setCell (ai vb 2) (ah)).setCell (ai vb 3) (ae ⟨#[]⟩)))/\
  dn (((((w2.setCell (ai vb 0) (.int .u64 x.1)).setCell (ai vb 1) (ae x.2)).setCell (ai vb 2) (ah)).setCell (ai vb 3) (ae ⟨#[]⟩))) rb s z deep:=by
 have v2:de w2 vb #[.int .u64 0,ae ⟨#[]⟩,ah,ae ⟨#[]⟩] 55:=(k2.block _ v1.lt (by simp;omega)).trans v1;refine⟨(((v2.set 0 _).set 1 _).set 2 _).set 3 _,?_,(((de.other r2 0 _ (by omega)).other 1 _ (by omega)).other 2 _ (by omega)).other 3 _ (by omega)⟩;have k3:=k1.trans k2
 exact⟨k3.os,k3.tape,k3.output,by simpa using k3.size,fun i hi hn=>by
  rw[dd,if_neg (by omega),dd,if_neg (by omega),dd,if_neg (by omega),dd,if_neg (by omega)]
  exact k3.block i hi hn⟩
theorem FP {w:an}{Q:ap}{k:Nat}{v:Value}(hv:kG w Q k v)(rb:Nat)(s:am)(a:Nat)(deep:Int)(h:dn w rb s a deep)(ha:a<=s.size)(hs:s.size<=140737488355328)(hQ:¬Q rb)(hu:UOK w)(hu1:rb≠2)(hu2:rb≠3):
  jO v [ag rb] w (ni w rb s deep (eO s a k) rN):=by
 have K1:dl [rb] w (w.alloc (ak #[.int .u64 0,ae ⟨#[]⟩,ah,ae ⟨#[]⟩] 55)):=(dl.refl _ _).alloc _;have h1:dn (w.alloc (ak #[.int .u64 0,ae ⟨#[]⟩,ah,ae ⟨#[]⟩] 55)) rb s a deep:=de.alloc h _;have V1:=de.new w #[.int .u64 0,ae ⟨#[]⟩,ah,ae ⟨#[]⟩] 55;have Ob:UOK (w.alloc (ak #[.int .u64 0,ae ⟨#[]⟩,ah,ae ⟨#[]⟩] 55)):=hu.keep (K1.block _ hu.lt1 (by simp;exact fun e=>hu1 e.symm)) (K1.block _ hu.lt2 (by simp;exact fun e=>hu2 e.symm));have N8:rb<w.heap.size:=de.lt h;obtain⟨r,HR⟩:∃r,Hid (eO s a k=r):=⟨_,rfl⟩;rw[HR.out]
 rcases hv with⟨rfl,rfl⟩|⟨rfl,rfl⟩|⟨hn,nb,nv,rfl,Oc,qn,Od⟩
 ·refine⟨435,[],rfl,enters_of Tryz.func435 (by kernel_rfl) rfl,?_⟩;have HV:Hid (eO s a 13=(match oO s a with| .error x=> .error x| .ok x=> .ok ((0,x.1),x.2))):=rfl;show Calls Tryz.prog 435 #[ag rb] w _;go_enter Tryz.func435,Tryz.ntmps435
  go_wp2_with fail
  generalize(w.alloc (ak #[.int .u64 0,ae ⟨#[]⟩,ah,ae ⟨#[]⟩] 55))=w1 at*;refine(EJ w1 rb s a deep h1 hs Ob hu1 hu2).mono ?_
  cases hv:oO s a with
  |error x=>
   rintro e w2 ⟨N2,he⟩;obtain rfl:e=da x.1 x.2:=he;obtain rfl:r= .error x:=by rw[<-HR.out,HV.out,hv]
   unfold da;go_wp2;exact⟨rfl,K1.trans N2,rfl⟩
  |ok x=>
   rintro e w2 ⟨N2,rfl,hr⟩;obtain rfl:r= .ok (((0,x.1):LV),x.2):=by rw[<-HR.out,HV.out,hv]
   obtain⟨q1,q2,q3⟩:=xG ((0,x.1):LV) K1 V1 (ay _) N8 N2 hr;obtain⟨y7,y8⟩:=(show de w2 w.heap.size _ _ from(N2.block _ V1.lt (by simp;omega)).trans V1).rules;go_wp2;exact bodyPost_ret (dw Tryz.results435 _ _ rfl q1 Tryz.underlying55 (by kernel_rfl)) rfl ⟨q2,rfl,q3⟩
 ·refine⟨436,[],rfl,enters_of Tryz.func436 (by kernel_rfl) rfl,?_⟩;have HV:Hid (eO s a 14=(match lr s a with| .error x=> .error x| .ok x=> .ok ((0,x.1),x.2))):=rfl;show Calls Tryz.prog 436 #[ag rb] w _;go_enter Tryz.func436,Tryz.ntmps436
  go_wp2_with fail
  generalize(w.alloc (ak #[.int .u64 0,ae ⟨#[]⟩,ah,ae ⟨#[]⟩] 55))=w1 at*;refine(BY w1 rb s a deep h1 hs).mono ?_
  cases hv:lr s a with
  |error x=>
   rintro e w2 ⟨N2,he⟩;obtain rfl:e=da x.1 x.2:=he;obtain rfl:r= .error x:=by rw[<-HR.out,HV.out,hv]
   unfold da;go_wp2;exact⟨rfl,K1.trans N2,rfl⟩
  |ok x=>
   rintro e w2 ⟨N2,rfl,hr⟩;obtain rfl:r= .ok (((0,x.1):LV),x.2):=by rw[<-HR.out,HV.out,hv]
   obtain⟨q1,q2,q3⟩:=xG ((0,x.1):LV) K1 V1 (ay _) N8 N2 hr;obtain⟨y7,y8⟩:=(show de w2 w.heap.size _ _ from(N2.block _ V1.lt (by simp;omega)).trans V1).rules;go_wp2;exact bodyPost_ret (dw Tryz.results436 _ _ rfl q1 Tryz.underlying55 (by kernel_rfl)) rfl ⟨q2,rfl,q3⟩
 ·have N3:k≠13/\k≠14:=by
   constructor
   ·intro e;rw[e]at hn;exact absurd hn (by decide)
   ·intro e;rw[e]at hn;exact absurd hn (by decide)
  have HV:Hid (eO s a k=(match eX s a k with| .error x=> .error x| .ok x=> .ok ((x.1,⟨#[]⟩),x.2))):=by
   show eO s a k=_;unfold eO;rw[if_neg N3.1,if_neg N3.2]
   all_goals (cases eX s a k<;>rfl)
  refine⟨438,[ag nb],rfl,enters_of Tryz.func438 (by kernel_rfl) rfl,?_⟩;have Oa:kF (w.alloc (ak #[.int .u64 0,ae ⟨#[]⟩,ah,ae ⟨#[]⟩] 55)) Q k nv:=Od.keep fun b _ hl=>Below.heap_alloc _ _ b hl
  obtain⟨f,cap,rfl,eg,N7⟩:=LP Oa rb s a deep h1 ha hs hQ hn;have n0:=(Oc.alloc (ak #[.int .u64 0,ae ⟨#[]⟩,ah,ae ⟨#[]⟩] 55)).cell 0;simp only[List.getElem?_toArray,ci]at n0;show Calls Tryz.prog 438 #[ag rb,ag nb] w _;go_enter Tryz.func438,Tryz.ntmps438
  go_wp2_with fail
  clear n0;generalize(w.alloc (ak #[.int .u64 0,ae ⟨#[]⟩,ah,ae ⟨#[]⟩] 55))=w1 at*;refine N7.mono ?_;clear N7
  cases hv:eX s a k with
  |error x=>
   rintro e w2 ⟨N2,he⟩;obtain rfl:e=da x.1 x.2:=he;obtain rfl:r= .error x:=by rw[<-HR.out,HV.out,hv]
   unfold da;go_wp2;exact⟨rfl,K1.trans N2,rfl⟩
  |ok x=>
   rintro e w2 ⟨N2,rfl,hr⟩;obtain rfl:r= .ok (((x.1,⟨#[]⟩):LV),x.2):=by rw[<-HR.out,HV.out,hv]
   obtain⟨q1,q2,q3⟩:=xG ((x.1,⟨#[]⟩):LV) K1 V1 (ay _) N8 N2 hr;obtain⟨y7,y8⟩:=(show de w2 w.heap.size _ _ from(N2.block _ V1.lt (by simp;omega)).trans V1).rules;go_wp2;exact bodyPost_ret (dw Tryz.results438 _ _ rfl q1 Tryz.underlying55 (by kernel_rfl)) rfl ⟨q2,rfl,q3⟩
end
end Go.Proofs.YtfebdimolnobaaaGreatDoor
