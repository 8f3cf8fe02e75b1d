import Derived.Test.YtfebdimolnobaaaGreatDoorPdA
set_option maxRecDepth 100000
set_option maxHeartbeats 8000000
set_option linter.all false
namespace Go.Proofs.YtfebdimolnobaaaGreatDoor
open Go.RowKit
section
open Go.ChangeShapes Go.WideShapes Go.ChangeAt Go.RowKit Go.Proofs.YtfebdimolnobaaaGreatDoor.Rows
noncomputable def qr (os:Os):World:=
 {World.doorLaid Tryz.prog 400 os with heap:=(World.doorLaid Tryz.prog 400 os).heap.modify 2 fun
  | .cells _ t fr=> .cells (Lib.firstTab.map fun z=>Value.int .u8 z).toArray t fr
  |o=>o}
theorem iZ:laidOutB Tryz.prog=true:=by kernel_rfl
theorem uF (os:Os)(args:Array Value):laidMetH Tryz.prog placedUptoRow.laid ((qr os).forCall (fun _ _=>0) ⟨#[],args,[]⟩).memory:=
 laidMetH_of_parts3 (fuel:=8) (laidMet_of_run' 8 (by kernel_rfl) (by kernel_rfl)) (by kernel_rfl) (by kernel_rfl)
theorem nQ (os:Os){H:Type}(enc:TypeId×Value->H):
  (OpenSpec.upto placedSpec).preRow enc Tryz.prog Tryz.f9 placedUptoRow.domain false placedUptoRow.laid ((qr os).forCall (fun _ _=>0) ⟨#[],#[.string ⟨#[]⟩,.string ⟨#[]⟩,.string ⟨#[]⟩,.string ⟨#[]⟩],[]⟩).memory #[.string ⟨#[]⟩,.string ⟨#[]⟩,.string ⟨#[]⟩,.string ⟨#[]⟩]:=by
 have hw:(DataW.whole enc Tryz.prog ((qr os).forCall (fun _ _=>0) ⟨#[],#[.string ⟨#[]⟩,.string ⟨#[]⟩,.string ⟨#[]⟩,.string ⟨#[]⟩],[]⟩).memory Tryz.f9.params.toList (OpenSpec.upto placedSpec).vars false #[Value.string ⟨#[]⟩,.string ⟨#[]⟩,.string ⟨#[]⟩,.string ⟨#[]⟩].toList 8).map (fun x=>(x.1,x.2.1))=
   some ([.lit (.string []),.lit (.string []),.lit (.string []),.lit (.string [])],[]):=by kernel_rfl
 obtain⟨⟨x1,x2,x3⟩,hx,hx1⟩:=Option.map_eq_some_iff.1 hw;simp only[Prod.mk.injEq]at hx1;obtain⟨rfl,rfl⟩:=hx1;refine OpenSpec.preRow_of_cond 8 hx (by kernel_rfl) (fun k hk=> ?_) (by kernel_rfl) (uF os _);obtain rfl:uptoSmall=k:=Option.some.inj hk;rfl
theorem ve (os:Os)(started:os.Started)(H:Type)(enc:TypeId×Value->H)(F:Stop.Interp):
  ReturnsInHanded {} Tryz.checked os 9 .any ((OpenSpec.upto placedSpec).preRow enc Tryz.prog Tryz.f9 placedUptoRow.domain false placedUptoRow.laid) (((OpenSpec.upto placedSpec).at F).post enc Tryz.prog Tryz.f9 false true false false):=by
 refine returnsInHanded_of_row (C:=Tryz.checked) (s:=OpenSpec.upto placedSpec) own started (by kernel_rfl) Tryz.func9
  (witness_row_atRef (enc:=enc) (C:=Tryz.checked) false (qr os) #[.string ⟨#[]⟩,.string ⟨#[]⟩,.string ⟨#[]⟩,.string ⟨#[]⟩] rfl (by kernel_rfl) (by kernel_rfl) (by kernel_rfl) (nQ os enc)) ?_
 intro W base args ds gs before N3 hW _ N7 _ hL _ _;have N2:∀(j:Nat) t v,Tryz.f9.params[j]?=some t->args[j]?=some v->Value.okWide Tryz.prog W .any base t v:=N3;have Oa:=hW;obtain⟨p,q,Ob,Oc,rfl,_,_⟩:=hW;have hA:DataW.TrodAll enc Tryz.prog W 0 (fun _=>true) true Tryz.f9.params.toList args.toList ds p:=Ob;rw[Tryz.params9]at hA N2;obtain⟨v0,v1,v2,v3,d0,d1,d2,d3,p0,p1,p2,p3,rfl,rfl,rfl,h0,h1,h2,h3⟩:=trodAll_four hA;obtain⟨rfl,rfl⟩:=trodVars_none Oc;obtain⟨t0,rfl,y0⟩:=mF (okWide_string Tryz.underlying9 (N2 0 9 v0 rfl rfl)) h0;obtain⟨t1,rfl,y1⟩:=mF (okWide_string Tryz.underlying9 (N2 1 9 v1 rfl rfl)) h1;obtain⟨t2,rfl,y2⟩:=mF (okWide_string Tryz.underlying9 (N2 2 9 v2 rfl rfl)) h2;obtain⟨t3,rfl,y3⟩:=mF (okWide_string Tryz.underlying9 (N2 3 9 v3 rfl rfl)) h3
 have hk:uptoBulk d0+(uptoBulk d1+(uptoBulk d2+(uptoBulk d3+0)))<=1048576:=by
  have:=N7 uptoSmall rfl;exact of_decide_eq_true this
 obtain⟨hg,Od,hu⟩:=nP hL;clear Ob Oc N3;refine(GT W t0 t1 t2 t3 hg Od hu (by omega) (by omega)).mono ?_;rintro e W' ⟨rfl,bel⟩;have e1:((OpenSpec.upto placedSpec).at F).fn H ([d0,d1,d2,d3]++ [])={results:= [.lit (.bool true)],args:= [d0,d1,d2,d3]}:=rfl;have N8:∀x∈p0++(p1++(p2++p3)),x.block<W.heap.size:=fun x hx=>by simpa using Oa.lt x (by simpa using hx)
 refine⟨_,rfl,_,_,_,[],p0++(p1++(p2++p3)),[],Oa,?_,?_,?_,bel.frame _,fun h=>by cases h⟩
 ·rw[e1];exact trodAll_mk1 (shut_bool Tryz.underlying4 _)
 ·rw[e1];exact trodAll_mk4 (Below.trod iZ (by kernel_rfl) (of_decide_eq_true (by kernel_rfl)) h0 bel fun x hx=>N8 x (by simp[hx])) (Below.trod iZ (by kernel_rfl) (of_decide_eq_true (by kernel_rfl)) h1 bel fun x hx=>N8 x (by simp[hx])) (Below.trod iZ (by kernel_rfl) (of_decide_eq_true (by kernel_rfl)) h2 bel fun x hx=>N8 x (by simp[hx])) (Below.trod iZ (by kernel_rfl) (of_decide_eq_true (by kernel_rfl)) h3 bel fun x hx=>N8 x (by simp[hx]))
 ·rw[e1];rfl
end
end Go.Proofs.YtfebdimolnobaaaGreatDoor
