import Derived.Test.YtfebdimolnobaaaGreatDoorMnG
set_option maxRecDepth 100000
set_option maxHeartbeats 8000000
set_option linter.all false
namespace Go.Proofs.YtfebdimolnobaaaGreatDoor
open Go.RowKit Go.Proofs.Tryz
section
open Go.ChangeShapes Go.WideShapes Go.ChangeAt Go.RowKit Go.Proofs.YtfebdimolnobaaaGreatDoor.Rows
noncomputable def II (os:Os):aw:=
 {World.doorLaid prog 400 os with heap:=(World.doorLaid prog 400 os).heap.modify 2 fun
  | .cells _ t fr=> .cells (Lib.firstTab.map λz=>Value.int .u8 z).toArray t fr
  |o=>o}
def Dd:laidOutB prog=true:=Vh
def Nx (os:Os)(args:aq):laidMetH prog unknownUptoRow.laid ((II os).forCall (λ_ _=>0) ⟨#[],args,[]⟩).memory:=
 laidMetH_of_parts3 (fuel:=8) (laidMet_of_run' 8 Vh Vh) Vh Vh
def Fa (os:Os){H:Type}(enc:TypeId×Value->H):
  (OpenSpec.upto unknownSpec).preRow enc prog f11 unknownUptoRow.domain false unknownUptoRow.laid ((II os).forCall (λ_ _=>0) ⟨#[],#[ai,ai,ai],[]⟩).memory #[ai,ai,ai]:=by
 have hw:(DataW.whole enc prog ((II os).forCall (λ_ _=>0) ⟨#[],#[ai,ai,ai],[]⟩).memory f11.params.toList (OpenSpec.upto unknownSpec).vars false #[Value.slice none 0 0,ai,ai].toList 8).map (λx=>(x.1,x.2.1))=
   some ([.nil,.nil,.nil],[]):=Vh
 have⟨⟨x1,x2,x3⟩,hx,hx1⟩:=bi.1 hw;simp only[Prod.mk.injEq]at hx1;obtain⟨rfl,rfl⟩:=hx1;refine OpenSpec.preRow_of_cond 8 hx Vh (λk hk=> ?_) Vh (Nx os _);obtain rfl:uptoSmall=k:=Option.some.inj hk;rfl
def Ze (os:Os)(started:os.Started)(H:Type)(enc:TypeId×Value->H)(F:Stop.Interp):
  ReturnsInHanded {} Tryz.checked os 11 .any ((OpenSpec.upto unknownSpec).preRow enc prog f11 unknownUptoRow.domain false unknownUptoRow.laid) (((OpenSpec.upto unknownSpec).at F).post enc prog f11 false true false false):=by
 refine returnsInHanded_of_row (C:=Tryz.checked) (s:=OpenSpec.upto unknownSpec) own started Vh func11
  (witness_row_atRef (enc:=enc) (C:=Tryz.checked) false (II os) #[ai,ai,ai] rfl Vh Vh Vh (Fa os enc)) ?_
 intro W base args ds gs before Vq hW _ Vr _ hL _ _;have Vp:∀(j:Nat) t v,f11.params[j]?=some t->args[j]?=some v->Value.okWide prog W .any base t v:=Vq;have Vw:=hW;obtain⟨p,q,Vx,Vy,rfl,_,_⟩:=hW;have hA:DataW.TrodAll enc prog W 0 (λ_=>true) true f11.params.toList args.toList ds p:=Vx;rw[params11]at hA Vp;obtain⟨v0,v1,v2,d0,d1,d2,p0,p1,p2,rfl,rfl,rfl,h0,h1,h2⟩:=trodAll_three hA;obtain⟨rfl,rfl⟩:=trodVars_none Vy;obtain⟨a0,n0,c0,rfl⟩:=okWide_slice underlying35 (Vp 0 35 v0 rfl rfl);have⟨Vt,hr0,hl0,Vz⟩:=E7 h0;obtain⟨a1,n1,c1,rfl⟩:=okWide_slice underlying35 (Vp 1 35 v1 rfl rfl);have⟨Vu,VA,hl1,VB⟩:=E7 h1;obtain⟨a2,n2,c2,rfl⟩:=okWide_slice underlying35 (Vp 2 35 v2 rfl rfl);have⟨Vv,VC,hl2,VD⟩:=E7 h2;have hk:uptoBulk d0+(uptoBulk d1+(uptoBulk d2+0))<=1048576:=(by have:=Vr uptoSmall rfl;exact of_decide_eq_true this);have⟨hg,VE,hu⟩:=E9 hL;clear Vx Vy Vq;refine(Zm W (.slice a0 n0 c0) (.slice a1 n1 c1) (.slice a2 n2 c2) Vt Vu Vv hg VE hu hr0 Vc Vz VA Vc VB VC Vc VD).V ?_;rintro e W' ⟨rfl,bel⟩;have e1:((OpenSpec.upto unknownSpec).at F).fn H ([d0,d1,d2]++ [])={results:= [.lit (.bool true)],args:= [d0,d1,d2]}:=rfl;have Vs:∀x∈p0++(p1++p2),x.block<W.heap.size:=λx hx=>by simpa using Vw.lt x (by simpa using hx)
 refine⟨_,rfl,_,_,_,[],p0++(p1++p2),[],Vw,?_,?_,?_,bel.frame _,λh=>by cases h⟩;.rw[e1];exact trodAll_mk1 (shut_bool underlying4 _)
 .rw[e1];exact trodAll_mk3 (Below.trod Dd Vh (of_decide_eq_true Vh) h0 bel λx hx=>Vs x (by simp[hx])) (Below.trod Dd Vh (of_decide_eq_true Vh) h1 bel λx hx=>Vs x (by simp[hx])) (Below.trod Dd Vh (of_decide_eq_true Vh) h2 bel λx hx=>Vs x (by simp[hx]))
 .rw[e1];rfl
end
end Go.Proofs.YtfebdimolnobaaaGreatDoor
