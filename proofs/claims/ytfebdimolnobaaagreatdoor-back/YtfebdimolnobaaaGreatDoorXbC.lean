import Derived.Test.YtfebdimolnobaaaGreatDoorMnG
set_option maxRecDepth 100000
set_option maxHeartbeats 8000000
set_option linter.all false
namespace Go.Proofs.YtfebdimolnobaaaGreatDoor
open Go.RowKit Go.Proofs.Tryz
section
open Go.ChangeShapes Go.WideShapes Go.ChangeAt Go.RowKit Go.Proofs.YtfebdimolnobaaaGreatDoor.Rows
noncomputable def II (os:Os):aw:=
 {World.doorLaid prog 400 os with heap:=(World.doorLaid prog 400 os).heap.modify 2 fun
  | .cells _ t fr=> .cells (Lib.firstTab.map λz=>Value.int .u8 z).toArray t fr
  |o=>o}
def Dd:laidOutB prog=true:=Vh
def Nx (os:Os)(args:aq):laidMetH prog backUptoRow.laid ((II os).forCall (λ_ _=>0) ⟨#[],args,[]⟩).memory:=
 laidMetH_of_parts3 (fuel:=8) (laidMet_of_run' 8 Vh Vh) Vh Vh
def Fa (os:Os){H:Type}(enc:TypeId×Value->H):
  (OpenSpec.upto backSpec).preRow enc prog f7 backUptoRow.domain false backUptoRow.laid ((II os).forCall (λ_ _=>0) ⟨#[],#[ai,ai],[]⟩).memory #[ai,ai]:=by
 have hw:(DataW.whole enc prog ((II os).forCall (λ_ _=>0) ⟨#[],#[ai,ai],[]⟩).memory f7.params.toList (OpenSpec.upto backSpec).vars false #[Value.slice none 0 0,ai].toList 8).map (λx=>(x.1,x.2.1))=
   some ([.nil,.nil],[]):=Vh
 have⟨⟨x1,x2,x3⟩,hx,hx1⟩:=bi.1 hw;simp only[Prod.mk.injEq]at hx1;obtain⟨rfl,rfl⟩:=hx1;refine OpenSpec.preRow_of_cond 8 hx Vh (λk hk=> ?_) Vh (Nx os _);obtain rfl:uptoSmall=k:=Option.some.inj hk;rfl
def Fb (os:Os)(started:os.Started)(H:Type)(enc:TypeId×Value->H)(F:Stop.Interp):
  ReturnsInHanded {} Tryz.checked os 7 .any ((OpenSpec.upto backSpec).preRow enc prog f7 backUptoRow.domain false backUptoRow.laid) (((OpenSpec.upto backSpec).at F).post enc prog f7 false true false false):=by
 refine returnsInHanded_of_row (C:=Tryz.checked) (s:=OpenSpec.upto backSpec) own started Vh func7
  (witness_row_atRef (enc:=enc) (C:=Tryz.checked) false (II os) #[ai,ai] rfl Vh Vh Vh (Fa os enc)) ?_
 intro W base args ds gs before Vp hW _ Vr _ hL _ _;have Vq:∀(j:Nat) t v,f7.params[j]?=some t->args[j]?=some v->Value.okWide prog W .any base t v:=Vp;have Vu:=hW;obtain⟨p,q,Vw,Vx,rfl,_,_⟩:=hW;have hA:DataW.TrodAll enc prog W 0 (λ_=>true) true f7.params.toList args.toList ds p:=Vw;rw[params7]at hA Vq;obtain⟨v0,v1,d0,d1,p0,p1,rfl,rfl,rfl,h0,h1⟩:=trodAll_two hA;obtain⟨rfl,rfl⟩:=trodVars_none Vx;obtain⟨a0,n0,c0,rfl⟩:=okWide_slice underlying35 (Vq 0 35 v0 rfl rfl);have⟨Vs,hr0,hl0,Vy⟩:=E7 h0;obtain⟨a1,n1,c1,rfl⟩:=okWide_slice underlying35 (Vq 1 35 v1 rfl rfl);have⟨Vt,Vz,hl1,VA⟩:=E7 h1;have hk:uptoBulk d0+(uptoBulk d1+0)<=1048576:=(by have:=Vr uptoSmall rfl;exact of_decide_eq_true this);have⟨hg,VB,hu⟩:=E9 hL;clear Vw Vx Vp;refine(RW W (.slice a0 n0 c0) (.slice a1 n1 c1) Vs Vt hg VB hu hr0 Vc Vy Vz Vc VA).V ?_;rintro e W' ⟨rfl,bel⟩;have e1:((OpenSpec.upto backSpec).at F).fn H ([d0,d1]++ [])={results:= [.lit (.bool true)],args:= [d0,d1]}:=rfl;have Vv:∀x∈p0++p1,x.block<W.heap.size:=λx hx=>by simpa using Vu.lt x (by simpa using hx)
 refine⟨_,rfl,_,_,_,[],p0++p1,[],Vu,?_,?_,?_,bel.frame _,λh=>by cases h⟩;.rw[e1];exact trodAll_mk1 (shut_bool underlying4 _)
 .rw[e1];exact trodAll_mk2 (Below.trod Dd Vh (of_decide_eq_true Vh) h0 bel λx hx=>Vv x (by simp[hx])) (Below.trod Dd Vh (of_decide_eq_true Vh) h1 bel λx hx=>Vv x (by simp[hx]))
 .rw[e1];rfl
end
end Go.Proofs.YtfebdimolnobaaaGreatDoor
