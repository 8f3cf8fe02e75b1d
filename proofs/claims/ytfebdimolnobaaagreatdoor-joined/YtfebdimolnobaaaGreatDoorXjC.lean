import Derived.Test.YtfebdimolnobaaaGreatDoorJdA
set_option maxRecDepth 100000
set_option maxHeartbeats 8000000
set_option linter.all false
namespace Go.Proofs.YtfebdimolnobaaaGreatDoor
open Go.RowKit Go.Proofs.Tryz
section
open Go.ChangeShapes Go.WideShapes Go.ChangeAt Go.RowKit Go.Proofs.YtfebdimolnobaaaGreatDoor.Rows
noncomputable def Ha (os:Os):an:=
 {World.doorLaid prog 400 os with heap:=(World.doorLaid prog 400 os).heap.modify 2 fun
  | .cells _ t fr=> .cells (Lib.firstTab.map λz=>Value.int .u8 z).toArray t fr
  |o=>o}
def wo:laidOutB prog=true:=Uj
def Mw (os:Os)(args:Array Value):laidMetH prog joinedUptoRow.laid ((Ha os).forCall (λ_ _=>0) ⟨#[],args,[]⟩).memory:=
 laidMetH_of_parts3 (fuel:=8) (laidMet_of_run' 8 Uj Uj) Uj Uj
def Ei (os:Os){H:Type}(enc:TypeId×Value->H):
  (OpenSpec.upto joinedSpec).preRow enc prog f10 joinedUptoRow.domain false joinedUptoRow.laid ((Ha os).forCall (λ_ _=>0) ⟨#[],#[ah,T9,T9],[]⟩).memory #[ah,T9,T9]:=by
 have hw:(DataW.whole enc prog ((Ha os).forCall (λ_ _=>0) ⟨#[],#[ah,T9,T9],[]⟩).memory f10.params.toList (OpenSpec.upto joinedSpec).vars false #[Value.slice none 0 0,T9,T9].toList 8).map (λx=>(x.1,x.2.1))=
   some ([.nil,.lit (.string []),.lit (.string [])],[]):=Uj
 have⟨⟨x1,x2,x3⟩,hx,hx1⟩:=aW.1 hw;simp only[Prod.mk.injEq]at hx1;obtain⟨rfl,rfl⟩:=hx1;refine OpenSpec.preRow_of_cond 8 hx Uj (λk hk=> ?_) Uj (Mw os _);obtain rfl:uptoSmall=k:=Option.some.inj hk;rfl
def za (os:Os)(started:os.Started)(H:Type)(enc:TypeId×Value->H)(F:Stop.Interp):
  ReturnsInHanded {} Tryz.checked os 10 .any ((OpenSpec.upto joinedSpec).preRow enc prog f10 joinedUptoRow.domain false joinedUptoRow.laid) (((OpenSpec.upto joinedSpec).at F).post enc prog f10 false true false false):=by
 refine returnsInHanded_of_row (C:=Tryz.checked) (s:=OpenSpec.upto joinedSpec) own started Uj func10
  (witness_row_atRef (enc:=enc) (C:=Tryz.checked) false (Ha os) #[ah,T9,T9] rfl Uj Uj Uj (Ei os enc)) ?_
 intro W base args ds gs before Ur hW _ Us _ hL _ _;have Uq:∀(j:Nat) t v,f10.params[j]?=some t->args[j]?=some v->Value.okWide prog W .any base t v:=Ur;have Uv:=hW;obtain⟨p,q,Uw,Ux,rfl,_,_⟩:=hW;have hA:DataW.TrodAll enc prog W 0 (λ_=>true) true f10.params.toList args.toList ds p:=Uw;rw[params10]at hA Uq;obtain⟨v0,v1,v2,d0,d1,d2,p0,p1,p2,rfl,rfl,rfl,h0,h1,h2⟩:=trodAll_three hA;obtain⟨rfl,rfl⟩:=trodVars_none Ux;obtain⟨a0,n0,c0,rfl⟩:=okWide_slice underlying35 (Uq 0 35 v0 rfl rfl);have⟨Uu,hr0,hl0,Uy⟩:=Mr h0;obtain⟨t1,rfl,y1⟩:=GZ (okWide_string underlying9 (Uq 1 9 v1 rfl rfl)) h1;obtain⟨t2,rfl,y2⟩:=GZ (okWide_string underlying9 (Uq 2 9 v2 rfl rfl)) h2
 have hk:uptoBulk d0+(uptoBulk d1+(uptoBulk d2+0))<=1048576:=by
  have:=Us uptoSmall rfl;exact of_decide_eq_true this
 have⟨hg,Uz,hu⟩:=Eh hL;clear Uw Ux Ur;refine(Mn W (.slice a0 n0 c0) Uu t1 t2 hg Uz hu hr0 Ue Uy Ue Ue).mono ?_;rintro e W' ⟨rfl,bel⟩;have e1:((OpenSpec.upto joinedSpec).at F).fn H ([d0,d1,d2]++ [])={results:= [.lit (.bool true)],args:= [d0,d1,d2]}:=rfl;have Ut:∀x∈p0++(p1++p2),x.block<W.heap.size:=λx hx=>by simpa using Uv.lt x (by simpa using hx)
 refine⟨_,rfl,_,_,_,[],p0++(p1++p2),[],Uv,?_,?_,?_,bel.frame _,λh=>by cases h⟩
 ·rw[e1];exact trodAll_mk1 (shut_bool underlying4 _)
 ·rw[e1];exact trodAll_mk3 (Below.trod wo Uj (of_decide_eq_true Uj) h0 bel λx hx=>Ut x (by simp[hx])) (Below.trod wo Uj (of_decide_eq_true Uj) h1 bel λx hx=>Ut x (by simp[hx])) (Below.trod wo Uj (of_decide_eq_true Uj) h2 bel λx hx=>Ut x (by simp[hx]))
 ·rw[e1];rfl
end
end Go.Proofs.YtfebdimolnobaaaGreatDoor
