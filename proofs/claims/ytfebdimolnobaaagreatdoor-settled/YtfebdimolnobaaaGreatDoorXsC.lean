import Derived.Test.YtfebdimolnobaaaGreatDoorCwA
set_option maxRecDepth 100000
set_option maxHeartbeats 8000000
set_option linter.all false
namespace Go.Proofs.YtfebdimolnobaaaGreatDoor
open Go.RowKit Go.Proofs.Tryz
section
open Go.ChangeShapes Go.WideShapes Go.ChangeAt Go.RowKit Go.Proofs.YtfebdimolnobaaaGreatDoor.Rows
noncomputable def EW (os:Os):an:=
 {World.doorLaid prog 400 os with heap:=(World.doorLaid prog 400 os).heap.modify 2 fun
  | .cells _ t fr=> .cells (Lib.firstTab.map λz=>Value.int .u8 z).toArray t fr
  |o=>o}
def uK:laidOutB prog=true:=QI
def Jn (os:Os)(args:Array Value):laidMetH prog settledUptoRow.laid ((EW os).forCall (λ_ _=>0) ⟨#[],args,[]⟩).memory:=
 laidMetH_of_parts3 (fuel:=8) (laidMet_of_run' 8 QI QI) QI QI
def CF (os:Os){H:Type}(enc:TypeId×Value->H):
  (OpenSpec.upto settledSpec).preRow enc prog f8 settledUptoRow.domain false settledUptoRow.laid ((EW os).forCall (λ_ _=>0) ⟨#[],#[ae ⟨#[]⟩,ae ⟨#[]⟩,ae ⟨#[]⟩],[]⟩).memory #[ae ⟨#[]⟩,ae ⟨#[]⟩,ae ⟨#[]⟩]:=by
 have hw:(DataW.whole enc prog ((EW os).forCall (λ_ _=>0) ⟨#[],#[ae ⟨#[]⟩,ae ⟨#[]⟩,ae ⟨#[]⟩],[]⟩).memory f8.params.toList (OpenSpec.upto settledSpec).vars false #[Value.string ⟨#[]⟩,ae ⟨#[]⟩,ae ⟨#[]⟩].toList 8).map (λx=>(x.1,x.2.1))=
   some ([.lit (.string []),.lit (.string []),.lit (.string [])],[]):=QI
 obtain⟨⟨x1,x2,x3⟩,hx,hx1⟩:=aX.1 hw;simp only[Prod.mk.injEq]at hx1;obtain⟨rfl,rfl⟩:=hx1;refine OpenSpec.preRow_of_cond 8 hx QI (λk hk=> ?_) QI (Jn os _);obtain rfl:uptoSmall=k:=Option.some.inj hk;rfl
def wS (os:Os)(started:os.Started)(H:Type)(enc:TypeId×Value->H)(F:Stop.Interp):
  ReturnsInHanded {} Tryz.checked os 8 .any ((OpenSpec.upto settledSpec).preRow enc prog f8 settledUptoRow.domain false settledUptoRow.laid) (((OpenSpec.upto settledSpec).at F).post enc prog f8 false true false false):=by
 refine returnsInHanded_of_row (C:=Tryz.checked) (s:=OpenSpec.upto settledSpec) own started QI func8
  (witness_row_atRef (enc:=enc) (C:=Tryz.checked) false (EW os) #[ae ⟨#[]⟩,ae ⟨#[]⟩,ae ⟨#[]⟩] rfl QI QI QI (CF os enc)) ?_
 intro W base args ds gs before QQ hW _ QR _ hL _ _;have QP:∀(j:Nat) t v,f8.params[j]?=some t->args[j]?=some v->Value.okWide prog W .any base t v:=QQ;have QT:=hW;obtain⟨p,q,QU,QV,rfl,_,_⟩:=hW;have hA:DataW.TrodAll enc prog W 0 (λ_=>true) true f8.params.toList args.toList ds p:=QU;rw[params8]at hA QP;obtain⟨v0,v1,v2,d0,d1,d2,p0,p1,p2,rfl,rfl,rfl,h0,h1,h2⟩:=trodAll_three hA;obtain⟨rfl,rfl⟩:=trodVars_none QV;obtain⟨t0,rfl,y0⟩:=AD (okWide_string underlying9 (QP 0 9 v0 rfl rfl)) h0;obtain⟨t1,rfl,y1⟩:=AD (okWide_string underlying9 (QP 1 9 v1 rfl rfl)) h1;obtain⟨t2,rfl,y2⟩:=AD (okWide_string underlying9 (QP 2 9 v2 rfl rfl)) h2
 have hk:uptoBulk d0+(uptoBulk d1+(uptoBulk d2+0))<=1048576:=by
  have:=QR uptoSmall rfl;exact dC this
 obtain⟨hg,QW,hu⟩:=CE hL;clear QU QV QQ;refine(Gd W t0 t1 t2 hg QW hu QD QD).mono ?_;rintro e W' ⟨rfl,bel⟩;have e1:((OpenSpec.upto settledSpec).at F).fn H ([d0,d1,d2]++ [])={results:= [.lit (.bool true)],args:= [d0,d1,d2]}:=rfl;have QS:∀x∈p0++(p1++p2),x.block<W.heap.size:=λx hx=>by simpa using QT.lt x (by simpa using hx)
 refine⟨_,rfl,_,_,_,[],p0++(p1++p2),[],QT,?_,?_,?_,bel.frame _,λh=>by cases h⟩
 ·rw[e1];exact trodAll_mk1 (shut_bool underlying4 _)
 ·rw[e1];exact trodAll_mk3 (Below.trod uK QI (dC QI) h0 bel λx hx=>QS x (by simp[hx])) (Below.trod uK QI (dC QI) h1 bel λx hx=>QS x (by simp[hx])) (Below.trod uK QI (dC QI) h2 bel λx hx=>QS x (by simp[hx]))
 ·rw[e1];rfl
end
end Go.Proofs.YtfebdimolnobaaaGreatDoor
