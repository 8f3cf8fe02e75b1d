import Derived.Test.YtfebdimolnobaaaGreatDoorXsC
import Derived.Test.YtfebdimolnobaaaGreatDoorXsF
import Derived.Test.YtfebdimolnobaaaGreatDoorXsG
import Derived.Test.YtfebdimolnobaaaGreatDoorXsH
import Derived.Test.YtfebdimolnobaaaGreatDoorXsI
import Derived.Test.YtfebdimolnobaaaGreatDoorTie
import Derived.SevenTiedAt
set_option maxRecDepth 100000
set_option maxHeartbeats 8000000
set_option linter.all false
namespace Go.Proofs.YtfebdimolnobaaaGreatDoor
open Go.RowKit Go.Proofs.Tryz
section
open Go.ChangeShapes Go.WideShapes Go.ChangeAt Go.RowKit Go.Proofs.YtfebdimolnobaaaGreatDoor.Rows
def NG:joinedFacts prog 8 f8 (OpenSpec.upto settledSpec).bare settledUptoRow=true:=by
 unfold joinedFacts;rw[Qq,Qr,Qs,Qt,uK,Qu,Qv,Qw]
 kernel_rfl
def AE:SettledUptoSaid:=
 OpenClaim.holds_of_cond 8 f8 rfl rfl rfl rfl rfl rfl rfl ⟨rfl,rfl,rfl,rfl,rfl⟩ rfl rfl rfl rfl rfl DQ func8 NG
  (dC QI) (by unfold Func.isWrapper;first|(rw[dB QH];kernel_rfl)|(rw[dA QH];exact⟨rfl,rfl⟩))
  (λos started H enc _ F=>by rw[OpenClaim.pre_eq_preRow];exact wS os started H enc F)
def settled_holds:SettledUptoCardSaid:=
 Claim7.holds_tied_plain_at .later [] [.data,.data,.data,.data,.sentinel,.sentinel,.data,.pinned] true (true, "47efb351290370ce0bda7cf4e4d9ae366cf440d734c2cfc189ae75dab94e354d") true
  AE (λ_ h=>by cases h) QI (λ_ h=>by cases h) settledUpto_row_tie rfl ⟨rfl,rfl⟩ QI rfl
  (λf fn hf QQ=>by
   obtain rfl:f=8:=Option.some.inj (DQ.symm.trans hf)|>.symm
   obtain rfl:fn=f8:=(Option.some.inj (func8.symm.trans QQ)).symm
   exact⟨QI,λj t ht=>by
    rw[params8]at ht;have hm:t∈ [9,9,9]:=by simpa using Array.mem_of_getElem? ht
    have QP:([9,9,9].all λu=> !prog.wantsStandIn u)=true:=QI
    exact(show prog.wantsStandIn t=false by simpa using bO.1 QP t hm)⟩)
  Qx
#print axioms settled_holds
end
end Go.Proofs.YtfebdimolnobaaaGreatDoor
