import Derived.Test.YtfebdimolnobaaaGreatDoorXjC
import Derived.Test.YtfebdimolnobaaaGreatDoorXjF
import Derived.Test.YtfebdimolnobaaaGreatDoorXjG
import Derived.Test.YtfebdimolnobaaaGreatDoorXjH
import Derived.Test.YtfebdimolnobaaaGreatDoorXjI
import Derived.Test.YtfebdimolnobaaaGreatDoorTie
import Derived.SevenTiedAt
set_option maxRecDepth 100000
set_option maxHeartbeats 8000000
set_option linter.all false
namespace Go.Proofs.YtfebdimolnobaaaGreatDoor
open Go.RowKit Go.Proofs.Tryz
section
open Go.ChangeShapes Go.WideShapes Go.ChangeAt Go.RowKit Go.Proofs.YtfebdimolnobaaaGreatDoor.Rows
def QU:joinedFacts prog 10 f10 (OpenSpec.upto joinedSpec).bare joinedUptoRow=true:=by
 unfold joinedFacts;rw[TV,TW,TX,TY,wo,TZ,T0,T3]
 kernel_rfl
def Ej:JoinedUptoSaid:=
 OpenClaim.holds_of_cond 10 f10 rfl rfl rfl rfl rfl rfl rfl ⟨rfl,rfl,rfl,rfl,rfl⟩ rfl rfl rfl rfl rfl FD func10 QU
  (of_decide_eq_true Uj) (by unfold Func.isWrapper;first|(rw[dE Ui];kernel_rfl)|(rw[dD Ui];exact⟨rfl,rfl⟩))
  (λos started H enc _ F=>by rw[OpenClaim.pre_eq_preRow];exact za os started H enc F)
def joined_holds:JoinedUptoCardSaid:=
 Claim7.holds_tied_plain_at .later [] [.data,.data,.data,.data,.sentinel,.sentinel,.data,.pinned] true (true, "47efb351290370ce0bda7cf4e4d9ae366cf440d734c2cfc189ae75dab94e354d") true
  Ej (λ_ h=>by cases h) Uj (λ_ h=>by cases h) joinedUpto_row_tie rfl ⟨rfl,rfl⟩ Uj rfl
  (λf fn hf Ur=>by
   obtain rfl:f=10:=Option.some.inj (FD.symm.trans hf)|>.symm
   obtain rfl:fn=f10:=(Option.some.inj (func10.symm.trans Ur)).symm
   exact⟨Uj,λj t ht=>by
    rw[params10]at ht;have hm:t∈ [35,9,9]:=by simpa using Array.mem_of_getElem? ht
    have Uq:([35,9,9].all λu=> !prog.wantsStandIn u)=true:=Uj
    exact(show prog.wantsStandIn t=false by simpa using bS.1 Uq t hm)⟩)
  T4
#print axioms joined_holds
end
end Go.Proofs.YtfebdimolnobaaaGreatDoor
