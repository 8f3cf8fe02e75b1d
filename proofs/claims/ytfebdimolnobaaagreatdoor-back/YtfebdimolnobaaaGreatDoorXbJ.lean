import Derived.Test.YtfebdimolnobaaaGreatDoorXbC
import Derived.Test.YtfebdimolnobaaaGreatDoorXbF
import Derived.Test.YtfebdimolnobaaaGreatDoorXbG
import Derived.Test.YtfebdimolnobaaaGreatDoorXbH
import Derived.Test.YtfebdimolnobaaaGreatDoorXbI
import Derived.Test.YtfebdimolnobaaaGreatDoorTie
import Derived.SevenTiedAt
set_option maxRecDepth 100000
set_option maxHeartbeats 8000000
set_option linter.all false
namespace Go.Proofs.YtfebdimolnobaaaGreatDoor
open Go.RowKit Go.Proofs.Tryz
section
open Go.ChangeShapes Go.WideShapes Go.ChangeAt Go.RowKit Go.Proofs.YtfebdimolnobaaaGreatDoor.Rows
def R8:joinedFacts prog 7 f7 (OpenSpec.upto backSpec).bare backUptoRow=true:=by
 unfold joinedFacts;rw[UT,UU,UV,UW,Dd,UX,UY,UZ];kernel_rfl
def JK:BackUptoSaid:=
 OpenClaim.holds_of_cond 7 f7 rfl rfl rfl rfl rfl rfl rfl ⟨rfl,rfl,rfl,rfl,rfl⟩ rfl rfl rfl rfl rfl GN func7 R8
  (of_decide_eq_true Vh) (by unfold Func.isWrapper;first|(rw[dP Vg];kernel_rfl)|(rw[dO Vg];exact⟨rfl,rfl⟩))
  (λos started H enc _ F=>by rw[OpenClaim.pre_eq_preRow];exact Fb os started H enc F)
def back_holds:BackUptoCardSaid:=
 Claim7.holds_tied_plain_at .later [] [.data,.data,.data,.data,.sentinel,.sentinel,.data,.pinned] true (true, "47efb351290370ce0bda7cf4e4d9ae366cf440d734c2cfc189ae75dab94e354d") true
  JK (λ_ h=>by cases h) Vh (λ_ h=>by cases h) backUpto_row_tie rfl ⟨rfl,rfl⟩ Vh rfl
  (λf fn hf Vq=>by
   obtain rfl:f=7:=Option.some.inj (GN.sy.J hf)|>.sy
   obtain rfl:fn=f7:=(Option.some.inj (func7.sy.J Vq)).sy
   exact⟨Vh,λj t ht=>by
    rw[params7]at ht;have hm:t∈ [35,35]:=by simpa using Array.mem_of_getElem? ht
    have Vp:([35,35].all λu=> !prog.wantsStandIn u)=true:=Vh
    exact(show prog.wantsStandIn t=false by simpa using cg.1 Vp t hm)⟩)
  U0
#print axioms back_holds
end
end Go.Proofs.YtfebdimolnobaaaGreatDoor
