import Derived.Test.YtfebdimolnobaaaGreatDoorXuC
import Derived.Test.YtfebdimolnobaaaGreatDoorXuF
import Derived.Test.YtfebdimolnobaaaGreatDoorXuG
import Derived.Test.YtfebdimolnobaaaGreatDoorXuH
import Derived.Test.YtfebdimolnobaaaGreatDoorXuI
import Derived.Test.YtfebdimolnobaaaGreatDoorTie
import Derived.SevenTiedAt
set_option maxRecDepth 100000
set_option maxHeartbeats 8000000
set_option linter.all false
namespace Go.Proofs.YtfebdimolnobaaaGreatDoor
open Go.RowKit Go.Proofs.Tryz
section
open Go.ChangeShapes Go.WideShapes Go.ChangeAt Go.RowKit Go.Proofs.YtfebdimolnobaaaGreatDoor.Rows
def R8:joinedFacts prog 11 f11 (OpenSpec.upto unknownSpec).bare unknownUptoRow=true:=by
 unfold joinedFacts;rw[UT,UU,UV,UW,Dd,UX,UY,UZ];kernel_rfl
def Zh:UnknownUptoSaid:=
 OpenClaim.holds_of_cond 11 f11 rfl rfl rfl rfl rfl rfl rfl ⟨rfl,rfl,rfl,rfl,rfl⟩ rfl rfl rfl rfl rfl GN func11 R8
  (of_decide_eq_true Vh) (by unfold Func.isWrapper;first|(rw[dP Vg];kernel_rfl)|(rw[dO Vg];exact⟨rfl,rfl⟩))
  (λos started H enc _ F=>by rw[OpenClaim.pre_eq_preRow];exact Ze os started H enc F)
def unknown_holds:UnknownUptoCardSaid:=
 Claim7.holds_tied_plain_at .later [] [.data,.data,.data,.data,.sentinel,.sentinel,.data,.pinned] true (true, "47efb351290370ce0bda7cf4e4d9ae366cf440d734c2cfc189ae75dab94e354d") true
  Zh (λ_ h=>by cases h) Vh (λ_ h=>by cases h) unknownUpto_row_tie rfl ⟨rfl,rfl⟩ Vh rfl
  (λf fn hf Vq=>by
   obtain rfl:f=11:=Option.some.inj (GN.sy.J hf)|>.sy
   obtain rfl:fn=f11:=(Option.some.inj (func11.sy.J Vq)).sy
   exact⟨Vh,λj t ht=>by
    rw[params11]at ht;have hm:t∈ [35,35,35]:=by simpa using Array.mem_of_getElem? ht
    have Vp:([35,35,35].all λu=> !prog.wantsStandIn u)=true:=Vh
    exact(show prog.wantsStandIn t=false by simpa using cg.1 Vp t hm)⟩)
  U0
#print axioms unknown_holds
end
end Go.Proofs.YtfebdimolnobaaaGreatDoor
