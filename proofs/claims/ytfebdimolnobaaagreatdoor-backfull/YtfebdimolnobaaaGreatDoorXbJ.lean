import Derived.Test.YtfebdimolnobaaaGreatDoorXbC
import Derived.Test.YtfebdimolnobaaaGreatDoorXbF
import Derived.Test.YtfebdimolnobaaaGreatDoorXbG
import Derived.Test.YtfebdimolnobaaaGreatDoorXbH
import Derived.Test.YtfebdimolnobaaaGreatDoorXbI
import Derived.Test.YtfebdimolnobaaaGreatDoorTie
import Derived.SevenTiedAt
set_option maxRecDepth 100000
set_option maxHeartbeats 8000000
set_option linter.all false
namespace Go.Proofs.YtfebdimolnobaaaGreatDoor
open Go.RowKit Go.Proofs.Tryz
section
open Go.ChangeShapes Go.WideShapes Go.ChangeAt Go.RowKit Go.Proofs.YtfebdimolnobaaaGreatDoor.Rows
def Sp:joinedFacts prog 7 f7 (OpenSpec.ofChange backSpec).bare backRow=true:=by
 unfold joinedFacts;rw[Vb,Vc,Vd,Ve,Dg,Vf,Vg,Vh];kernel_rfl
def JO:BackSaid:=
 OpenClaim.holds_of_cond 7 f7 rfl rfl rfl rfl rfl rfl rfl ⟨rfl,rfl,rfl,rfl,rfl⟩ rfl rfl rfl rfl rfl GQ func7 Sp
  (of_decide_eq_true VA) (by unfold Func.isWrapper;first|(rw[dR Vz];kernel_rfl)|(rw[dQ Vz];exact⟨rfl,rfl⟩))
  (λos started H enc _ F=>by rw[OpenClaim.pre_eq_preRow];exact Fe os started H enc F)
def back_holds:BackCardSaid:=
 Claim7.holds_tied_plain_at .later [] [.data,.data,.data,.data,.sentinel,.sentinel,.data,.pinned] true (true, "47efb351290370ce0bda7cf4e4d9ae366cf440d734c2cfc189ae75dab94e354d") true
  JO (λ_ h=>by cases h) VA (λ_ h=>by cases h) back_row_tie rfl ⟨rfl,rfl⟩ VA rfl
  (λf fn d c=>by
   obtain rfl:f=7:=Option.some.inj (GQ.sy.J d)|>.sy
   obtain rfl:fn=f7:=(Option.some.inj (func7.sy.J c)).sy
   exact⟨VA,λj t a=>by
    rw[params7]at a;have e:t∈ [35,35]:=by simpa using Array.mem_of_getElem? a
    have b:([35,35].all λu=> !prog.wantsStandIn u)=true:=VA
    exact(show prog.wantsStandIn t=false by simpa using ca.1 b t e)⟩)
  Vi
#print axioms back_holds
end
end Go.Proofs.YtfebdimolnobaaaGreatDoor
