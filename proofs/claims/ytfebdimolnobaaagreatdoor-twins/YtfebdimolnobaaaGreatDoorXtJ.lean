import Derived.Test.YtfebdimolnobaaaGreatDoorXtC
import Derived.Test.YtfebdimolnobaaaGreatDoorXtF
import Derived.Test.YtfebdimolnobaaaGreatDoorXtG
import Derived.Test.YtfebdimolnobaaaGreatDoorXtH
import Derived.Test.YtfebdimolnobaaaGreatDoorXtI
import Derived.Test.YtfebdimolnobaaaGreatDoorTie
import Derived.SevenTiedAt
set_option maxRecDepth 100000
set_option maxHeartbeats 8000000
set_option linter.all false
namespace Go.Proofs.YtfebdimolnobaaaGreatDoor
open Go.RowKit
section
open Go.ChangeShapes Go.WideShapes Go.ChangeAt Go.RowKit Go.Proofs.YtfebdimolnobaaaGreatDoor.Rows
theorem BH:joinedFacts Tryz.prog 6 Tryz.f6 (OpenSpec.upto twinsSpec).bare twinsUptoRow=true:=by
 unfold joinedFacts;rw[M8,M9,Na,Nb,iZ,Nc,Nd,Nf]
 kernel_rfl
theorem BI:TwinsUptoSaid:=
 OpenClaim.holds_of_cond 6 Tryz.f6 rfl rfl rfl rfl rfl rfl rfl ⟨rfl,rfl,rfl,rfl,rfl⟩ rfl rfl rfl rfl rfl pC Tryz.func6 BH
  (of_decide_eq_true (by kernel_rfl)) (by unfold Func.isWrapper;first|(rw[if_pos (by decide+kernel)];kernel_rfl)|(rw[if_neg (by decide+kernel)];exact⟨rfl,rfl⟩))
  (fun os started H enc _ F=>by rw[OpenClaim.pre_eq_preRow];exact yc os started H enc F)
theorem twins_holds:TwinsUptoCardSaid:=
 Claim7.holds_tied_plain_at .later [] [.data,.data,.data,.data,.sentinel,.sentinel,.data,.pinned] true (true, "47efb351290370ce0bda7cf4e4d9ae366cf440d734c2cfc189ae75dab94e354d") true
  BI (fun _ h=>by cases h) (by kernel_rfl) (fun _ h=>by cases h) twinsUpto_row_tie rfl ⟨rfl,rfl⟩ (by kernel_rfl) rfl
  (fun f fn hf N3=>by
   obtain rfl:f=6:=Option.some.inj (pC.symm.trans hf)|>.symm
   obtain rfl:fn=Tryz.f6:=(Option.some.inj (Tryz.func6.symm.trans N3)).symm
   exact⟨by kernel_rfl,fun j t ht=>by
    rw[Tryz.params6]at ht;have hm:t∈ [9,9,9,49]:=by simpa using Array.mem_of_getElem? ht
    have N2:([9,9,9,49].all fun u=> !Tryz.prog.wantsStandIn u)=true:=by kernel_rfl
    exact(show Tryz.prog.wantsStandIn t=false by simpa using List.all_eq_true.1 N2 t hm)⟩)
  Ng
#print axioms twins_holds
end
end Go.Proofs.YtfebdimolnobaaaGreatDoor
