import Derived.Test.YtfebdimolnobaaaGreatDoorXpC
import Derived.Test.YtfebdimolnobaaaGreatDoorXpF
import Derived.Test.YtfebdimolnobaaaGreatDoorXpG
import Derived.Test.YtfebdimolnobaaaGreatDoorXpH
import Derived.Test.YtfebdimolnobaaaGreatDoorXpI
import Derived.Test.YtfebdimolnobaaaGreatDoorTie
import Derived.SevenTiedAt
set_option maxRecDepth 100000
set_option maxHeartbeats 8000000
set_option linter.all false
namespace Go.Proofs.YtfebdimolnobaaaGreatDoor
open Go.RowKit
section
open Go.ChangeShapes Go.WideShapes Go.ChangeAt Go.RowKit Go.Proofs.YtfebdimolnobaaaGreatDoor.Rows
theorem BH:joinedFacts Tryz.prog 9 Tryz.f9 (OpenSpec.upto placedSpec).bare placedUptoRow=true:=by
 unfold joinedFacts;rw[M8,M9,Na,Nb,iZ,Nc,Nd,Nf]
 kernel_rfl
theorem Aq:PlacedUptoSaid:=
 OpenClaim.holds_of_cond 9 Tryz.f9 rfl rfl rfl rfl rfl rfl rfl ⟨rfl,rfl,rfl,rfl,rfl⟩ rfl rfl rfl rfl rfl pC Tryz.func9 BH
  (of_decide_eq_true (by kernel_rfl)) (by unfold Func.isWrapper;first|(rw[if_pos (by decide+kernel)];kernel_rfl)|(rw[if_neg (by decide+kernel)];exact⟨rfl,rfl⟩))
  (fun os started H enc _ F=>by rw[OpenClaim.pre_eq_preRow];exact ve os started H enc F)
theorem placed_holds:PlacedUptoCardSaid:=
 Claim7.holds_tied_plain_at .later [] [.data,.data,.data,.data,.sentinel,.sentinel,.data,.pinned] true (true, "47efb351290370ce0bda7cf4e4d9ae366cf440d734c2cfc189ae75dab94e354d") true
  Aq (fun _ h=>by cases h) (by kernel_rfl) (fun _ h=>by cases h) placedUpto_row_tie rfl ⟨rfl,rfl⟩ (by kernel_rfl) rfl
  (fun f fn hf N3=>by
   obtain rfl:f=9:=Option.some.inj (pC.symm.trans hf)|>.symm
   obtain rfl:fn=Tryz.f9:=(Option.some.inj (Tryz.func9.symm.trans N3)).symm
   exact⟨by kernel_rfl,fun j t ht=>by
    rw[Tryz.params9]at ht;have hm:t∈ [9,9,9,9]:=by simpa using Array.mem_of_getElem? ht
    have N2:([9,9,9,9].all fun u=> !Tryz.prog.wantsStandIn u)=true:=by kernel_rfl
    exact(show Tryz.prog.wantsStandIn t=false by simpa using List.all_eq_true.1 N2 t hm)⟩)
  Ng
#print axioms placed_holds
end
end Go.Proofs.YtfebdimolnobaaaGreatDoor
