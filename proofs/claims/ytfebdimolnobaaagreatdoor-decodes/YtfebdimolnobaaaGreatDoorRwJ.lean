import Derived.Test.YtfebdimolnobaaaGreatDoorRwC
import Derived.Test.YtfebdimolnobaaaGreatDoorRwF
import Derived.Test.YtfebdimolnobaaaGreatDoorRwG
import Derived.Test.YtfebdimolnobaaaGreatDoorRwH
import Derived.Test.YtfebdimolnobaaaGreatDoorRwI
import Derived.Test.YtfebdimolnobaaaGreatDoorRwK
set_option maxRecDepth 100000
set_option maxHeartbeats 8000000
set_option linter.all false
namespace Go.Proofs.YtfebdimolnobaaaGreatDoor
open Go.RowKit Go.Proofs.Tryz
section
open Go.ChangeShapes Go.WideShapes Go.ChangeAt Go.RowKit Go.Proofs.YtfebdimolnobaaaGreatDoor.Rows
def Qu:joinedFacts prog 4 f4 (OpenSpec.upto decodesSpec).bare decodesUptoRow=true:=by
 unfold joinedFacts;rw[SU,SV,SW,SX,BQ,SY,SZ,S0];kernel_rfl
def BS:DecodesUptoSaid:=
 OpenClaim.holds_of_cond 4 f4 rfl rfl rfl rfl rfl rfl rfl ⟨rfl,rfl,rfl,rfl,rfl⟩ rfl rfl rfl rfl rfl Fq func4 Qu
  (dI Tj) (by unfold Func.isWrapper;first|(rw[dH Ti];kernel_rfl)|(rw[dG Ti];exact⟨rfl,rfl⟩))
  (λos started H enc _ F=>by rw[OpenClaim.pre_eq_preRow];exact Fp os started H enc F)
def decodes_holds:DecodesUptoCardSaid:=
 Claim7.holds_tied_plain_at .later [] [.data,.data,.data,.data,.sentinel,.sentinel,.data,.pinned] true (true, "47efb351290370ce0bda7cf4e4d9ae366cf440d734c2cfc189ae75dab94e354d") true
  BS (λ_ h=>by cases h) Tj (λ_ h=>by cases h) RW rfl ⟨rfl,rfl⟩ Tj rfl
  (λf fn d c=>by
   obtain rfl:f=4:=Option.some.inj (Fq.sy.J d)|>.sy
   obtain rfl:fn=f4:=(Option.some.inj (func4.sy.J c)).sy
   exact⟨Tj,λj t a=>by
    rw[params4]at a;have e:t∈ [30,46]:=by simpa using Array.mem_of_getElem? a
    have b:([30,46].all λu=> !prog.wantsStandIn u)=true:=Tj
    exact(show prog.wantsStandIn t=false by simpa using List.all_eq_true.1 b t e)⟩)
  S1
#print axioms decodes_holds
end
end Go.Proofs.YtfebdimolnobaaaGreatDoor
