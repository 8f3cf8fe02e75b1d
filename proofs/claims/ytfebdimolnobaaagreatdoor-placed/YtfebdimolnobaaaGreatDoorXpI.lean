import Derived.Test.YtfebdimolnobaaaGreatDoorAl
import Derived.Test.YtfebdimolnobaaaGreatDoorCards
set_option maxRecDepth 100000
set_option maxHeartbeats 8000000
set_option linter.all false
namespace Go.Proofs.YtfebdimolnobaaaGreatDoor
open Go.RowKit
theorem re:(Tryz.prog.funcs.toList.all fun fn=> !fn.goes)=true:=by kernel_rfl
theorem pC:Tryz.prog.funcNamed "twinwire/twinwirekeep.Placed" =some 9:=by kernel_rfl
theorem Ng:false=Rows.placedUptoRow.goesBy Tryz.prog:=by
 have hm:∀fn,fn∈Tryz.prog.funcs->fn.goes=false:=fun fn hf=>by
  have:=List.all_eq_true.1 re fn (Array.mem_toList_iff.2 hf);simpa using this
 have h1:((Tryz.prog.closure 9).any fun g=>(Tryz.prog.funcs[g]?).any Func.goes)=false:=by
  rw[cA];intro g _
  cases hg:Tryz.prog.funcs[g]? with
  |none=>simp
  |some fn=>rw[Option.any_some,hm fn (Array.mem_of_getElem? hg)];simp
 have h2:Tryz.prog.funcs.any Func.goes=false:=by
  rw[<-Array.any_toList,cA];intro fn hf;rw[hm fn (Array.mem_toList_iff.1 hf)];simp
 show false=(Tryz.prog.goesFrom "twinwire/twinwirekeep.Placed" ||false);unfold Program.goesFrom;rw[pC,Option.any_some];unfold Program.goes;rw[h1,h2];simp
end Go.Proofs.YtfebdimolnobaaaGreatDoor
