import Derived.Test.YtfebdimolnobaaaGreatDoorAl
import Derived.Test.YtfebdimolnobaaaGreatDoorCards
set_option maxRecDepth 100000
set_option maxHeartbeats 8000000
set_option linter.all false
namespace Go.Proofs.YtfebdimolnobaaaGreatDoor
open Go.RowKit Go.Proofs.Tryz
def Ge:(prog.funcs.toList.all λfn=> !fn.goes)=true:=QI
def DQ:prog.funcNamed "twinwire/twinwirekeep.Settled" =some 8:=QI
def Qx:false=Rows.settledUptoRow.goesBy prog:=by
 have hm:∀fn,fn∈prog.funcs->fn.goes=false:=λfn hf=>by
  have:=bO.1 Ge fn (Array.mem_toList_iff.2 hf);simpa using this
 have h1:((prog.closure 8).any λg=>(prog.funcs[g]?).any Func.goes)=false:=by
  rw[dv];intro g _
  cases hg:prog.funcs[g]? with
  |none=>simp
  |some fn=>rw[Option.any_some,hm fn (Array.mem_of_getElem? hg)];simp
 have h2:prog.funcs.any Func.goes=false:=by
  rw[<-Array.any_toList,dv];intro fn hf;rw[hm fn (Array.mem_toList_iff.1 hf)];simp
 show false=(prog.goesFrom "twinwire/twinwirekeep.Settled" ||false);unfold Program.goesFrom;rw[DQ,Option.any_some];unfold Program.goes;rw[h1,h2];simp
end Go.Proofs.YtfebdimolnobaaaGreatDoor
