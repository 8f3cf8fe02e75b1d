import Derived.Test.YtfebdimolnobaaaGreatDoorAl
import Derived.Test.YtfebdimolnobaaaGreatDoorCards
set_option maxRecDepth 100000
set_option maxHeartbeats 8000000
set_option linter.all false
namespace Go.Proofs.YtfebdimolnobaaaGreatDoor
open Go.RowKit Go.Proofs.Tryz
def JJ:(prog.funcs.toList.all λfn=> !fn.goes)=true:=Vh
def GN:prog.funcNamed "twinwire/twinwirekeep.Unknown" =some 11:=Vh
def U0:false=Rows.unknownUptoRow.goesBy prog:=by
 have hm:∀fn,fn∈prog.funcs->fn.goes=false:=λfn hf=>by
  have:=cg.1 JJ fn (Array.mem_toList_iff.2 hf);simpa using this
 have h1:((prog.closure 11).any λg=>(prog.funcs[g]?).any Func.goes)=false:=by
  rw[dJ];intro g _
  cases hg:prog.funcs[g]? with
  |none=>simp
  |some fn=>rw[Option.any_some,hm fn (Array.mem_of_getElem? hg)];simp
 have h2:prog.funcs.any Func.goes=false:=(by rw[<-Array.any_toList,dJ];intro fn hf;rw[hm fn (Array.mem_toList_iff.1 hf)];simp);show false=(prog.goesFrom "twinwire/twinwirekeep.Unknown" ||false);unfold Program.goesFrom;rw[GN,Option.any_some];unfold Program.goes;rw[h1,h2];simp
end Go.Proofs.YtfebdimolnobaaaGreatDoor
