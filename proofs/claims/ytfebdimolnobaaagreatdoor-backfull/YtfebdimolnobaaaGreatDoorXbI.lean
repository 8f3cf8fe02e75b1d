import Derived.Test.YtfebdimolnobaaaGreatDoorAl
import Derived.Test.YtfebdimolnobaaaGreatDoorCards
set_option maxRecDepth 100000
set_option maxHeartbeats 8000000
set_option linter.all false
namespace Go.Proofs.YtfebdimolnobaaaGreatDoor
open Go.RowKit Go.Proofs.Tryz
def JN:(prog.funcs.toList.all λfn=> !fn.goes)=true:=VA
def GQ:prog.funcNamed "twinwire/twinwirekeep.Back" =some 7:=VA
def Vi:false=Rows.backRow.goesBy prog:=by
 have b:∀fn,fn∈prog.funcs->fn.goes=false:=λfn a=>by
  have:=ca.1 JN fn (Array.mem_toList_iff.2 a);simpa using this
 have c:((prog.closure 7).any λg=>(prog.funcs[g]?).any Func.goes)=false:=by
  rw[dL];intro g _
  cases hg:prog.funcs[g]? with
  |none=>simp
  |some fn=>rw[Option.any_some,b fn (Array.mem_of_getElem? hg)];simp
 have d:prog.funcs.any Func.goes=false:=(by rw[<-Array.any_toList,dL];intro fn a;rw[b fn (Array.mem_toList_iff.1 a)];simp);show false=(prog.goesFrom "twinwire/twinwirekeep.Back" ||false);unfold Program.goesFrom;rw[GQ,Option.any_some];unfold Program.goes;rw[c,d];simp
end Go.Proofs.YtfebdimolnobaaaGreatDoor
