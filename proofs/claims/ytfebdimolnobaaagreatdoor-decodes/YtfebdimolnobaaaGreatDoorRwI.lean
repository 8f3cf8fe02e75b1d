import Derived.Test.YtfebdimolnobaaaGreatDoorAl
import Derived.Test.YtfebdimolnobaaaGreatDoorCards
set_option maxRecDepth 100000
set_option maxHeartbeats 8000000
set_option linter.all false
namespace Go.Proofs.YtfebdimolnobaaaGreatDoor
open Go.RowKit Go.Proofs.Tryz
def IE:(prog.funcs.toList.all λfn=> !fn.goes)=true:=Tj
def Fq:prog.funcNamed "twinwire/twinwirelaw.Decodes" =some 4:=Tj
def S1:false=Rows.decodesUptoRow.goesBy prog:=by
 have b:∀fn,fn∈prog.funcs->fn.goes=false:=λfn a=>by
  have:=List.all_eq_true.1 IE fn (Array.mem_toList_iff.2 a);simpa using this
 have c:((prog.closure 4).any λg=>(prog.funcs[g]?).any Func.goes)=false:=by
  rw[de];intro g _
  cases hg:prog.funcs[g]? with
  |none=>simp
  |some fn=>rw[Option.any_some,b fn (Array.mem_of_getElem? hg)];simp
 have d:prog.funcs.any Func.goes=false:=(by rw[<-Array.any_toList,de];intro fn a;rw[b fn (Array.mem_toList_iff.1 a)];simp);show false=(prog.goesFrom "twinwire/twinwirelaw.Decodes" ||false);unfold Program.goesFrom;rw[Fq,Option.any_some];unfold Program.goes;rw[c,d];simp
end Go.Proofs.YtfebdimolnobaaaGreatDoor
