import Derived.Test.YtfebdimolnobaaaGreatDoorAl
import Derived.Test.YtfebdimolnobaaaGreatDoorCards
import Derived.JoinedOf
set_option maxRecDepth 100000
set_option maxHeartbeats 8000000
set_option linter.all false
namespace Go.Proofs.YtfebdimolnobaaaGreatDoor
open Go.RowKit Go.Proofs.Tryz
def Vd:(Rows.backRow.recurses==prog.recurses 7)=true:=VA
def Ve:(Rows.backRow.named==prog.varsNamed 7)=true:=VA
end Go.Proofs.YtfebdimolnobaaaGreatDoor
