import Derived.Test.YtfebdimolnobaaaGreatDoorAl
import Derived.Test.YtfebdimolnobaaaGreatDoorCards
import Derived.JoinedOf
set_option maxRecDepth 100000
set_option maxHeartbeats 8000000
set_option linter.all false
namespace Go.Proofs.YtfebdimolnobaaaGreatDoor
open Go.RowKit Go.Proofs.Tryz
def UV:(Rows.unknownUptoRow.recurses==prog.recurses 11)=true:=Vh
def UW:(Rows.unknownUptoRow.named==prog.varsNamed 11)=true:=Vh
end Go.Proofs.YtfebdimolnobaaaGreatDoor
