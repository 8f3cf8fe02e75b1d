import Derived.Test.YtfebdimolnobaaaGreatDoorAl
import Derived.Test.YtfebdimolnobaaaGreatDoorCards
import Derived.JoinedOf
set_option maxRecDepth 100000
set_option maxHeartbeats 8000000
set_option linter.all false
namespace Go.Proofs.YtfebdimolnobaaaGreatDoor
open Go.RowKit Go.Proofs.Tryz
def UV:(Rows.backUptoRow.recurses==prog.recurses 7)=true:=Vh
def UW:(Rows.backUptoRow.named==prog.varsNamed 7)=true:=Vh
end Go.Proofs.YtfebdimolnobaaaGreatDoor
