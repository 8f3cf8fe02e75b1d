import Derived.Test.YtfebdimolnobaaaGreatDoorAl
import Derived.Test.YtfebdimolnobaaaGreatDoorCards
import Derived.JoinedOf
set_option maxRecDepth 100000
set_option maxHeartbeats 8000000
set_option linter.all false
namespace Go.Proofs.YtfebdimolnobaaaGreatDoor
open Go.RowKit Go.Proofs.Tryz
def SW:(Rows.decodesUptoRow.recurses==prog.recurses 4)=true:=Tj
def SX:(Rows.decodesUptoRow.named==prog.varsNamed 4)=true:=Tj
end Go.Proofs.YtfebdimolnobaaaGreatDoor
