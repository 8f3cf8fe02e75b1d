import Derived.Test.YtfebdimolnobaaaGreatDoorAl
import Derived.Test.YtfebdimolnobaaaGreatDoorCards
import Derived.JoinedOf
set_option maxRecDepth 100000
set_option maxHeartbeats 8000000
set_option linter.all false
namespace Go.Proofs.YtfebdimolnobaaaGreatDoor
open Go.RowKit Go.Proofs.Tryz
def Qs:(Rows.settledUptoRow.recurses==prog.recurses 8)=true:=QI
def Qt:(Rows.settledUptoRow.named==prog.varsNamed 8)=true:=QI
end Go.Proofs.YtfebdimolnobaaaGreatDoor
