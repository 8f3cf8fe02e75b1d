import Derived.Test.YtfebdimolnobaaaGreatDoorAl
import Derived.Test.YtfebdimolnobaaaGreatDoorCards
import Derived.JoinedOf
set_option maxRecDepth 100000
set_option maxHeartbeats 8000000
set_option linter.all false
namespace Go.Proofs.YtfebdimolnobaaaGreatDoor
open Go.RowKit Go.Proofs.Tryz
def UT:(Rows.unknownUptoRow.inPlace==prog.inPlace 11)=true:=Vh
def UU:(Rows.unknownUptoRow.unfollowed==prog.unfollowed 11)=true:=Vh
end Go.Proofs.YtfebdimolnobaaaGreatDoor
