import Derived.Test.YtfebdimolnobaaaGreatDoorAl
import Derived.Test.YtfebdimolnobaaaGreatDoorCards
import Derived.JoinedOf
set_option maxRecDepth 100000
set_option maxHeartbeats 8000000
set_option linter.all false
namespace Go.Proofs.YtfebdimolnobaaaGreatDoor
open Go.RowKit Go.Proofs.Tryz
def TV:(Rows.joinedUptoRow.inPlace==prog.inPlace 10)=true:=Uj
def TW:(Rows.joinedUptoRow.unfollowed==prog.unfollowed 10)=true:=Uj
end Go.Proofs.YtfebdimolnobaaaGreatDoor
