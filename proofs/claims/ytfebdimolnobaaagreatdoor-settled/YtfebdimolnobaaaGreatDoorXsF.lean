import Derived.Test.YtfebdimolnobaaaGreatDoorAl
import Derived.Test.YtfebdimolnobaaaGreatDoorCards
import Derived.JoinedOf
set_option maxRecDepth 100000
set_option maxHeartbeats 8000000
set_option linter.all false
namespace Go.Proofs.YtfebdimolnobaaaGreatDoor
open Go.RowKit Go.Proofs.Tryz
def Qq:(Rows.settledUptoRow.inPlace==prog.inPlace 8)=true:=QI
def Qr:(Rows.settledUptoRow.unfollowed==prog.unfollowed 8)=true:=QI
end Go.Proofs.YtfebdimolnobaaaGreatDoor
