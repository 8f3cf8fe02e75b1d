import Derived.Test.YtfebdimolnobaaaGreatDoorAl
import Derived.Test.YtfebdimolnobaaaGreatDoorCards
import Derived.JoinedOf
set_option maxRecDepth 100000
set_option maxHeartbeats 8000000
set_option linter.all false
namespace Go.Proofs.YtfebdimolnobaaaGreatDoor
open Go.RowKit Go.Proofs.Tryz
def UX:mapsRowed prog=true:=Vh
def UY:prog.mayEnter=true:=Vh
def UZ:(Rows.unknownUptoRow.plainKeys==prog.plainKeys)=true:=Vh
end Go.Proofs.YtfebdimolnobaaaGreatDoor
