import Derived.Test.YtfebdimolnobaaaGreatDoorAl
import Derived.Test.YtfebdimolnobaaaGreatDoorCards
import Derived.JoinedOf
set_option maxRecDepth 100000
set_option maxHeartbeats 8000000
set_option linter.all false
namespace Go.Proofs.YtfebdimolnobaaaGreatDoor
open Go.RowKit Go.Proofs.Tryz
def TZ:mapsRowed prog=true:=Uj
def T0:prog.mayEnter=true:=Uj
def T3:(Rows.joinedUptoRow.plainKeys==prog.plainKeys)=true:=Uj
end Go.Proofs.YtfebdimolnobaaaGreatDoor
