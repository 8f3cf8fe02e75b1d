import Derived.Test.YtfebdimolnobaaaGreatDoorAl
import Derived.Test.YtfebdimolnobaaaGreatDoorCards
import Derived.JoinedOf
set_option maxRecDepth 100000
set_option maxHeartbeats 8000000
set_option linter.all false
namespace Go.Proofs.YtfebdimolnobaaaGreatDoor
open Go.RowKit Go.Proofs.Tryz
def SY:mapsRowed prog=true:=Tj
def SZ:prog.mayEnter=true:=Tj
def S0:(Rows.decodesUptoRow.plainKeys==prog.plainKeys)=true:=Tj
end Go.Proofs.YtfebdimolnobaaaGreatDoor
