import Derived.Test.YtfebdimolnobaaaGreatDoorAl
import Derived.Test.YtfebdimolnobaaaGreatDoorCards
import Derived.JoinedOf
set_option maxRecDepth 100000
set_option maxHeartbeats 8000000
set_option linter.all false
namespace Go.Proofs.YtfebdimolnobaaaGreatDoor
open Go.RowKit Go.Proofs.Tryz
def Vf:mapsRowed prog=true:=VA
def Vg:prog.mayEnter=true:=VA
def Vh:(Rows.backRow.plainKeys==prog.plainKeys)=true:=VA
end Go.Proofs.YtfebdimolnobaaaGreatDoor
