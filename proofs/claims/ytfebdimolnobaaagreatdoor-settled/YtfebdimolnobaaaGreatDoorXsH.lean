import Derived.Test.YtfebdimolnobaaaGreatDoorAl
import Derived.Test.YtfebdimolnobaaaGreatDoorCards
import Derived.JoinedOf
set_option maxRecDepth 100000
set_option maxHeartbeats 8000000
set_option linter.all false
namespace Go.Proofs.YtfebdimolnobaaaGreatDoor
open Go.RowKit Go.Proofs.Tryz
def Qu:mapsRowed prog=true:=QI
def Qv:prog.mayEnter=true:=QI
def Qw:(Rows.settledUptoRow.plainKeys==prog.plainKeys)=true:=QI
end Go.Proofs.YtfebdimolnobaaaGreatDoor
