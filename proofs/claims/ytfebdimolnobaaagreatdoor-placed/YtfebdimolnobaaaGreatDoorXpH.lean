import Derived.Test.YtfebdimolnobaaaGreatDoorAl
import Derived.Test.YtfebdimolnobaaaGreatDoorCards
import Derived.JoinedOf
set_option maxRecDepth 100000
set_option maxHeartbeats 8000000
set_option linter.all false
namespace Go.Proofs.YtfebdimolnobaaaGreatDoor
open Go.RowKit
theorem Nc:mapsRowed Tryz.prog=true:=by kernel_rfl
theorem Nd:Tryz.prog.mayEnter=true:=by kernel_rfl
theorem Nf:(Rows.placedUptoRow.plainKeys==Tryz.prog.plainKeys)=true:=by kernel_rfl
end Go.Proofs.YtfebdimolnobaaaGreatDoor
