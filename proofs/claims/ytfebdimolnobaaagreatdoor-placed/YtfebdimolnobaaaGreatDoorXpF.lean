import Derived.Test.YtfebdimolnobaaaGreatDoorAl
import Derived.Test.YtfebdimolnobaaaGreatDoorCards
import Derived.JoinedOf
set_option maxRecDepth 100000
set_option maxHeartbeats 8000000
set_option linter.all false
namespace Go.Proofs.YtfebdimolnobaaaGreatDoor
open Go.RowKit
theorem M8:(Rows.placedUptoRow.inPlace==Tryz.prog.inPlace 9)=true:=by kernel_rfl
theorem M9:(Rows.placedUptoRow.unfollowed==Tryz.prog.unfollowed 9)=true:=by kernel_rfl
end Go.Proofs.YtfebdimolnobaaaGreatDoor
