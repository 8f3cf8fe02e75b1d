import Derived.Test.YtfebdimolnobaaaGreatDoorAl
import Derived.Test.YtfebdimolnobaaaGreatDoorCards
import Derived.JoinedOf
set_option maxRecDepth 100000
set_option maxHeartbeats 8000000
set_option linter.all false
namespace Go.Proofs.YtfebdimolnobaaaGreatDoor
open Go.RowKit
theorem M8:(Rows.twinsUptoRow.inPlace==Tryz.prog.inPlace 6)=true:=by kernel_rfl
theorem M9:(Rows.twinsUptoRow.unfollowed==Tryz.prog.unfollowed 6)=true:=by kernel_rfl
end Go.Proofs.YtfebdimolnobaaaGreatDoor
