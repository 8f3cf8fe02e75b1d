import Derived.Test.YtfebdimolnobaaaGreatDoorAl
import Derived.Test.YtfebdimolnobaaaGreatDoorCards
import Derived.JoinedOf
set_option maxRecDepth 100000
set_option maxHeartbeats 8000000
set_option linter.all false
namespace Go.Proofs.YtfebdimolnobaaaGreatDoor
open Go.RowKit
theorem Na:(Rows.placedUptoRow.recurses==Tryz.prog.recurses 9)=true:=by kernel_rfl
theorem Nb:(Rows.placedUptoRow.named==Tryz.prog.varsNamed 9)=true:=by kernel_rfl
end Go.Proofs.YtfebdimolnobaaaGreatDoor
