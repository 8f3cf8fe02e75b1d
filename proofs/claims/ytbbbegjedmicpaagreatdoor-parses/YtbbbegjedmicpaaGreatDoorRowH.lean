import Derived.Test.YtbbbegjedmicpaaGreatDoorRowA
import Derived.Test.YtbbbegjedmicpaaGreatDoorCards
import Derived.JoinedOf

/-
  THE ROW's CLOSED FACTS, more of them.
-/
namespace Go.Proofs.YtbbbegjedmicpaaGreatDoor
open Go.ChangeShapes Go.WideShapes Go.ChangeAt Go.RowKit

set_option maxRecDepth 100000 in
theorem fa7 : Tryz.prog.mayEnter = true := by kernel_rfl
set_option maxRecDepth 100000 in
theorem fa8 : (Rows.parsesRow.plainKeys == Tryz.prog.plainKeys) = true := by kernel_rfl

end Go.Proofs.YtbbbegjedmicpaaGreatDoor
