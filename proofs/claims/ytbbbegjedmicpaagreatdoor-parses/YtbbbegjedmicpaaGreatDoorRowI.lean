import Derived.Test.YtbbbegjedmicpaaGreatDoorRowA
import Derived.Test.YtbbbegjedmicpaaGreatDoorCards
import Derived.JoinedOf

/-
  THE ROW's CLOSED FACTS: the road's own.
-/
namespace Go.Proofs.YtbbbegjedmicpaaGreatDoor
open Go.ChangeShapes Go.WideShapes Go.ChangeAt Go.RowKit

set_option maxRecDepth 100000 in
theorem fa9 : false = Rows.parsesRow.goesBy Tryz.prog := by kernel_rfl

end Go.Proofs.YtbbbegjedmicpaaGreatDoor
