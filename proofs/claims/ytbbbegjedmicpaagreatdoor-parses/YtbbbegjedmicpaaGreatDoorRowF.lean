import Derived.Test.YtbbbegjedmicpaaGreatDoorRowA
import Derived.Test.YtbbbegjedmicpaaGreatDoorCards
import Derived.JoinedOf

/-
  THE ROW's CLOSED FACTS, one by one: together they are more than the kernel's memory holds.
-/
namespace Go.Proofs.YtbbbegjedmicpaaGreatDoor
open Go.ChangeShapes Go.WideShapes Go.ChangeAt Go.RowKit

set_option maxRecDepth 100000 in
theorem fa1 : (Rows.parsesRow.inPlace == Tryz.prog.inPlace 3) = true := by kernel_rfl
set_option maxRecDepth 100000 in
theorem fa2 : (Rows.parsesRow.unfollowed == Tryz.prog.unfollowed 3) = true := by kernel_rfl
set_option maxRecDepth 100000 in
theorem fa3 : (Rows.parsesRow.recurses == Tryz.prog.recurses 3) = true := by kernel_rfl
set_option maxRecDepth 100000 in
theorem fa4 : (Rows.parsesRow.named == Tryz.prog.varsNamed 3) = true := by kernel_rfl

end Go.Proofs.YtbbbegjedmicpaaGreatDoor
