/- Own work of the verifier: GivJ3. -/
import Derived.Test.YtgmhmahdmbdngaaGreatDoorGvBE
set_option linter.all false
set_option linter.deprecated false
open Go.Proofs
namespace Go.Proofs.YtgmhmahdmbdngaaGreatDoor.fieldGiven
open Go Go.ChangeShapes Go.WideShapes Go.ChangeAt Go.RowKit
set_option maxRecDepth 1000000
theorem k1 : Rows.fieldGivenRow.wfByText (OpenSpec.ofChange Rows.fieldGivenSpec) = true := by kernel_rfl
theorem k2 : Tryz.pinned.checked.prog.mainIs = some (true, "9c30db30c201d0dbaf7b3617799fe59e7125499debe4391bfda4861cc17be985".toList) := by kernel_rfl
theorem k3 : Tryz.pinned.checked.prog.funcNamed Rows.fieldGivenRow.func = some 7 := by kernel_rfl
theorem k4 : true = Tryz.pinned.checked.prog.looks [] := by kernel_rfl
theorem k6 : false = Rows.fieldGivenRow.goesBy Tryz.pinned.checked.prog := by kernel_rfl
end Go.Proofs.YtgmhmahdmbdngaaGreatDoor.fieldGiven

