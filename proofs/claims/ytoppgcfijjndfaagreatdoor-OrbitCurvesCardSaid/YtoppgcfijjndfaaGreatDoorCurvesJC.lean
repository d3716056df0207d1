/- Own work of the verifier: OdJ3. -/
import Derived.Test.YtoppgcfijjndfaaGreatDoorOwBI
import Derived.Test.YtoppgcfijjndfaaGreatDoorRows
import Derived.SevenTiedAt
set_option linter.all false
set_option exponentiation.threshold 3000
set_option linter.deprecated false
open Go.Proofs
namespace Go.Proofs.YtoppgcfijjndfaaGreatDoor.orbitCurves
open Go Go.ChangeShapes Go.WideShapes Go.ChangeAt Go.RowKit
set_option maxRecDepth 1000000
theorem k1 : Rows.orbitCurvesRow.wfByText (OpenSpec.ofChange Rows.orbitCurvesSpec) = true := by kernel_rfl
theorem k2 : Tryz.pinned.checked.prog.mainIs = some (true, "042c88920345806e2a73e85ab70258aac3bf994b5e81621f34bc80eca5205d86".toList) := by kernel_rfl
theorem k3 : Tryz.pinned.checked.prog.funcNamed Rows.orbitCurvesRow.func = some 8 := by kernel_rfl
theorem k4 : false = Tryz.pinned.checked.prog.looks [] := by kernel_rfl
theorem k6 : false = Rows.orbitCurvesRow.goesBy Tryz.pinned.checked.prog := by kernel_rfl
end Go.Proofs.YtoppgcfijjndfaaGreatDoor.orbitCurves
