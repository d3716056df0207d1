/- Own work of the verifier: NrJ3. -/
import Derived.Test.YtbancdhkfjfhlaaGreatDoorNnAU
import Derived.Test.YtbancdhkfjfhlaaGreatDoorRows
import Derived.SevenTiedAt
set_option linter.all false
set_option exponentiation.threshold 3000
set_option linter.deprecated false
open Go.Proofs
namespace Go.Proofs.YtbancdhkfjfhlaaGreatDoor.archiveNil
open Go Go.ChangeShapes Go.WideShapes Go.ChangeAt Go.RowKit
set_option maxRecDepth 1000000
theorem k1 : Rows.archiveNilRow.wfByText (OpenSpec.ofChange Rows.archiveNilSpec) = true := by kernel_rfl
theorem k2 : Tryz.pinned.checked.prog.mainIs = some (true, "ffc5bc5f7ee0317799e3dcfd80bd239791d431f89a5645b918253ee260f64321".toList) := by kernel_rfl
theorem k3 : Tryz.pinned.checked.prog.funcNamed Rows.archiveNilRow.func = some 3 := by kernel_rfl
theorem k4 : true = Tryz.pinned.checked.prog.looks [] := by kernel_rfl
end Go.Proofs.YtbancdhkfjfhlaaGreatDoor.archiveNil
