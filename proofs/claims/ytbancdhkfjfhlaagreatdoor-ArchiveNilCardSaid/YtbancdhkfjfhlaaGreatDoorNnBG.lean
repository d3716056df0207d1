/- Own work of the verifier: NrJ5. -/
import Derived.Test.YtbancdhkfjfhlaaGreatDoorNnAU
import Derived.Test.YtbancdhkfjfhlaaGreatDoorRows
import Derived.SevenTiedAt
set_option linter.all false
set_option exponentiation.threshold 3000
set_option linter.deprecated false
open Go.Proofs
namespace Go.Proofs.YtbancdhkfjfhlaaGreatDoor.archiveNil
open Go Go.ChangeShapes Go.WideShapes Go.ChangeAt Go.RowKit
set_option maxRecDepth 1000000
theorem j17 : (Rows.archiveNilRow.loops == (Tryz.f3.params.toList ++ Rows.archiveNilSpec.plain.varTypes Tryz.pinned.checked.prog).any (Tryz.pinned.checked.prog.loopsFrom ·)) = true := by kernel_rfl
theorem j18 : (Rows.archiveNilRow.wideKeys == (Tryz.f3.params.toList ++ Rows.archiveNilSpec.plain.varTypes Tryz.pinned.checked.prog ++ Tryz.f3.resultTypes.toList).any (Tryz.pinned.checked.prog.wideKeysFrom ·)) = true := by kernel_rfl
theorem j19 : Rows.archiveNilSpec.vars.all (Tryz.pinned.checked.prog.varReadable ·) = true := by kernel_rfl
end Go.Proofs.YtbancdhkfjfhlaaGreatDoor.archiveNil
