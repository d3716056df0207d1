/- Own work of the verifier: NrT6. -/
import Derived.Test.YtbancdhkfjfhlaaGreatDoorRows
import Derived.LaidByTextLater
import Derived.SevenTiedAt
import Derived.KernelRfl
set_option linter.all false
set_option exponentiation.threshold 3000
set_option linter.deprecated false
/- The pinned table; all listed ones. -/
namespace Go.Proofs.YtbancdhkfjfhlaaGreatDoor.archiveNil
open Go
theorem pin1 : Tryz.pinned.checked.prog.pinnedFits ((Rows.archiveNilRow.laid.map (·.1)).getD 5 "") = true := by kernel_rfl
theorem noOwn : Tryz.pinned.checked.prog.headLifts.contains "ownunsafe" = false := by kernel_rfl
theorem fits7 : Tryz.pinned.checked.prog.listedFits Rows.archiveNilRow.laid = true := by
  unfold Program.listedFits
  rw [noOwn]
  kernel_rfl
end Go.Proofs.YtbancdhkfjfhlaaGreatDoor.archiveNil
