/- Own work of the verifier: NrT2. -/
import Derived.Test.YtbancdhkfjfhlaaGreatDoorRows
import Derived.LaidByTextLater
import Derived.SevenTiedAt
import Derived.KernelRfl
import Derived.Test.YtbancdhkfjfhlaaGreatDoorNnBK
set_option linter.all false
set_option exponentiation.threshold 3000
set_option linter.deprecated false
/- The variables are laid in order. -/
namespace Go.Proofs.YtbancdhkfjfhlaaGreatDoor.archiveNil
open Go
theorem w6 : varsNamedLaterB Tryz.prog (varsId Tryz.prog) laid6 = true := by kernel_rfl
end Go.Proofs.YtbancdhkfjfhlaaGreatDoor.archiveNil
