/- Own work of the verifier: NrT1. -/
import Derived.Test.YtbancdhkfjfhlaaGreatDoorRows
import Derived.LaidByTextLater
import Derived.SevenTiedAt
import Derived.KernelRfl
import Derived.Test.YtbancdhkfjfhlaaGreatDoorNnBK
set_option linter.all false
set_option exponentiation.threshold 3000
set_option linter.deprecated false
/- The program as it is worded. -/
namespace Go.Proofs.YtbancdhkfjfhlaaGreatDoor.archiveNil
open Go
theorem w3 : Tryz.prog.worded rootWordLater = true := by kernel_rfl
theorem w5 : (Tryz.prog.funcNamed "gosem.cut.vars").isSome = true := by kernel_rfl
end Go.Proofs.YtbancdhkfjfhlaaGreatDoor.archiveNil
