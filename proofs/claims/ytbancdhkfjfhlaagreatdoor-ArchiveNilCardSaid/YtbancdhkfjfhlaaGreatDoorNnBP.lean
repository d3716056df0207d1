/- Own work of the verifier: NrT5. -/
import Derived.Test.YtbancdhkfjfhlaaGreatDoorRows
import Derived.LaidByTextLater
import Derived.SevenTiedAt
import Derived.KernelRfl
import Derived.Test.YtbancdhkfjfhlaaGreatDoorNnBK
set_option linter.all false
set_option exponentiation.threshold 3000
set_option linter.deprecated false
/- Where it lays them. -/
namespace Go.Proofs.YtbancdhkfjfhlaaGreatDoor.archiveNil
open Go
theorem w9 : ∀ os tape, (DataW.laidRun Tryz.prog (varsWorld Tryz.prog 400 (varsId Tryz.prog) os tape).memory 8 (laid6.map (·.1))).map (fun x => decide x.2.Nodup && laidRowsB Tryz.prog (varsWorld Tryz.prog 400 (varsId Tryz.prog) os tape).memory x.2) = some true := fun _ _ => by kernel_rfl
end Go.Proofs.YtbancdhkfjfhlaaGreatDoor.archiveNil
