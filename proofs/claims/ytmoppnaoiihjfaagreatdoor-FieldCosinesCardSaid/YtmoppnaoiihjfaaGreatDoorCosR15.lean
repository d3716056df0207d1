/- Own work of the verifier, group CosR15: CosR15. -/
import Derived.Test.YtmoppnaoiihjfaaGreatDoorPiL
set_option linter.all false
set_option linter.deprecated false
open Go.Proofs
namespace Go.PI
set_option maxRecDepth 1000000
theorem run17_15 : isTrue (quick ctx2 100000000 17 [iv 15] ⟨0, .nil⟩) = true := by kernel_rfl
end Go.PI

