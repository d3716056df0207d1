/- Own work of the verifier, group CosR7: CosR7. -/
import Derived.Test.YtmoppnaoiihjfaaGreatDoorPiL
set_option linter.all false
set_option linter.deprecated false
open Go.Proofs
namespace Go.PI
set_option maxRecDepth 1000000
theorem run17_7 : isTrue (quick ctx2 100000000 17 [iv 7] ⟨0, .nil⟩) = true := by kernel_rfl
end Go.PI

