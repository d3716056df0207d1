/- Own work of the verifier: CosA. -/
import Derived.Test.YtgmhmahdmbdngaaGreatDoorGvBD
set_option linter.all false
set_option linter.deprecated false
open Go.Proofs
namespace Go.PI
set_option maxRecDepth 1000000
theorem run20 : isTrue (quick ctx1 100000000 20 [] ⟨0, .nil⟩) = true := by kernel_rfl
theorem ctx2_fine : Ctx.Ok Tryz.prog ctx2 := by
 obtain ⟨H, h⟩ := isTrue_some run20
 exact ctx2_ok (quick_sim h)
end Go.PI
