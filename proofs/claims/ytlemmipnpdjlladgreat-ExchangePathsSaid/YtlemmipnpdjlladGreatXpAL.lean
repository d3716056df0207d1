/- Own work of the verifier: XpR1. -/
import Derived.Test.YtlemmipnpdjlladGreatXpAJ
import Derived.Test.YtlemmipnpdjlladGreatXpAK
set_option linter.all false
set_option exponentiation.threshold 3000
set_option linter.deprecated false
/- Whole(1) of the reference: a closed run. -/
open Go.Proofs
namespace Go.PI
set_option maxRecDepth 1000000
theorem run27_1 : runIs (quick ctx 100000000 27 [.int .i64 1] ⟨0, .nil⟩) [1557, 1559, 2327] [(3, [.int .i64 1]), (22, [.slu 0 0 1 1]), (3, [.int .i64 1])] (.agg [.slu 1 0 1 1, .slu 2 0 1 1]) = true := by kernel_rfl
end Go.PI
