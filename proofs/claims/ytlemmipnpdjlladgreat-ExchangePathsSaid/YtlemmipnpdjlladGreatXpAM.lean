/- Own work of the verifier: XpR2. -/
import Derived.Test.YtlemmipnpdjlladGreatXpAJ
import Derived.Test.YtlemmipnpdjlladGreatXpAK
set_option linter.all false
set_option exponentiation.threshold 3000
set_option linter.deprecated false
/- Whole(2) of the reference: a closed run. -/
open Go.Proofs
namespace Go.PI
set_option maxRecDepth 1000000
theorem run27_2 : runIs (quick ctx 100000000 27 [.int .i64 2] ⟨0, .nil⟩) [2298, 2300, 3068] [(3, [.int .i64 2]), (22, [.slu 0 0 1 1]), (3, [.int .i64 1])] (.agg [.slu 1 0 1 1, .slu 2 0 1 1]) = true := by kernel_rfl
end Go.PI
