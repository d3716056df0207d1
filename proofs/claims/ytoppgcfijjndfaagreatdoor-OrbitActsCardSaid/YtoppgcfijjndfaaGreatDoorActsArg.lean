/- Own work of the verifier: OaArg. -/
import Derived.Test.YtoppgcfijjndfaaGreatDoorOsBE
import Derived.Test.YtoppgcfijjndfaaGreatDoorOsAY
set_option linter.all false
set_option exponentiation.threshold 3000
set_option linter.deprecated false
/- THE CALLS OF OrbitActs. -/
open Go.Proofs
namespace Go.PI
theorem acts_law {s : ByteArray} (r u : List Int) : Ct ctxA 5 [pO r u, .str s] 10000000 fun v => v = .bool true := actsLaw_ct SA oldA hA15
end Go.PI
