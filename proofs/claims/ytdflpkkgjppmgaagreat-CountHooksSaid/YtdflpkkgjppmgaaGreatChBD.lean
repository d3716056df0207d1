/- Own work of the verifier: CoSA. -/
import Derived.Test.YtdflpkkgjppmgaaGreatChBC
import Derived.Test.YtdflpkkgjppmgaaGreatChAV
set_option linter.all false
set_option exponentiation.threshold 3000
set_option linter.deprecated false
/- The closed examples, run; the table that knows them alone. -/
open Go.Proofs
namespace Go.PI
set_option maxRecDepth 1000000
theorem run12 : isTrue (quick ctx 100000000 12 [] ⟨0, .nil⟩) = true := by kernel_rfl
def SA : FuncId → Option (List AV → Heap → Option (AV × Heap)) := fun f => if f = 12 then some sTrue else none
theorem oldA : OldO SA := fun f hf => by
  unfold SA
  rw [if_neg fun e => hf (.inl e)]
end Go.PI
