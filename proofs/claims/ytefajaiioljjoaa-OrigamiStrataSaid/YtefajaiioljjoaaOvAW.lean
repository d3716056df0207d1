/- Own work of the verifier: OgSA. -/
import Derived.Test.YtefajaiioljjoaaOvAV
import Derived.Test.YtefajaiioljjoaaOvAK
import Derived.Test.YtefajaiioljjoaaOvAT
set_option linter.all false
set_option exponentiation.threshold 3000
set_option linter.deprecated false
/- The closed examples, run; the table that knows them alone. -/
open Go.Proofs
namespace Go.PI
set_option maxRecDepth 1000000
theorem run13 : isTrue (quick ctx 100000000 13 [] ⟨0, .nil⟩) = true := by kernel_rfl
def SA : FuncId → Option (List AV → Heap → Option (AV × Heap)) := fun f => if f = 13 then some sTrue else none
noncomputable def ctxA : Ctx := ctx.plus SA
theorem ctxA_fine : Ctx.Ok Try.prog ctxA := by
  obtain ⟨H, h⟩ := isTrue_some run13
  refine Ctx.plus_ok2 (C := ctx) ctx_ok (T := SA) fun f s hf => ?_
  unfold SA at hf
  split at hf
  · rename_i he
    subst he
    cases hf
    exact .inr (closed_true ctx_ok (quick_sim h))
  · cases hf
def OldO (S : FuncId → Option (List AV → Heap → Option (AV × Heap))) : Prop := ∀ f, f ≠ 13 → S f = none
theorem oldA : OldO SA := fun f hf => by
  unfold SA
  rw [if_neg hf]
theorem hA13 : Ct (ctx.plus SA) 13 [] 0 fun r => r = .bool true := by
  intro H W avs hw hr hn
  cases hr
  refine Cl.of_sum (v := .bool true) (H' := H) rfl ?_
  exact ⟨_, rfl, .bool _, KpH.refl _ _⟩
end Go.PI
