/- Own work of the verifier: NlSA. -/
import Derived.Test.YtbancdhkfjfhlaaGreatDoorNnAX
import Derived.Test.YtbancdhkfjfhlaaGreatDoorNnAK
import Derived.Test.YtbancdhkfjfhlaaGreatDoorNnAU
set_option linter.all false
set_option exponentiation.threshold 3000
set_option linter.deprecated false
/- The closed examples, run; the table that knows them and slices.Delete. -/
open Go.Proofs
namespace Go.PI
set_option maxRecDepth 1000000
def S0N : FuncId → Option (List AV → Heap → Option (AV × Heap)) := fun f => if f = 225 then some sDel else none
noncomputable def ctx0N : Ctx := ctx.plus S0N
theorem ctx0N_ok : Ctx.Ok Tryz.prog ctx0N := by
  refine Ctx.plus_ok2 (C := ctx) ctx_ok (T := S0N) fun f s hf => ?_
  unfold S0N at hf
  split at hf
  · rename_i he
    subst he
    cases hf
    exact .inr del_sum
  · cases hf
theorem run4 : isTrue (quick ctx0N 100000000 4 [] ⟨0, .nil⟩) = true := by kernel_rfl
def SN : FuncId → Option (List AV → Heap → Option (AV × Heap)) := fun f => if f = 4 then some sTrue else if f = 225 then some sDel else none
noncomputable def ctxN : Ctx := ctx.plus SN
theorem ctxN_fine : Ctx.Ok Tryz.prog ctxN := by
  obtain ⟨H, h⟩ := isTrue_some run4
  refine Ctx.plus_ok2 (C := ctx) ctx_ok (T := SN) fun f s hf => ?_
  unfold SN at hf
  split at hf
  · rename_i he
    subst he
    cases hf
    exact .inr (closed_true ctx0N_ok (quick_sim h))
  · split at hf
    · rename_i he
      subst he
      cases hf
      exact .inr del_sum
    · cases hf
def OldN (S : FuncId → Option (List AV → Heap → Option (AV × Heap))) : Prop := ∀ f, ¬ (f = 4 ∨ f = 225) → S f = none
theorem oldN : OldN SN := fun f hf => by
  unfold SN
  rw [if_neg fun e => hf (.inl e), if_neg fun e => hf (.inr e)]
theorem hN4 : Ct (ctx.plus SN) 4 [] 0 fun r => r = .bool true := by
  intro H W avs hw hr hn
  cases hr
  refine Cl.of_sum (v := .bool true) (H' := H) rfl ?_
  exact ⟨_, rfl, .bool _, KpH.refl _ _⟩
end Go.PI
