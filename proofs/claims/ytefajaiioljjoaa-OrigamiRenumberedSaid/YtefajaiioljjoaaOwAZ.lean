/- Own work of the verifier: OgSA. -/
import Derived.Test.YtefajaiioljjoaaOwAY
import Derived.Test.YtefajaiioljjoaaOwAK
import Derived.Test.YtefajaiioljjoaaOwAT
set_option linter.all false
set_option exponentiation.threshold 3000
set_option linter.deprecated false
/- The closed examples, run; the table that knows them alone. -/
open Go.Proofs
namespace Go.PI
set_option maxRecDepth 1000000
theorem run13 : isTrue (quick ctx 100000000 13 [] ⟨0, .nil⟩) = true := by kernel_rfl
def SA : FuncId → Option (List AV → Heap → Option (AV × Heap)) := fun f => if f = 13 then some sTrue else if f = 105 then some sSort else none
noncomputable def ctxA : Ctx := ctx.plus SA
theorem ctxA_fine : Ctx.Ok Try.prog ctxA := by
  obtain ⟨H, h⟩ := isTrue_some run13
  refine Ctx.plus_ok2 (C := ctx) ctx_ok (T := SA) fun f s hf => ?_
  unfold SA at hf
  split at hf
  · rename_i he
    subst he
    cases hf
    exact .inr (closed_true ctx_ok (quick_sim h))
  · split at hf
    · rename_i he
      subst he
      cases hf
      exact .inr sort_sum
    · cases hf
structure OldO (S : FuncId → Option (List AV → Heap → Option (AV × Heap))) : Prop where
  old : ∀ f, ¬ (f = 13 ∨ f = 105) → S f = none
  srt : S 105 = some sSort
instance {S : FuncId → Option (List AV → Heap → Option (AV × Heap))} : CoeFun (OldO S) fun _ => ∀ f, ¬ (f = 13 ∨ f = 105) → S f = none := ⟨OldO.old⟩
theorem oldA : OldO SA := ⟨fun f hf => by
  unfold SA
  rw [if_neg fun e => hf (.inl e), if_neg fun e => hf (.inr e)], rfl⟩
theorem hA13 : Ct (ctx.plus SA) 13 [] 0 fun r => r = .bool true := by
  intro H W avs hw hr hn
  cases hr
  refine Cl.of_sum (v := .bool true) (H' := H) rfl ?_
  exact ⟨_, rfl, .bool _, KpH.refl _ _⟩
end Go.PI
