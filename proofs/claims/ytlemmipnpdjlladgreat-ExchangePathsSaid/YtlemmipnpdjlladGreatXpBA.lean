/- Own work of the verifier: XpSA. -/
import Derived.Test.YtlemmipnpdjlladGreatXpAL
import Derived.Test.YtlemmipnpdjlladGreatXpAM
import Derived.Test.YtlemmipnpdjlladGreatXpAN
import Derived.Test.YtlemmipnpdjlladGreatXpAZ
set_option linter.all false
set_option exponentiation.threshold 3000
set_option linter.deprecated false
/- induced, over the table that knows Whole of 1, 2 and 3; the table that knows induced alone. -/
open Go.Proofs
namespace Go.PI
set_option maxRecDepth 1000000
def pat (n : Int) : List (TypeId × List AV) := [(3, [.int .i64 n]), (22, [.slu 0 0 1 1]), (3, [.int .i64 1])]
def patV : AV := .agg [.slu 1 0 1 1, .slu 2 0 1 1]
def s27 (us : List AV) (H : Heap) : Option (AV × Heap) :=
  match us with
  | [.int .i64 n] => if decide (n = 1) then sumT [1] patV (pat 1) us H else if decide (n = 2) then sumT [2] patV (pat 2) us H else if decide (n = 3) then sumT [3] patV (pat 3) us H else none
  | _ => none
def SW : FuncId → Option (List AV → Heap → Option (AV × Heap)) := fun f => if f = 27 then some s27 else none
noncomputable def ctxW : Ctx := ctx.plus SW
theorem w_val {n : Int} {ks : List Nat} (h : runIs (quick ctx 100000000 27 [.int .i64 n] ⟨0, .nil⟩) ks (pat n) patV = true) : SumR Tryz.prog 27 (sumT [n] patV (pat n)) := by
  obtain ⟨v1, H1, h1, h2⟩ := runIs_some h
  exact closed_val (ns := [n]) ctx_ok (quick_sim h1) h2
theorem s27_ok : SumR Tryz.prog 27 s27 := by
  intro us H v H' hS
  unfold s27 at hS
  split at hS
  · split at hS
    · exact w_val run27_1 _ _ _ _ hS
    · split at hS
      · exact w_val run27_2 _ _ _ _ hS
      · split at hS
        · exact w_val run27_3 _ _ _ _ hS
        · cases hS
  · cases hS
theorem ctxW_ok : Ctx.Ok Tryz.prog ctxW :=
  Ctx.plus_ok2 (C := ctx) ctx_ok (T := SW) fun f s hf => by
    unfold SW at hf
    split at hf
    · rename_i he
      subst he
      cases hf
      exact .inr s27_ok
    · cases hf
theorem run5 : isTrue (quick ctxW 100000000 5 [] ⟨0, .nil⟩) = true := by kernel_rfl
def SA : FuncId → Option (List AV → Heap → Option (AV × Heap)) := fun f => if f = 5 then some sTrue else none
noncomputable def ctxA : Ctx := ctx.plus SA
theorem ctxA_fine : Ctx.Ok Tryz.prog ctxA := by
  obtain ⟨H, h⟩ := isTrue_some run5
  refine Ctx.plus_ok2 (C := ctx) ctx_ok (T := SA) fun f s hf => ?_
  unfold SA at hf
  split at hf
  · rename_i he
    subst he
    cases hf
    exact .inr (closed_true ctxW_ok (quick_sim h))
  · cases hf
theorem oldXA : OldX SA := fun f hf => by
  unfold SA
  rw [if_neg]
  rintro rfl
  exact absurd hf (by decide)
theorem hA5 : Ct (ctx.plus SA) 5 [] 20000 fun r => r = .bool true := by
  intro H W avs hw hr hn
  cases hr
  refine Cl.of_sum (v := .bool true) (H' := H) rfl ?_
  exact ⟨_, rfl, .bool _, KpH.refl _ _⟩
end Go.PI
