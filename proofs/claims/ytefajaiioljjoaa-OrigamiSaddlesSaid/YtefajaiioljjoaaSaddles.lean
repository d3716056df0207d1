/- OrigamiSaddles returns true for all origamis: the saddles of the program are those of the reference, in their order, or the error is. No condition besides those of the given row. -/
import Derived.Test.YtefajaiioljjoaaOiAZ
import Derived.Test.YtefajaiioljjoaaOiBJ
import Derived.Test.YtefajaiioljjoaaOiBK
import Derived.Test.YtefajaiioljjoaaOiBL
import Derived.Test.YtefajaiioljjoaaRows
import Derived.Lay
import Derived.Carry
import Derived.SevenTiedAt
set_option linter.all false
set_option exponentiation.threshold 3000
set_option linter.deprecated false
open Go.Proofs
namespace Go.Proofs.Ytefajaiioljjoaa.origamiSaddles
open Go Go.ChangeShapes Go.WideShapes Go.ChangeAt Go.RowKit
theorem own : ownKnob Try.prog.godebug = none := by kernel_rfl
set_option maxRecDepth 1000000
theorem laid_out : laidOutB Try.prog = true := by kernel_rfl
theorem read24 : Try.prog.readableRec 24 = true := by kernel_rfl
theorem row24 : 24 < Try.prog.types.size := of_decide_eq_true (by kernel_rfl)
theorem lifted (os : Os) (started : os.Started) (H : Type) (enc : TypeId × Value → H) :
    ReturnsInHanded {} Try.checked os 10 .any (Rows.origamiSaddlesSpec.pre6 enc Try.prog Try.f10 Rows.origamiSaddlesRow.domain false) (Rows.origamiSaddlesSpec.post enc Try.prog Try.f10 false true false false) := by
  refine returnsInHanded_of_change (C := Try.checked) own started (by kernel_rfl) Try.func10
    (ChangeSpec.witness6 (enc := enc) (C := Try.checked) false ⟨#[], #[.agg #[.slice none 0 0, .slice none 0 0]], []⟩ 4 (by kernel_rfl) (by kernel_rfl) (by kernel_rfl) (by kernel_rfl)) ?_
  intro W base args ds gs before hval0 hW hcnd _
  have hval : ∀ (j : Nat) t v, Try.f10.params[j]? = some t → args[j]? = some v → Value.okWide Try.prog W .any base t v := hval0
  have hW' := hW
  obtain ⟨p, q, hA0, hV, rfl, hfz, hnd⟩ := hW
  have hA : DataW.TrodAll enc Try.prog W 0 (fun _ => true) true Try.f10.params.toList args.toList ds p := hA0
  rw [Try.params10] at hA
  obtain ⟨v0, d0, rfl, rfl, h0⟩ := trodAll_one hA
  obtain ⟨rfl, rfl⟩ := trodVars_none hV
  rw [Try.params10] at hval
  obtain ⟨cs, rfl, -⟩ := okWide_struct Try.underlying24 (hval 0 24 v0 rfl rfl)
  obtain ⟨fu0, g0⟩ := id h0
  clear hA0 hval0
  refine (Go.PI.orig_calls (f := 10) (c := Go.PI.c10) Go.PI.fn10 (by decide) (fun r u => Go.PI.sadLaw_ct Go.PI.SA Go.PI.oldA Go.PI.hA13 (fun r u n f f' g g' h => Go.PI.saddles_ct Go.PI.SA Go.PI.oldA h) (Go.PI.rsaddles_ct Go.PI.SA Go.PI.oldA)) g0).mono fun e W' ⟨he, hB⟩ => ?_
  subst he
  have hlt := fun x hx => hW'.lt x hx
  exact ⟨_, rfl, Go.PI.post_of_below (pa := _) (pv := []) hW' (fun _ _ _ => trodAll_mk1 (shut_bool Try.underlying4 _))
    (fun sp hsp => trodAll_mk1
      (WideElems.Trod_stays laid_out read24 row24 h0 (fun x hx => hB.same (hlt x (by simp [hx]))) (fun x hx => hsp x (by simp [hx])))) (fun _ _ => rfl) (by simp) hB (ok_one (by kernel_rfl) rfl (okWide_bool_mk Try.underlying4 _))⟩
theorem row_holds : Rows.OrigamiSaddlesSaid :=
  OpenClaim.holds_of_wide 10 Try.f10 rfl rfl rfl rfl rfl rfl rfl ⟨rfl, rfl, rfl, rfl, rfl⟩ rfl rfl rfl rfl rfl (by kernel_rfl) Try.func10 (by kernel_rfl)
    (of_decide_eq_true (by kernel_rfl)) (by unfold Func.isWrapper; first | (rw [if_pos (by decide +kernel)]; kernel_rfl) | (rw [if_neg (by decide +kernel)]; exact ⟨rfl, rfl⟩))
    (fun os started H enc _ => lifted os started H enc)
end Go.Proofs.Ytefajaiioljjoaa.origamiSaddles
