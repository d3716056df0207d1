/- CountFormulas returns true for all integers: the weighted number of tori and the number of primitive surfaces are those of the reference, or the errors are. No condition besides those of the given row. -/
import Derived.Test.YtdflpkkgjppmgaaGreatCfBN
import Derived.Test.YtdflpkkgjppmgaaGreatRows
import Derived.Lay
import Derived.Carry
import Derived.SevenTiedAt
set_option linter.all false
set_option exponentiation.threshold 3000
set_option linter.deprecated false
open Go.Proofs
namespace Go.PI
open Go.ChangeShapes Go.WideShapes Go.ChangeAt Go.RowKit
theorem form_calls {W : World} {n : Int} :
    Calls Tryz.prog 10 #[.int .i64 n] W fun e w' => e = .returned (.bool true) ∧ Below W.heap.size W w' := by
  have hz : (⟨0, .nil⟩ : Heap).n = 0 := rfl
  have hlim : lim > 200000000000 := by unfold lim; omega
  exact law_calls (f := 10) (c := c10) fn10 (imp0 W) (.cons (.int _ _) .nil) (.cons (.int _ _) .nil) (by omega) (formLaw_ct SA oldA hA12)
end Go.PI
namespace Go.Proofs.YtdflpkkgjppmgaaGreat.countFormulas
open Go Go.ChangeShapes Go.WideShapes Go.ChangeAt Go.RowKit
theorem own : ownKnob Tryz.prog.godebug = none := by kernel_rfl
set_option maxRecDepth 1000000
theorem laid_out : laidOutB Tryz.prog = true := by kernel_rfl
theorem lifted (os : Os) (started : os.Started) (H : Type) (enc : TypeId × Value → H) :
    ReturnsInHanded {} Tryz.checked os 10 .any (Rows.countFormulasSpec.pre6 enc Tryz.prog Tryz.f10 Rows.countFormulasRow.domain false) (Rows.countFormulasSpec.post enc Tryz.prog Tryz.f10 false true false false) := by
  refine returnsInHanded_of_change (C := Tryz.checked) own started (by kernel_rfl) Tryz.func10
    (ChangeSpec.witness6 (enc := enc) (C := Tryz.checked) false ⟨#[], #[.int .i64 0], []⟩ 8 (by kernel_rfl) (by kernel_rfl) (by kernel_rfl) (by kernel_rfl)) ?_
  intro W base args ds gs before hval0 hW hcnd _
  have hval : ∀ (j : Nat) t v, Tryz.f10.params[j]? = some t → args[j]? = some v → Value.okWide Tryz.prog W .any base t v := hval0
  have hW' := hW
  obtain ⟨p, q, hA0, hV, rfl, hfz, hnd⟩ := hW
  have hA : DataW.TrodAll enc Tryz.prog W 0 (fun _ => true) true Tryz.f10.params.toList args.toList ds p := hA0
  rw [Tryz.params10] at hA
  obtain ⟨v1, d1, rfl, rfl, h1⟩ := trodAll_one hA
  obtain ⟨rfl, rfl⟩ := trodVars_none hV
  rw [Tryz.params10] at hval
  obtain ⟨n, rfl, rfl, rfl, w1⟩ := open_int Tryz.underlying3 (hval 0 3 v1 rfl rfl) h1
  clear hA0 hval0
  refine Go.PI.form_calls.mono fun e W' ⟨he, hB⟩ => ?_
  subst he
  have hlt := fun x hx => hW'.lt x hx
  exact ⟨_, rfl, Go.PI.post_of_below (pa := _) (pv := []) hW' (fun _ _ _ => trodAll_mk1 (shut_bool Tryz.underlying4 _))
    (fun sp hsp => trodAll_mk1 (shut_int Tryz.underlying3 w1)) (fun _ _ => rfl) (by simp) hB (ok_one (by kernel_rfl) rfl (okWide_bool_mk Tryz.underlying4 _))⟩
theorem row_holds : Rows.CountFormulasSaid :=
  OpenClaim.holds_of_wide 10 Tryz.f10 rfl rfl rfl rfl rfl rfl rfl ⟨rfl, rfl, rfl, rfl, rfl⟩ rfl rfl rfl rfl rfl (by kernel_rfl) Tryz.func10 (by kernel_rfl)
    (of_decide_eq_true (by kernel_rfl)) (by unfold Func.isWrapper; first | (rw [if_pos (by decide +kernel)]; kernel_rfl) | (rw [if_neg (by decide +kernel)]; exact ⟨rfl, rfl⟩))
    (fun os started H enc _ => lifted os started H enc)
end Go.Proofs.YtdflpkkgjppmgaaGreat.countFormulas
