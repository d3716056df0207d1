/- OrigamiChecks returns true for all origamis, all lists and all integers: the program's errors of an origami and of a list, its components, each of its parts and the cycles of a list are those of the reference. No condition besides those of the given row. -/
import Derived.Test.YtefajaiioljjoaaOyAZ
import Derived.Test.YtefajaiioljjoaaOyBE
import Derived.Test.YtefajaiioljjoaaRows
import Derived.Lay
import Derived.Carry
import Derived.SevenTiedAt
set_option linter.all false
set_option exponentiation.threshold 3000
set_option linter.deprecated false
open Go.Proofs
namespace Go.PI
open Go.ChangeShapes Go.WideShapes Go.ChangeAt Go.RowKit
theorem checks_calls {H : Type} {enc : TypeId × Value → H} {W : World} {fu fu2 : Nat} {cs : Array Value} {v1 : Value} {k : Int} {y y2 : DataW H × List MemPlace} (h0 : DataW.trod enc Try.prog W 0 (fun _ => true) true fu 24 cs.toList = some y)
    (h1 : DataW.trod enc Try.prog W 0 (fun _ => true) true fu2 22 [v1] = some y2) :
    Calls Try.prog 3 #[.agg cs, v1, .int .i64 k] W fun e w' => e = .returned (.bool true) ∧ Below W.heap.size W w' := by
  have hz : (⟨0, .nil⟩ : Heap).n = 0 := rfl
  have hlim : lim > 200000000000 := by unfold lim; omega
  obtain ⟨μ1, H1, a, xs, ys, i1, le1, k1, n1, m1, va, ra⟩ := imp_orig (imp0 W) (by omega) h0
  obtain ⟨μ2, H2, c, zs, i2, le2, k2, n2, m2, vc, sc, cc⟩ := imp_intsF i1 (by omega) h1
  exact law_calls (f := 3) (c := c3) fn3 i2 (.cons (va.mono le2) (.cons vc (.cons (.int _ _) .nil))) (.cons (rel_up ra k2) (.cons (rel_of_sl sc cc) (.cons (.int _ _) .nil))) (by omega) (checksLaw_ct SA oldA hA13)
end Go.PI
namespace Go.Proofs.Ytefajaiioljjoaa.origamiChecks
open Go Go.ChangeShapes Go.WideShapes Go.ChangeAt Go.RowKit
theorem own : ownKnob Try.prog.godebug = none := by kernel_rfl
set_option maxRecDepth 1000000
theorem laid_out : laidOutB Try.prog = true := by kernel_rfl
theorem read24 : Try.prog.readableRec 24 = true := by kernel_rfl
theorem row24 : 24 < Try.prog.types.size := of_decide_eq_true (by kernel_rfl)
theorem read22 : Try.prog.readableRec 22 = true := by kernel_rfl
theorem row22 : 22 < Try.prog.types.size := of_decide_eq_true (by kernel_rfl)
theorem lifted (os : Os) (started : os.Started) (H : Type) (enc : TypeId × Value → H) :
    ReturnsInHanded {} Try.checked os 3 .any (Rows.origamiChecksSpec.pre6 enc Try.prog Try.f3 Rows.origamiChecksRow.domain false) (Rows.origamiChecksSpec.post enc Try.prog Try.f3 false true false false) := by
  refine returnsInHanded_of_change (C := Try.checked) own started (by kernel_rfl) Try.func3
    (ChangeSpec.witness6 (enc := enc) (C := Try.checked) false ⟨#[], #[.agg #[.slice none 0 0, .slice none 0 0], .slice none 0 0, .int .i64 0], []⟩ 8 (by kernel_rfl) (by kernel_rfl) (by kernel_rfl) (by kernel_rfl)) ?_
  intro W base args ds gs before hval0 hW hcnd _
  have hval : ∀ (j : Nat) t v, Try.f3.params[j]? = some t → args[j]? = some v → Value.okWide Try.prog W .any base t v := hval0
  have hW' := hW
  obtain ⟨p, q, hA0, hV, rfl, hfz, hnd⟩ := hW
  have hA : DataW.TrodAll enc Try.prog W 0 (fun _ => true) true Try.f3.params.toList args.toList ds p := hA0
  rw [Try.params3] at hA
  obtain ⟨v0, v1, v2, d0, d1, d2, p0, p1, p2, rfl, rfl, rfl, h0, h1, h2⟩ := trodAll_three hA
  obtain ⟨rfl, rfl⟩ := trodVars_none hV
  rw [Try.params3] at hval
  obtain ⟨cs, rfl, -⟩ := okWide_struct Try.underlying24 (hval 0 24 v0 rfl rfl)
  obtain ⟨a2, n1, c2, rfl⟩ := okWide_slice Try.underlying22 (hval 1 22 v1 rfl rfl)
  obtain ⟨n2, rfl, rfl, rfl, w2⟩ := open_int Try.underlying3 (hval 2 3 v2 rfl rfl) h2
  obtain ⟨fu0, g0⟩ := id h0
  obtain ⟨fu1, g1⟩ := id h1
  clear hA0 hval0
  refine (Go.PI.checks_calls g0 g1).mono fun e W' ⟨he, hB⟩ => ?_
  subst he
  have hlt := fun x hx => hW'.lt x hx
  exact ⟨_, rfl, Go.PI.post_of_below (pa := _) (pv := []) hW' (fun _ _ _ => trodAll_mk1 (shut_bool Try.underlying4 _))
    (fun sp hsp => trodAll_mk3
      (WideElems.Trod_stays laid_out read24 row24 h0 (fun x hx => hB.same (hlt x (by simp [hx]))) (fun x hx => hsp x (by simp [hx])))
      (WideElems.Trod_stays laid_out read22 row22 h1 (fun x hx => hB.same (hlt x (by simp [hx]))) (fun x hx => hsp x (by simp [hx])))
      (shut_int Try.underlying3 w2)) (fun _ _ => rfl) (by simp) hB (ok_one (by kernel_rfl) rfl (okWide_bool_mk Try.underlying4 _))⟩
theorem row_holds : Rows.OrigamiChecksSaid :=
  OpenClaim.holds_of_wide 3 Try.f3 rfl rfl rfl rfl rfl rfl rfl ⟨rfl, rfl, rfl, rfl, rfl⟩ rfl rfl rfl rfl rfl (by kernel_rfl) Try.func3 (by kernel_rfl)
    (of_decide_eq_true (by kernel_rfl)) (by unfold Func.isWrapper; first | (rw [if_pos (by decide +kernel)]; kernel_rfl) | (rw [if_neg (by decide +kernel)]; exact ⟨rfl, rfl⟩))
    (fun os started H enc _ => lifted os started H enc)
end Go.Proofs.Ytefajaiioljjoaa.origamiChecks
