/- OrigamiMaps returns true for all pairs of origamis: the isomorphism and the covering that the program answers are the first of the reference's maps, or there are none, and its errors are named. No condition besides those of the given row. -/
import Derived.Test.YtefajaiioljjoaaOmAZ
import Derived.Test.YtefajaiioljjoaaOmBD
import Derived.Test.YtefajaiioljjoaaRows
import Derived.Lay
import Derived.Carry
import Derived.SevenTiedAt
set_option linter.all false
set_option exponentiation.threshold 3000
set_option linter.deprecated false
open Go.Proofs
namespace Go.PI
open Go.ChangeShapes Go.WideShapes Go.ChangeAt Go.RowKit
theorem maps_calls {H : Type} {enc : TypeId × Value → H} {W : World} {fu fu1 : Nat} {cs cs1 : Array Value} {y y1 : DataW H × List MemPlace} (h0 : DataW.trod enc Try.prog W 0 (fun _ => true) true fu 24 cs.toList = some y)
    (h1 : DataW.trod enc Try.prog W 0 (fun _ => true) true fu1 24 cs1.toList = some y1) :
    Calls Try.prog 5 #[.agg cs, .agg cs1] W fun e w' => e = .returned (.bool true) ∧ Below W.heap.size W w' := by
  have hz : (⟨0, .nil⟩ : Heap).n = 0 := rfl
  have hlim : lim > 200000000000 := by unfold lim; omega
  obtain ⟨μ1, H1, a, xs, ys, i1, le1, k1, n1, m1, va, ra⟩ := imp_orig (imp0 W) (by omega) h0
  obtain ⟨μ2, H2, b, xs2, ys2, i2, le2, k2, n2, m2, vb, rb⟩ := imp_orig i1 (by omega) h1
  exact law_calls (f := 5) (c := c5) fn5 i2 (.cons (va.mono le2) (.cons vb .nil)) (.cons (rel_up ra k2) (.cons rb .nil)) (by omega) (mapsLaw_ct SA oldA hA13)
end Go.PI
namespace Go.Proofs.Ytefajaiioljjoaa.origamiMaps
open Go Go.ChangeShapes Go.WideShapes Go.ChangeAt Go.RowKit
theorem own : ownKnob Try.prog.godebug = none := by kernel_rfl
set_option maxRecDepth 1000000
theorem laid_out : laidOutB Try.prog = true := by kernel_rfl
theorem read24 : Try.prog.readableRec 24 = true := by kernel_rfl
theorem row24 : 24 < Try.prog.types.size := of_decide_eq_true (by kernel_rfl)
theorem lifted (os : Os) (started : os.Started) (H : Type) (enc : TypeId × Value → H) :
    ReturnsInHanded {} Try.checked os 5 .any (Rows.origamiMapsSpec.pre6 enc Try.prog Try.f5 Rows.origamiMapsRow.domain false) (Rows.origamiMapsSpec.post enc Try.prog Try.f5 false true false false) := by
  refine returnsInHanded_of_change (C := Try.checked) own started (by kernel_rfl) Try.func5
    (ChangeSpec.witness6 (enc := enc) (C := Try.checked) false ⟨#[], #[.agg #[.slice none 0 0, .slice none 0 0], .agg #[.slice none 0 0, .slice none 0 0]], []⟩ 8 (by kernel_rfl) (by kernel_rfl) (by kernel_rfl) (by kernel_rfl)) ?_
  intro W base args ds gs before hval0 hW hcnd _
  have hval : ∀ (j : Nat) t v, Try.f5.params[j]? = some t → args[j]? = some v → Value.okWide Try.prog W .any base t v := hval0
  have hW' := hW
  obtain ⟨p, q, hA0, hV, rfl, hfz, hnd⟩ := hW
  have hA : DataW.TrodAll enc Try.prog W 0 (fun _ => true) true Try.f5.params.toList args.toList ds p := hA0
  rw [Try.params5] at hA
  obtain ⟨v0, v1, d0, d1, p0, p1, rfl, rfl, rfl, h0, h1⟩ := trodAll_two hA
  obtain ⟨rfl, rfl⟩ := trodVars_none hV
  rw [Try.params5] at hval
  obtain ⟨cs, rfl, -⟩ := okWide_struct Try.underlying24 (hval 0 24 v0 rfl rfl)
  obtain ⟨cs1, rfl, -⟩ := okWide_struct Try.underlying24 (hval 1 24 v1 rfl rfl)
  obtain ⟨fu0, g0⟩ := id h0
  obtain ⟨fu1, g1⟩ := id h1
  clear hA0 hval0
  refine (Go.PI.maps_calls g0 g1).mono fun e W' ⟨he, hB⟩ => ?_
  subst he
  have hlt := fun x hx => hW'.lt x hx
  exact ⟨_, rfl, Go.PI.post_of_below (pa := _) (pv := []) hW' (fun _ _ _ => trodAll_mk1 (shut_bool Try.underlying4 _))
    (fun sp hsp => trodAll_mk2
      (WideElems.Trod_stays laid_out read24 row24 h0 (fun x hx => hB.same (hlt x (by simp [hx]))) (fun x hx => hsp x (by simp [hx])))
      (WideElems.Trod_stays laid_out read24 row24 h1 (fun x hx => hB.same (hlt x (by simp [hx]))) (fun x hx => hsp x (by simp [hx])))
      ) (fun _ _ => rfl) (by simp) hB (ok_one (by kernel_rfl) rfl (okWide_bool_mk Try.underlying4 _))⟩
theorem row_holds : Rows.OrigamiMapsSaid :=
  OpenClaim.holds_of_wide 5 Try.f5 rfl rfl rfl rfl rfl rfl rfl ⟨rfl, rfl, rfl, rfl, rfl⟩ rfl rfl rfl rfl rfl (by kernel_rfl) Try.func5 (by kernel_rfl)
    (of_decide_eq_true (by kernel_rfl)) (by unfold Func.isWrapper; first | (rw [if_pos (by decide +kernel)]; kernel_rfl) | (rw [if_neg (by decide +kernel)]; exact ⟨rfl, rfl⟩))
    (fun os started H enc _ => lifted os started H enc)
end Go.Proofs.Ytefajaiioljjoaa.origamiMaps
