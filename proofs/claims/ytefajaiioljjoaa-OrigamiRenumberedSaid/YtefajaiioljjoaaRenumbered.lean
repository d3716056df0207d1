/- OrigamiRenumbered returns true for all pairs of origamis and all lists of bytes: renumbering changes neither the label nor stratum, genus and periods, and two origamis have the same label just if the program finds an isomorphism, which it accepts. No condition besides those of the given row. -/
import Derived.Test.YtefajaiioljjoaaOwBF
import Derived.Test.YtefajaiioljjoaaOwBK
import Derived.Test.YtefajaiioljjoaaRows
import Derived.Lay
import Derived.Carry
import Derived.SevenTiedAt
set_option linter.all false
set_option exponentiation.threshold 3000
set_option linter.deprecated false
open Go.Proofs
namespace Go.PI
open Go.ChangeShapes Go.WideShapes Go.ChangeAt Go.RowKit
theorem ren_calls {H : Type} {enc : TypeId × Value → H} {W : World} {fu fu1 fu2 : Nat} {cs cs1 : Array Value} {v2 : Value} {y y1 y2 : DataW H × List MemPlace} (h0 : DataW.trod enc Try.prog W 0 (fun _ => true) true fu 24 cs.toList = some y)
    (h1 : DataW.trod enc Try.prog W 0 (fun _ => true) true fu1 24 cs1.toList = some y1) (h2 : DataW.trod enc Try.prog W 0 (fun _ => true) true fu2 76 [v2] = some y2) :
    Calls Try.prog 12 #[.agg cs, .agg cs1, v2] W fun e w' => e = .returned (.bool true) ∧ Below W.heap.size W w' := by
  have hz : (⟨0, .nil⟩ : Heap).n = 0 := rfl
  have hlim : lim > 200000000000 := by unfold lim; omega
  obtain ⟨μ1, H1, a, xs, ys, i1, le1, k1, n1, m1, va, ra⟩ := imp_orig (imp0 W) (by omega) h0
  obtain ⟨μ2, H2, b, xs2, ys2, i2, le2, k2, n2, m2, vb, rb⟩ := imp_orig i1 (by omega) h1
  obtain ⟨μ3, H3, c, bs, i3, le3, k3, n3, m3, vc, rc, hb⟩ := imp_u8 i2 (by omega) h2
  exact law_calls (f := 12) (c := c12) fn12 i3 (.cons ((va.mono le2).mono le3) (.cons (vb.mono le3) (.cons vc .nil))) (.cons (rel_up (rel_up ra k2) k3) (.cons (rel_up rb k3) (.cons rc .nil))) (by omega) (renLaw_ct SA oldA hA13 hb)
end Go.PI
namespace Go.Proofs.Ytefajaiioljjoaa.origamiRenumbered
open Go Go.ChangeShapes Go.WideShapes Go.ChangeAt Go.RowKit
theorem own : ownKnob Try.prog.godebug = none := by kernel_rfl
set_option maxRecDepth 1000000
theorem laid_out : laidOutB Try.prog = true := by kernel_rfl
theorem read24 : Try.prog.readableRec 24 = true := by kernel_rfl
theorem row24 : 24 < Try.prog.types.size := of_decide_eq_true (by kernel_rfl)
theorem read76 : Try.prog.readableRec 76 = true := by kernel_rfl
theorem row76 : 76 < Try.prog.types.size := of_decide_eq_true (by kernel_rfl)
theorem lifted (os : Os) (started : os.Started) (H : Type) (enc : TypeId × Value → H) :
    ReturnsInHanded {} Try.checked os 12 .any (Rows.origamiRenumberedSpec.pre6 enc Try.prog Try.f12 Rows.origamiRenumberedRow.domain false) (Rows.origamiRenumberedSpec.post enc Try.prog Try.f12 false true false false) := by
  refine returnsInHanded_of_change (C := Try.checked) own started (by kernel_rfl) Try.func12
    (ChangeSpec.witness6 (enc := enc) (C := Try.checked) false ⟨#[], #[.agg #[.slice none 0 0, .slice none 0 0], .agg #[.slice none 0 0, .slice none 0 0], .slice none 0 0], []⟩ 8 (by kernel_rfl) (by kernel_rfl) (by kernel_rfl) (by kernel_rfl)) ?_
  intro W base args ds gs before hval0 hW hcnd _
  have hval : ∀ (j : Nat) t v, Try.f12.params[j]? = some t → args[j]? = some v → Value.okWide Try.prog W .any base t v := hval0
  have hW' := hW
  obtain ⟨p, q, hA0, hV, rfl, hfz, hnd⟩ := hW
  have hA : DataW.TrodAll enc Try.prog W 0 (fun _ => true) true Try.f12.params.toList args.toList ds p := hA0
  rw [Try.params12] at hA
  obtain ⟨v0, v1, v2, d0, d1, d2, p0, p1, p2, rfl, rfl, rfl, h0, h1, h2⟩ := trodAll_three hA
  obtain ⟨rfl, rfl⟩ := trodVars_none hV
  rw [Try.params12] at hval
  obtain ⟨cs, rfl, -⟩ := okWide_struct Try.underlying24 (hval 0 24 v0 rfl rfl)
  obtain ⟨cs1, rfl, -⟩ := okWide_struct Try.underlying24 (hval 1 24 v1 rfl rfl)
  obtain ⟨a2, n2, c2, rfl⟩ := okWide_slice Try.underlying76 (hval 2 76 v2 rfl rfl)
  obtain ⟨fu0, g0⟩ := id h0
  obtain ⟨fu1, g1⟩ := id h1
  obtain ⟨fu2, g2⟩ := id h2
  clear hA0 hval0
  refine (Go.PI.ren_calls g0 g1 g2).mono fun e W' ⟨he, hB⟩ => ?_
  subst he
  have hlt := fun x hx => hW'.lt x hx
  exact ⟨_, rfl, Go.PI.post_of_below (pa := _) (pv := []) hW' (fun _ _ _ => trodAll_mk1 (shut_bool Try.underlying4 _))
    (fun sp hsp => trodAll_mk3
      (WideElems.Trod_stays laid_out read24 row24 h0 (fun x hx => hB.same (hlt x (by simp [hx]))) (fun x hx => hsp x (by simp [hx])))
      (WideElems.Trod_stays laid_out read24 row24 h1 (fun x hx => hB.same (hlt x (by simp [hx]))) (fun x hx => hsp x (by simp [hx])))
      (WideElems.Trod_stays laid_out read76 row76 h2 (fun x hx => hB.same (hlt x (by simp [hx]))) (fun x hx => hsp x (by simp [hx])))) (fun _ _ => rfl) (by simp) hB (ok_one (by kernel_rfl) rfl (okWide_bool_mk Try.underlying4 _))⟩
theorem row_holds : Rows.OrigamiRenumberedSaid :=
  OpenClaim.holds_of_wide 12 Try.f12 rfl rfl rfl rfl rfl rfl rfl ⟨rfl, rfl, rfl, rfl, rfl⟩ rfl rfl rfl rfl rfl (by kernel_rfl) Try.func12 (by kernel_rfl)
    (of_decide_eq_true (by kernel_rfl)) (by unfold Func.isWrapper; first | (rw [if_pos (by decide +kernel)]; kernel_rfl) | (rw [if_neg (by decide +kernel)]; exact ⟨rfl, rfl⟩))
    (fun os started H enc _ => lifted os started H enc)
end Go.Proofs.Ytefajaiioljjoaa.origamiRenumbered
