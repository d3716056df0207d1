/- HomologyForm returns true for all origamis, all pairs of lists with a number, and all small integers: the intersection number of two cycles changes its sign if they are exchanged, and does not change if squares are added. No condition besides those of the given row. -/
import Derived.Test.YtfebkjgioddgaaaHpBC
import Derived.Test.YtfebkjgioddgaaaHpBH
import Derived.Test.YtfebkjgioddgaaaRows
import Derived.Lay
import Derived.Carry
import Derived.SevenTiedAt
set_option linter.all false
set_option exponentiation.threshold 3000
set_option linter.deprecated false
open Go.Proofs
namespace Go.PI
open Go.ChangeShapes Go.WideShapes Go.ChangeAt Go.RowKit
open IM
set_option maxRecDepth 100000
set_option maxHeartbeats 4000000
theorem nc49 : Try.prog.cellsOf 49 = 3 := by kernel_rfl
theorem rows_struct3 {H : Type} {enc : TypeId × Value → H} {P : Program} {w : World} {base : Nat} {spare : Nat → Bool} {held : Bool} {t : TypeId} {f0 f1 f2 : Field} {fuel : Nat} {cs : List Value} {x : DataW H × List MemPlace} (ht : P.underlying t = some (.struct #[f0, f1, f2])) (h : DataW.trod enc P w base spare held fuel t cs = some x) :
    ∃ y0 y1 y2 n, cs.length = P.cellsOf t ∧ DataW.trod enc P w base spare held n f0.type ((cs.drop f0.offset).take (P.cellsOf f0.type)) = some y0 ∧ DataW.trod enc P w base spare held n f1.type ((cs.drop f1.offset).take (P.cellsOf f1.type)) = some y1 ∧ DataW.trod enc P w base spare held n f2.type ((cs.drop f2.offset).take (P.cellsOf f2.type)) = some y2 := by
  obtain ⟨xs, n, _, rfl, hl, hlen, hf⟩ := DataW.trod_struct ht h
  match xs, hlen with
  | [y0, y1, y2], _ => exact ⟨y0, y1, y2, n, hl, by simpa using hf 0 f0 rfl, by simpa using hf 1 f1 rfl, by simpa using hf 2 f2 rfl⟩
theorem imp_pair {H : Type} {enc : TypeId × Value → H} {W : World} {μ : M} {Hp : Heap} (h : Imp W μ Hp) (hn : Hp.n + 6 < lim) {fuel : Nat} {cs : Array Value} {y : DataW H × List MemPlace}
    (h0 : DataW.trod enc Try.prog W 0 (fun _ => true) true fuel 49 cs.toList = some y) :
    ∃ (μ' : M) (H' : Heap) (a : AV) (xs ys : List Int) (q : Int), Imp W μ' H' ∧ M.le μ μ' ∧ (∀ B, B < Hp.n → H'.get B = Hp.get B) ∧ Hp.n ≤ H'.n ∧ H'.n ≤ Hp.n + 2 ∧ VR μ' a (.agg cs) ∧ RelC H' (fun _ => False) (.agg [pIs xs, pIs ys, pn q]) a := by
  obtain ⟨y0, y1, y2, n, hl, t0, t1, t2⟩ := rows_struct3 Try.underlying49 h0
  rw [nc49] at hl
  obtain ⟨v0, v1, v2, hcs⟩ : ∃ v0 v1 v2, cs.toList = [v0, v1, v2] := by
    match h : cs.toList, hl with
    | [a, b, c], _ => exact ⟨a, b, c, rfl⟩
  rw [hcs] at t0 t1 t2
  simp only [nc22, nc3', List.drop, List.take] at t0 t1 t2
  obtain ⟨μ1, H1, a, xs, i1, le1, k1, n1, m1, va, sa, ca⟩ := imp_intsF h (by omega) t0
  obtain ⟨μ2, H2, b, ys, i2, le2, k2, n2, m2, vb, sb, cb⟩ := imp_intsF i1 (by omega) t1
  obtain ⟨q, q0, -, w0⟩ := DataW.trod_int Try.underlying3 t2
  obtain rfl : v2 = .int .i64 q := by simpa using q0
  refine ⟨μ2, H2, .agg [a, b, .int .i64 q], xs, ys, q, i2, le1.trans le2, fun B hB => by rw [k2 B (by omega), k1 B hB], by omega, by omega, .agg (by rw [hcs]; exact .cons (va.mono le2) (.cons vb (.cons (.int _ _) .nil))), ?_⟩
  exact .agg (.cons (rel_up (rel_of_sl sa ca) k2) (.cons (rel_of_sl sb cb) (.cons (.int _ _) .nil)))
theorem i8_le {k : Int} (h : (Lit.int .i8 k).wf = true) : -128 ≤ k ∧ k ≤ 127 := by
  simp only [Lit.wf, Bool.and_eq_true, decide_eq_true_eq] at h
  have m1 : IntKind.min .i8 = -128 := by decide
  have m2 : IntKind.max .i8 = 127 := by decide
  rw [m1, m2] at h
  exact h
theorem form_calls {H : Type} {enc : TypeId × Value → H} {W : World} {fu fu2 : Nat} {cs ds : Array Value} {k : Int} {y y2 : DataW H × List MemPlace} (h0 : DataW.trod enc Try.prog W 0 (fun _ => true) true fu 24 cs.toList = some y)
    (h2 : DataW.trod enc Try.prog W 0 (fun _ => true) true fu2 49 ds.toList = some y2) (hk : -128 ≤ k ∧ k ≤ 127) :
    Calls Try.prog 5 #[.agg cs, .agg ds, .int .i8 k] W fun e w' => e = .returned (.bool true) ∧ Below W.heap.size W w' := by
  have hz : (⟨0, .nil⟩ : Heap).n = 0 := rfl
  have hlim : lim > 200000000000 := by unfold lim; omega
  obtain ⟨μ1, H1, a, xs, ys, i1, le1, k1, n1, m1, va, ra⟩ := imp_orig (imp0 W) (by omega) h0
  obtain ⟨μ3, H3, c, A, B, q, i3, le3, k3, n3, m3, vc, rc⟩ := imp_pair i1 (by omega) h2
  exact law_calls (f := 5) (c := c5) fn5 i3 (.cons (va.mono le3) (.cons vc (.cons (.int _ _) .nil))) (.cons (rel_up ra k3) (.cons rc (.cons (.int _ _) .nil))) (by omega) (formLaw_ct SA oldA hA8 hk)
end Go.PI
namespace Go.Proofs.Ytfebkjgioddgaaa.homologyForm
open Go Go.ChangeShapes Go.WideShapes Go.ChangeAt Go.RowKit
theorem own : ownKnob Try.prog.godebug = none := by kernel_rfl
set_option maxRecDepth 1000000
theorem laid_out : laidOutB Try.prog = true := by kernel_rfl
theorem read24 : Try.prog.readableRec 24 = true := by kernel_rfl
theorem row24 : 24 < Try.prog.types.size := of_decide_eq_true (by kernel_rfl)
theorem read49 : Try.prog.readableRec 49 = true := by kernel_rfl
theorem row49 : 49 < Try.prog.types.size := of_decide_eq_true (by kernel_rfl)
theorem lifted (os : Os) (started : os.Started) (H : Type) (enc : TypeId × Value → H) :
    ReturnsInHanded {} Try.checked os 5 .any (Rows.homologyFormSpec.pre6 enc Try.prog Try.f5 Rows.homologyFormRow.domain false) (Rows.homologyFormSpec.post enc Try.prog Try.f5 false true false false) := by
  refine returnsInHanded_of_change (C := Try.checked) own started (by kernel_rfl) Try.func5
    (ChangeSpec.witness6 (enc := enc) (C := Try.checked) false ⟨#[], #[.agg #[.slice none 0 0, .slice none 0 0], .agg #[.slice none 0 0, .slice none 0 0, .int .i64 0], .int .i8 0], []⟩ 8 (by kernel_rfl) (by kernel_rfl) (by kernel_rfl) (by kernel_rfl)) ?_
  intro W base args ds gs before hval0 hW hcnd _
  have hval : ∀ (j : Nat) t v, Try.f5.params[j]? = some t → args[j]? = some v → Value.okWide Try.prog W .any base t v := hval0
  have hW' := hW
  obtain ⟨p, q, hA0, hV, rfl, hfz, hnd⟩ := hW
  have hA : DataW.TrodAll enc Try.prog W 0 (fun _ => true) true Try.f5.params.toList args.toList ds p := hA0
  rw [Try.params5] at hA
  obtain ⟨v0, v1, v2, d0, d1, d2, p0, p1, p2, rfl, rfl, rfl, h0, h1, h2⟩ := trodAll_three hA
  obtain ⟨rfl, rfl⟩ := trodVars_none hV
  rw [Try.params5] at hval
  obtain ⟨cs, rfl, -⟩ := okWide_struct Try.underlying24 (hval 0 24 v0 rfl rfl)
  obtain ⟨cs1, rfl, -⟩ := okWide_struct Try.underlying49 (hval 1 49 v1 rfl rfl)
  obtain ⟨n2, rfl, rfl, rfl, w2⟩ := open_int Try.underlying50 (hval 2 50 v2 rfl rfl) h2
  obtain ⟨fu0, g0⟩ := id h0
  obtain ⟨fu1, g1⟩ := id h1
  clear hA0 hval0
  refine (Go.PI.form_calls g0 g1 (Go.PI.i8_le w2)).mono fun e W' ⟨he, hB⟩ => ?_
  subst he
  have hlt := fun x hx => hW'.lt x hx
  exact ⟨_, rfl, Go.PI.post_of_below (pa := _) (pv := []) hW' (fun _ _ _ => trodAll_mk1 (shut_bool Try.underlying4 _))
    (fun sp hsp => trodAll_mk3
      (WideElems.Trod_stays laid_out read24 row24 h0 (fun x hx => hB.same (hlt x (by simp [hx]))) (fun x hx => hsp x (by simp [hx])))
      (WideElems.Trod_stays laid_out read49 row49 h1 (fun x hx => hB.same (hlt x (by simp [hx]))) (fun x hx => hsp x (by simp [hx])))
      (shut_int Try.underlying50 w2)) (fun _ _ => rfl) (by simp) hB (ok_one (by kernel_rfl) rfl (okWide_bool_mk Try.underlying4 _))⟩
theorem row_holds : Rows.HomologyFormSaid :=
  OpenClaim.holds_of_wide 5 Try.f5 rfl rfl rfl rfl rfl rfl rfl ⟨rfl, rfl, rfl, rfl, rfl⟩ rfl rfl rfl rfl rfl (by kernel_rfl) Try.func5 (by kernel_rfl)
    (of_decide_eq_true (by kernel_rfl)) (by unfold Func.isWrapper; first | (rw [if_pos (by decide +kernel)]; kernel_rfl) | (rw [if_neg (by decide +kernel)]; exact ⟨rfl, rfl⟩))
    (fun os started H enc _ => lifted os started H enc)
end Go.Proofs.Ytfebkjgioddgaaa.homologyForm
