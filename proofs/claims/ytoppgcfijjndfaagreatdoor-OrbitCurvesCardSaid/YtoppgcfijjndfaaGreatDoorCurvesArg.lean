/- Own work of the verifier: OdArg. -/
import Derived.Test.YtoppgcfijjndfaaGreatDoorOwBG
import Derived.Test.YtoppgcfijjndfaaGreatDoorOwBL
set_option linter.all false
set_option exponentiation.threshold 3000
set_option linter.deprecated false
/- THE CALLS OF OrbitCurves. -/
open Go.Proofs
namespace Go.PI
open Go.ChangeShapes Go.WideShapes Go.ChangeAt Go.RowKit
open IM
set_option maxRecDepth 100000
set_option maxHeartbeats 4000000
theorem curves_calls {H : Type} {enc : TypeId × Value → H} {W : World} {fu : Nat} {cs : Array Value} {y : DataW H × List MemPlace} (h0 : DataW.trod enc Tryz.prog W 0 (fun _ => true) true fu 56 cs.toList = some y) :
    Calls Tryz.prog 8 #[.agg cs] W fun e w' => e = .returned (.bool true) ∧ Below W.heap.size W w' := by
  have hz : (⟨0, .nil⟩ : Heap).n = 0 := rfl
  have hlim : lim > 200000000000 := by unfold lim; omega
  obtain ⟨y0, y1, y2, n, hl, t0, t1, t2⟩ := rows_struct3 Tryz.underlying56 h0
  rw [nc56] at hl
  obtain ⟨v0, v1, v2, hcs⟩ : ∃ v0 v1 v2, cs.toList = [v0, v1, v2] := by
    match h : cs.toList, hl with
    | [a, b, c], _ => exact ⟨a, b, c, rfl⟩
  rw [hcs] at t0 t1 t2
  simp only [nc43x, nc54, List.drop, List.take] at t0 t1 t2
  obtain ⟨μ1, H1, a, p, i1, le1, k1, n1, m1, va, ra, hp⟩ := imp_os (imp0 W) (by omega) t0
  obtain ⟨μ2, H2, b, X, i2, le2, k2, n2, m2, vb, sb, cb⟩ := imp_intsF i1 (by omega) t1
  obtain ⟨μ3, H3, c, Y, i3, le3, k3, n3, m3, vc, sc, cc⟩ := imp_intsF i2 (by omega) t2
  have hct : Ct ctxQ 8 [.agg [p, pIs X, pIs Y]] 4000000000 fun r => r = .bool true := by
    rcases hp with ⟨L, rfl⟩ | ⟨n, rfl, h1, h2⟩
    · exact curvesLaw_ct SRq oldQ mulQ hQ15
    · exact curvesLaw_big SRq oldQ hQ15 h1 h2
  refine law_callsQ (f := 8) (c := c8) fn8 i3 (ps := [.agg [p, pIs X, pIs Y]]) (avs := [.agg [a, b, c]]) (d := 4000000000) (.cons (.agg (by rw [hcs]; exact .cons (va.mono (le2.trans le3)) (.cons (vb.mono le3) (.cons vc .nil)))) .nil)
    (.cons (.agg (.cons (rel_up (rel_up ra k2) k3) (.cons (rel_up (rel_of_sl sb cb) k3) (.cons (rel_of_sl sc cc) .nil)))) .nil) (by omega) hct
end Go.PI
