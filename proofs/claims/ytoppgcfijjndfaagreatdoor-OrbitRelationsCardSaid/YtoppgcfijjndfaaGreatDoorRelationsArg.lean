/- Own work of the verifier: OkArg. -/
import Derived.Test.YtoppgcfijjndfaaGreatDoorOsCE
import Derived.Test.YtoppgcfijjndfaaGreatDoorOsAY
import Derived.OpenShut
set_option linter.all false
set_option exponentiation.threshold 3000
set_option linter.deprecated false
/- THE ARGUMENTS OF OrbitRelations, AND ITS CALLS. -/
open Go.Proofs
namespace Go.PI
open Go.ChangeShapes Go.WideShapes Go.ChangeAt Go.RowKit
open IM
set_option maxRecDepth 100000
set_option maxHeartbeats 4000000
theorem nc100 : Tryz.prog.cellsOf 100 = 2 := by kernel_rfl
theorem nc101 : Tryz.prog.cellsOf 101 = 2 := by kernel_rfl
theorem nc9 : Tryz.prog.cellsOf 9 = 1 := by kernel_rfl
theorem nc5 : Tryz.prog.cellsOf 5 = 1 := by kernel_rfl
section
variable {H : Type} {enc : TypeId × Value → H} {W : World} {fuel : Nat} {cs : Array Value} {y : DataW H × List MemPlace}
theorem two_of {l : List Value} (h : l.length = 2) : ∃ a b, l = [a, b] := by
  match l, h with
  | [a, b], _ => exact ⟨a, b, rfl⟩
theorem arr_strs (h : DataW.trod enc Tryz.prog W 0 (fun _ => true) true fuel 100 cs.toList = some y) : ∃ s t : ByteArray, cs = #[.string s, .string t] := by
  obtain ⟨xs, m, -, -, hl, hx, he⟩ := DataW.trod_array Tryz.underlying100 h
  rw [nc100] at hl
  obtain ⟨a, b, hc⟩ := two_of hl
  rw [hc] at he
  have g : ∀ i, i < 2 → ∃ x, xs[i]? = some x := fun i hi => ⟨xs[i]'(by omega), List.getElem?_eq_getElem _⟩
  obtain ⟨x0, h0⟩ := g 0 (by omega)
  obtain ⟨x1, h1⟩ := g 1 (by omega)
  have e0 := he 0 (by omega)
  have e1 := he 1 (by omega)
  rw [h0, nc9] at e0
  rw [h1, nc9] at e1
  obtain ⟨s, q0, -, -⟩ := DataW.trod_string Tryz.underlying9 e0
  obtain ⟨t, q1, -, -⟩ := DataW.trod_string Tryz.underlying9 e1
  simp at q0 q1
  subst q0
  subst q1
  exact ⟨s, t, Array.ext' (by rw [hc])⟩
theorem arr_u8s (h : DataW.trod enc Tryz.prog W 0 (fun _ => true) true fuel 101 cs.toList = some y) : ∃ s t : Nat, cs = #[.int .u8 s, .int .u8 t] ∧ s < 256 ∧ t < 256 := by
  obtain ⟨xs, m, -, -, hl, hx, he⟩ := DataW.trod_array Tryz.underlying101 h
  rw [nc101] at hl
  obtain ⟨a, b, hc⟩ := two_of hl
  rw [hc] at he
  have g : ∀ i, i < 2 → ∃ x, xs[i]? = some x := fun i hi => ⟨xs[i]'(by omega), List.getElem?_eq_getElem _⟩
  obtain ⟨x0, h0⟩ := g 0 (by omega)
  obtain ⟨x1, h1⟩ := g 1 (by omega)
  have e0 := he 0 (by omega)
  have e1 := he 1 (by omega)
  rw [h0, nc5] at e0
  rw [h1, nc5] at e1
  obtain ⟨s, q0, -, w0⟩ := DataW.trod_int Tryz.underlying5 e0
  obtain ⟨t, q1, -, w1⟩ := DataW.trod_int Tryz.underlying5 e1
  simp at q0 q1
  subst q0
  subst q1
  simp only [Lit.wf, Bool.and_eq_true, decide_eq_true_eq] at w0 w1
  have m1 : IntKind.min .u8 = 0 := by decide
  have m2 : IntKind.max .u8 = 255 := by decide
  rw [m1, m2] at w0 w1
  refine ⟨s.toNat, t.toNat, Array.ext' ?_, by omega, by omega⟩
  rw [hc, Int.toNat_of_nonneg w0.1, Int.toNat_of_nonneg w1.1]
theorem rel_calls {fu fv fw : Nat} {ds es : Array Value} {z v : DataW H × List MemPlace}
    (h0 : DataW.trod enc Tryz.prog W 0 (fun _ => true) true fu 45 cs.toList = some y) (h1 : DataW.trod enc Tryz.prog W 0 (fun _ => true) true fv 100 ds.toList = some z) (h2 : DataW.trod enc Tryz.prog W 0 (fun _ => true) true fw 101 es.toList = some v) :
    Calls Tryz.prog 13 #[.agg cs, .agg ds, .agg es] W fun e w' => e = .returned (.bool true) ∧ Below W.heap.size W w' := by
  have hz : (⟨0, .nil⟩ : Heap).n = 0 := rfl
  have hlim : lim > 200000000000 := by unfold lim; omega
  obtain ⟨μ1, H1, a, xs, ys, i1, le1, k1, n1, m1, va, ra⟩ := imp_orig (imp0 W) (by omega) h0
  obtain ⟨s, t, rfl⟩ := arr_strs h1
  obtain ⟨p, q, rfl, hp, hq⟩ := arr_u8s h2
  refine law_calls (f := 13) (c := c13) fn13 i1 (ps := [pO xs ys, .agg [.str s, .str t], .agg [.int .u8 p, .int .u8 q]]) (avs := [a, .agg [.str s, .str t], .agg [.int .u8 p, .int .u8 q]]) (d := 100000000)
    (.cons va (.cons (.agg (.cons (.str s) (.cons (.str t) .nil))) (.cons (.agg (.cons (.int .u8 p) (.cons (.int .u8 q) .nil))) .nil)))
    (.cons ra (.cons (.agg (.cons (.str s) (.cons (.str t) .nil))) (.cons (.agg (.cons (.int .u8 p) (.cons (.int .u8 q) .nil))) .nil))) (by omega) (relLaw_ct SA oldA hA15 hp)
end
end Go.PI
