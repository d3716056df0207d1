/- Own work of the verifier: OuArg. -/
import Derived.Test.YtoppgcfijjndfaaGreatDoorOtCK
import Derived.Test.YtoppgcfijjndfaaGreatDoorOtAY
import Derived.OpenShut
set_option linter.all false
set_option exponentiation.threshold 3000
set_option linter.deprecated false
/- THE ARGUMENTS OF OrbitUnits, AND ITS CALLS. -/
open Go.Proofs
namespace Go.PI
open Go.ChangeShapes Go.WideShapes Go.ChangeAt Go.RowKit
open IM
set_option maxRecDepth 100000
set_option maxHeartbeats 4000000
/-- a law that answers true, called -/
theorem law_callsB {W : World} {μ : M} {H : Heap} {f : FuncId} {c : FI} (hf : ctxB.fn f = some c) (i : Imp W μ H) {args : Array Value} {avs : List AV} {ps : List PV} {d : Nat} (hv : VRs μ avs args.toList) (hr : All2 (RelC H fun _ => False) ps avs) (hd : H.n + d < lim)
    (hct : Ct ctxB f ps d fun r => r = .bool true) : Calls Tryz.prog f args W fun e w' => e = .returned (.bool true) ∧ Below W.heap.size W w' := by
  have law : Cl ctxB f avs H fun r _ => r = .bool true := by
    refine (hct H (fun _ => False) avs (fun b h => h.elim) hr hd).mono ?_
    rintro r H' ⟨q, rfl, hq, -⟩
    cases hq
    rfl
  obtain ⟨k, r, H', hc, rfl⟩ := law
  have hC := ctxB_fine
  rcases callF_sim hC (sound hC k) hc (args := args) hv i.hr with ⟨u, w', hrun, -⟩ | ⟨-, hcalls⟩
  · exfalso
    obtain ⟨fn', f1, f2, f3, f4, f5⟩ := hC.fn f _ hf
    have f5' : ¬ fn'.name = "runtime.NumGoroutine" := by simpa using f5
    simp [callFunc, f1, f5', f4] at hrun
  · have hw : Calls Tryz.prog f args W fun e w' => ∃ u, e = .returned u ∧ EffR μ H W (.bool true) H' u w' := callsIn_wide.1 (hcalls Fence.wide 0 ⟨fun _ => trivial, rfl, rfl⟩)
    refine hw.mono ?_
    rintro e w' ⟨u, rfl, hE⟩
    refine ⟨?_, below_of i.no hE⟩
    obtain ⟨μ', hv, -⟩ := hE
    rw [hv.bool_inv]
theorem nc24 : Tryz.prog.cellsOf 24 = 4 := by kernel_rfl
section
variable {H : Type} {enc : TypeId × Value → H} {W : World} {fuel : Nat} {cs : Array Value} {y : DataW H × List MemPlace}
theorem four_of {l : List Value} (h : l.length = 4) : ∃ a b c d, l = [a, b, c, d] := by
  match l, h with
  | [a, b, c, d], _ => exact ⟨a, b, c, d, rfl⟩
theorem unit_of (h : DataW.trod enc Tryz.prog W 0 (fun _ => true) true fuel 24 cs.toList = some y) : ∃ m : Mt, cs = #[.int .i64 m.A, .int .i64 m.B, .int .i64 m.C, .int .i64 m.D] := by
  obtain ⟨xs, n, -, -, hl, hlen, hf⟩ := DataW.trod_struct Tryz.underlying24 h
  rw [nc24] at hl
  obtain ⟨a, b, c, d, hc⟩ := four_of hl
  obtain ⟨y0, y1, y2, y3, hx⟩ : ∃ y0 y1 y2 y3, xs = [y0, y1, y2, y3] := by
    match xs, hlen with
    | [y0, y1, y2, y3], _ => exact ⟨_, _, _, _, rfl⟩
  rw [hx, hc] at hf
  have e0 := hf 0 _ rfl
  have e1 := hf 1 _ rfl
  have e2 := hf 2 _ rfl
  have e3 := hf 3 _ rfl
  simp [nc3'] at e0 e1 e2 e3
  obtain ⟨p0, q0, -, -⟩ := DataW.trod_int Tryz.underlying3 e0
  obtain ⟨p1, q1, -, -⟩ := DataW.trod_int Tryz.underlying3 e1
  obtain ⟨p2, q2, -, -⟩ := DataW.trod_int Tryz.underlying3 e2
  obtain ⟨p3, q3, -, -⟩ := DataW.trod_int Tryz.underlying3 e3
  simp at q0 q1 q2 q3
  refine ⟨⟨p0, p1, p2, p3⟩, Array.ext' ?_⟩
  rw [hc, q0, q1, q2, q3]
theorem units_calls {fu fv : Nat} {ds : Array Value} {z : DataW H × List MemPlace}
    (h0 : DataW.trod enc Tryz.prog W 0 (fun _ => true) true fu 24 cs.toList = some y) (h1 : DataW.trod enc Tryz.prog W 0 (fun _ => true) true fv 24 ds.toList = some z) :
    Calls Tryz.prog 4 #[.agg cs, .agg ds] W fun e w' => e = .returned (.bool true) ∧ Below W.heap.size W w' := by
  have hz : (⟨0, .nil⟩ : Heap).n = 0 := rfl
  have hlim : lim > 200000000000 := by unfold lim; omega
  obtain ⟨a, rfl⟩ := unit_of h0
  obtain ⟨b, rfl⟩ := unit_of h1
  refine law_callsB (f := 4) (c := c4) fn4 (imp0 W) (ps := [pU a, pU b]) (avs := [.agg [.int .i64 a.A, .int .i64 a.B, .int .i64 a.C, .int .i64 a.D], .agg [.int .i64 b.A, .int .i64 b.B, .int .i64 b.C, .int .i64 b.D]]) (d := 20000)
    (.cons (.agg (.cons (.int _ _) (.cons (.int _ _) (.cons (.int _ _) (.cons (.int _ _) .nil))))) (.cons (.agg (.cons (.int _ _) (.cons (.int _ _) (.cons (.int _ _) (.cons (.int _ _) .nil))))) .nil))
    (.cons (.agg (.cons (.int _ _) (.cons (.int _ _) (.cons (.int _ _) (.cons (.int _ _) .nil))))) (.cons (.agg (.cons (.int _ _) (.cons (.int _ _) (.cons (.int _ _) (.cons (.int _ _) .nil))))) .nil)) (by omega) (unitsLaw_ct SRp oldB repB hB15)
end
end Go.PI
