/- Own work of the verifier: OwArg. -/
import Derived.Test.YtoppgcfijjndfaaGreatDoorOrAZ
import Derived.Test.YtoppgcfijjndfaaGreatDoorOrAW
import Derived.Test.YtoppgcfijjndfaaGreatDoorOrAX
set_option linter.all false
set_option exponentiation.threshold 3000
set_option linter.deprecated false
/- THE ARGUMENTS OF OrbitWords, AND ITS CALLS. -/
open Go.Proofs
namespace Go.PI
open Go.ChangeShapes Go.WideShapes Go.ChangeAt Go.RowKit
open IM
theorem words_calls {W : World} {s : ByteArray} :
    Calls Tryz.prog 3 #[.string s] W fun e w' => e = .returned (.bool true) ∧ Below W.heap.size W w' := by
  have i0 := imp0 W
  have law : Cl ctxA 3 [.str s] ⟨0, .nil⟩ fun r _ => r = .bool true := by
    refine (wordsLaw_ct SA oldA hA15 (s := s) _ (fun _ => False) [.str s] (fun b h => h.elim) (.cons (.str _) .nil) (by show 0 + _ < lim; unfold lim; decide)).mono ?_
    rintro r H' ⟨q, rfl, hq, -⟩
    cases hq
    rfl
  obtain ⟨k, r, H', hc, rfl⟩ := law
  have hC := ctxA_fine
  rcases callF_sim hC (sound hC k) hc (args := #[.string s]) (.cons (.str _) .nil) i0.hr with ⟨u, w', hrun, -⟩ | ⟨-, hcalls⟩
  · exfalso
    obtain ⟨fn', f1, f2, f3, f4, f5⟩ := hC.fn 3 _ (show ctxA.fn 3 = some c3 from fn3)
    have f5' : ¬ fn'.name = "runtime.NumGoroutine" := by simpa using f5
    simp [callFunc, f1, f5', f4] at hrun
  · have hw : Calls Tryz.prog 3 #[.string s] W fun e w' => ∃ u, e = .returned u ∧ EffR _ _ W (.bool true) H' u w' := callsIn_wide.1 (hcalls Fence.wide 0 ⟨fun _ => trivial, rfl⟩)
    refine hw.mono ?_
    rintro e w' ⟨u, rfl, hE⟩
    refine ⟨?_, below_of i0.no hE⟩
    obtain ⟨μ', hv, -⟩ := hE
    rw [hv.bool_inv]
end Go.PI
