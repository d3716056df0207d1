/- Own work of the verifier: OcJ1. -/
import Derived.Test.YtoppgcfijjndfaaGreatDoorOqBG
import Derived.Test.YtoppgcfijjndfaaGreatDoorRows
set_option linter.all false
set_option exponentiation.threshold 3000
set_option linter.deprecated false
open Go.Proofs
namespace Go.Proofs.YtoppgcfijjndfaaGreatDoor.orbitChecks
open Go Go.ChangeShapes Go.WideShapes Go.ChangeAt Go.RowKit
set_option maxRecDepth 1000000
theorem j1 : Rows.orbitChecksRow.wf (OpenSpec.ofChange Rows.orbitChecksSpec) = true := by kernel_rfl
theorem j2 : laidOutB Tryz.pinned.checked.prog = true := by kernel_rfl
theorem j3 : mapsRowed Tryz.pinned.checked.prog = true := by kernel_rfl
theorem j4 : Tryz.f7.params.all (Tryz.pinned.checked.prog.readableRec ·) = true := by kernel_rfl
theorem j5 : namedTie Tryz.pinned.checked.prog Rows.orbitChecksRow.named Rows.orbitChecksSpec.vars = true := by kernel_rfl
theorem j6 : (Rows.orbitChecksRow.stops == []) = true := by kernel_rfl
theorem j7 : (Tryz.pinned.checked.prog.stops == []) = true := by kernel_rfl
theorem j8 : (Rows.orbitChecksRow.knobs == []) = true := by kernel_rfl
theorem j9 : (Tryz.pinned.checked.prog.stopKnobs == []) = true := by kernel_rfl
theorem j10 : (Rows.orbitChecksRow.inPlace == Tryz.pinned.checked.prog.inPlace 7) = true := by kernel_rfl
theorem j11 : (Rows.orbitChecksRow.unfollowed == Tryz.pinned.checked.prog.unfollowed 7) = true := by kernel_rfl
theorem j12 : (Rows.orbitChecksRow.recurses == Tryz.pinned.checked.prog.recurses 7) = true := by kernel_rfl
end Go.Proofs.YtoppgcfijjndfaaGreatDoor.orbitChecks
