/- Own work of the verifier: OkJ1. -/
import Derived.Test.YtoppgcfijjndfaaGreatDoorOsAY
import Derived.Test.YtoppgcfijjndfaaGreatDoorRows
set_option linter.all false
set_option exponentiation.threshold 3000
set_option linter.deprecated false
open Go.Proofs
namespace Go.Proofs.YtoppgcfijjndfaaGreatDoor.orbitRelations
open Go Go.ChangeShapes Go.WideShapes Go.ChangeAt Go.RowKit
set_option maxRecDepth 1000000
theorem j1 : Rows.orbitRelationsRow.wf (OpenSpec.ofChange Rows.orbitRelationsSpec) = true := by kernel_rfl
theorem j2 : laidOutB Tryz.pinned.checked.prog = true := by kernel_rfl
theorem j3 : mapsRowed Tryz.pinned.checked.prog = true := by kernel_rfl
theorem j4 : Tryz.f13.params.all (Tryz.pinned.checked.prog.readableRec ·) = true := by kernel_rfl
theorem j5 : namedTie Tryz.pinned.checked.prog Rows.orbitRelationsRow.named Rows.orbitRelationsSpec.vars = true := by kernel_rfl
theorem j6 : (Rows.orbitRelationsRow.stops == []) = true := by kernel_rfl
theorem j7 : (Tryz.pinned.checked.prog.stops == []) = true := by kernel_rfl
theorem j8 : (Rows.orbitRelationsRow.knobs == []) = true := by kernel_rfl
theorem j9 : (Tryz.pinned.checked.prog.stopKnobs == []) = true := by kernel_rfl
theorem j10 : (Rows.orbitRelationsRow.inPlace == Tryz.pinned.checked.prog.inPlace 13) = true := by kernel_rfl
theorem j11 : (Rows.orbitRelationsRow.unfollowed == Tryz.pinned.checked.prog.unfollowed 13) = true := by kernel_rfl
theorem j12 : (Rows.orbitRelationsRow.recurses == Tryz.pinned.checked.prog.recurses 13) = true := by kernel_rfl
end Go.Proofs.YtoppgcfijjndfaaGreatDoor.orbitRelations
