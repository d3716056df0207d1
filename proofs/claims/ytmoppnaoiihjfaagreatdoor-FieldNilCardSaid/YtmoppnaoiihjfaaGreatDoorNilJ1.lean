/- Own work of the verifier, group NilJ1: NilJ1. -/
import Derived.Test.YtmoppnaoiihjfaaGreatDoorPiM
set_option linter.all false
set_option linter.deprecated false
open Go.Proofs
namespace Go.Proofs.YtmoppnaoiihjfaaGreatDoor.fieldNil
open Go Go.ChangeShapes Go.WideShapes Go.ChangeAt Go.RowKit
set_option maxRecDepth 1000000
theorem j1 : Rows.fieldNilRow.wf (OpenSpec.ofChange Rows.fieldNilSpec) = true := by kernel_rfl
theorem j2 : laidOutB Tryz.pinned.checked.prog = true := by kernel_rfl
theorem j3 : mapsRowed Tryz.pinned.checked.prog = true := by kernel_rfl
theorem j4 : Tryz.f18.params.all (Tryz.pinned.checked.prog.readableRec ·) = true := by kernel_rfl
theorem j5 : namedTie Tryz.pinned.checked.prog Rows.fieldNilRow.named Rows.fieldNilSpec.vars = true := by kernel_rfl
theorem j6 : (Rows.fieldNilRow.stops == []) = true := by kernel_rfl
theorem j7 : (Tryz.pinned.checked.prog.stops == []) = true := by kernel_rfl
theorem j8 : (Rows.fieldNilRow.knobs == []) = true := by kernel_rfl
theorem j9 : (Tryz.pinned.checked.prog.stopKnobs == []) = true := by kernel_rfl
theorem j10 : (Rows.fieldNilRow.inPlace == Tryz.pinned.checked.prog.inPlace 18) = true := by kernel_rfl
theorem j11 : (Rows.fieldNilRow.unfollowed == Tryz.pinned.checked.prog.unfollowed 18) = true := by kernel_rfl
theorem j12 : (Rows.fieldNilRow.recurses == Tryz.pinned.checked.prog.recurses 18) = true := by kernel_rfl
end Go.Proofs.YtmoppnaoiihjfaaGreatDoor.fieldNil

