/- Own work of the verifier: FldJ1. -/
import Derived.Test.YtgmhmahdmbdngaaGreatDoorFlBG
set_option linter.all false
set_option linter.deprecated false
open Go.Proofs
namespace Go.Proofs.YtgmhmahdmbdngaaGreatDoor.fieldFields
open Go Go.ChangeShapes Go.WideShapes Go.ChangeAt Go.RowKit
set_option maxRecDepth 1000000
theorem j1 : Rows.fieldFieldsRow.wf (OpenSpec.ofChange Rows.fieldFieldsSpec) = true := by kernel_rfl
theorem j2 : laidOutB Tryz.pinned.checked.prog = true := by kernel_rfl
theorem j3 : mapsRowed Tryz.pinned.checked.prog = true := by kernel_rfl
theorem j4 : Tryz.f6.params.all (Tryz.pinned.checked.prog.readableRec ·) = true := by kernel_rfl
theorem j5 : namedTie Tryz.pinned.checked.prog Rows.fieldFieldsRow.named Rows.fieldFieldsSpec.vars = true := by kernel_rfl
theorem j6 : (Rows.fieldFieldsRow.stops == []) = true := by kernel_rfl
theorem j7 : (Tryz.pinned.checked.prog.stops == []) = true := by kernel_rfl
theorem j8 : (Rows.fieldFieldsRow.knobs == []) = true := by kernel_rfl
theorem j9 : (Tryz.pinned.checked.prog.stopKnobs == []) = true := by kernel_rfl
theorem j10 : (Rows.fieldFieldsRow.inPlace == Tryz.pinned.checked.prog.inPlace 6) = true := by kernel_rfl
theorem j11 : (Rows.fieldFieldsRow.unfollowed == Tryz.pinned.checked.prog.unfollowed 6) = true := by kernel_rfl
theorem j12 : (Rows.fieldFieldsRow.recurses == Tryz.pinned.checked.prog.recurses 6) = true := by kernel_rfl
end Go.Proofs.YtgmhmahdmbdngaaGreatDoor.fieldFields

