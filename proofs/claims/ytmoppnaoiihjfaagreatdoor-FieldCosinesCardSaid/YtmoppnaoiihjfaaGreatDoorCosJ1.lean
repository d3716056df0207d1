/- Own work of the verifier, group CosJ1: CosJ1. -/
import Derived.Test.YtmoppnaoiihjfaaGreatDoorPiM
set_option linter.all false
set_option linter.deprecated false
open Go.Proofs
namespace Go.Proofs.YtmoppnaoiihjfaaGreatDoor.fieldCosines
open Go Go.ChangeShapes Go.WideShapes Go.ChangeAt Go.RowKit
set_option maxRecDepth 1000000
theorem j1 : Rows.fieldCosinesRow.wf (OpenSpec.ofChange Rows.fieldCosinesSpec) = true := by kernel_rfl
theorem j2 : laidOutB Tryz.pinned.checked.prog = true := by kernel_rfl
theorem j3 : mapsRowed Tryz.pinned.checked.prog = true := by kernel_rfl
theorem j4 : Tryz.f17.params.all (Tryz.pinned.checked.prog.readableRec ·) = true := by kernel_rfl
theorem j5 : namedTie Tryz.pinned.checked.prog Rows.fieldCosinesRow.named Rows.fieldCosinesSpec.vars = true := by kernel_rfl
theorem j6 : (Rows.fieldCosinesRow.stops == []) = true := by kernel_rfl
theorem j7 : (Tryz.pinned.checked.prog.stops == []) = true := by kernel_rfl
theorem j8 : (Rows.fieldCosinesRow.knobs == []) = true := by kernel_rfl
theorem j9 : (Tryz.pinned.checked.prog.stopKnobs == []) = true := by kernel_rfl
theorem j10 : (Rows.fieldCosinesRow.inPlace == Tryz.pinned.checked.prog.inPlace 17) = true := by kernel_rfl
theorem j11 : (Rows.fieldCosinesRow.unfollowed == Tryz.pinned.checked.prog.unfollowed 17) = true := by kernel_rfl
theorem j12 : (Rows.fieldCosinesRow.recurses == Tryz.pinned.checked.prog.recurses 17) = true := by kernel_rfl
end Go.Proofs.YtmoppnaoiihjfaaGreatDoor.fieldCosines

