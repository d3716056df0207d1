/- Own work of the verifier: OdJ2. -/
import Derived.Test.YtoppgcfijjndfaaGreatDoorOwBI
import Derived.Test.YtoppgcfijjndfaaGreatDoorRows
set_option linter.all false
set_option exponentiation.threshold 3000
set_option linter.deprecated false
open Go.Proofs
namespace Go.Proofs.YtoppgcfijjndfaaGreatDoor.orbitCurves
open Go Go.ChangeShapes Go.WideShapes Go.ChangeAt Go.RowKit
set_option maxRecDepth 1000000
theorem j13 : (Rows.orbitCurvesRow.named == Tryz.pinned.checked.prog.varsNamed 8) = true := by kernel_rfl
theorem j14 : (Rows.orbitCurvesRow.maps == (Tryz.f8.params.toList ++ Rows.orbitCurvesSpec.plain.varTypes Tryz.pinned.checked.prog).any (Tryz.pinned.checked.prog.mapsRec ·)) = true := by kernel_rfl
theorem j15 : (Rows.orbitCurvesRow.ifaces == (Tryz.f8.params.toList ++ Rows.orbitCurvesSpec.plain.varTypes Tryz.pinned.checked.prog).any (Tryz.pinned.checked.prog.ifacesRec ·)) = true := by kernel_rfl
theorem j16 : (Rows.orbitCurvesRow.mapsOut == Tryz.pinned.checked.prog.mapsAmong Tryz.f8.resultTypes.toList) = true := by kernel_rfl
theorem j17 : (Rows.orbitCurvesRow.loops == (Tryz.f8.params.toList ++ Rows.orbitCurvesSpec.plain.varTypes Tryz.pinned.checked.prog).any (Tryz.pinned.checked.prog.loopsFrom ·)) = true := by kernel_rfl
theorem j18 : (Rows.orbitCurvesRow.wideKeys == (Tryz.f8.params.toList ++ Rows.orbitCurvesSpec.plain.varTypes Tryz.pinned.checked.prog ++ Tryz.f8.resultTypes.toList).any (Tryz.pinned.checked.prog.wideKeysFrom ·)) = true := by kernel_rfl
theorem j19 : Rows.orbitCurvesSpec.vars.all (Tryz.pinned.checked.prog.varReadable ·) = true := by kernel_rfl
theorem j20 : Tryz.f8.resultTypes.all (fun t => Tryz.pinned.checked.prog.readableRec t && decide (t < Tryz.pinned.checked.prog.types.size)) = true := by kernel_rfl
theorem j21 : (Rows.orbitCurvesRow.ifacesOut == Tryz.f8.resultTypes.toList.any (Tryz.pinned.checked.prog.ifacesRec ·)) = true := by kernel_rfl
theorem j22 : (Rows.orbitCurvesRow.loopsOut == Tryz.f8.resultTypes.toList.any (Tryz.pinned.checked.prog.loopsFrom ·)) = true := by kernel_rfl
theorem j23 : (Rows.orbitCurvesRow.plainKeys == Tryz.pinned.checked.prog.plainKeys) = true := by kernel_rfl
theorem j24 : Rows.orbitCurvesRow.shortTexts.isNone = true := by kernel_rfl
theorem j25 : Tryz.pinned.checked.prog.stopsHeard = true := by kernel_rfl
theorem j26 : Tryz.pinned.checked.prog.mayEnter = true := by kernel_rfl
theorem j27 : (Rows.orbitCurvesRow.lifted == Tryz.pinned.checked.prog.liftsFinal) = true := by kernel_rfl
theorem j28 : (Tryz.pinned.checked.prog.make == some Rows.orbitCurvesRow.make) = true := by kernel_rfl
theorem j29 : (Rows.orbitCurvesRow.kinds == (if Rows.orbitCurvesRow.domain.isEmpty then [] else Tryz.f8.params.toList.map fun t => match Tryz.pinned.checked.prog.underlying t with | some (.int k) => some k | _ => none)) = true := by kernel_rfl
theorem j30 : (Rows.orbitCurvesRow.pinned == Rows.orbitCurvesRow.pinnedBy) = true := by kernel_rfl
theorem j31 : (Rows.orbitCurvesRow.veiled == (Tryz.f8.params.toList ++ Rows.orbitCurvesSpec.plain.varTypes Tryz.pinned.checked.prog ++ Tryz.f8.resultTypes.toList).any (Tryz.pinned.checked.prog.veiledRec ·)) = true := by kernel_rfl
theorem j32 : Rows.orbitCurvesRow.veiledFits Tryz.pinned.checked.prog Tryz.f8.params.toList (Tryz.f8.params.toList ++ Rows.orbitCurvesSpec.plain.varTypes Tryz.pinned.checked.prog ++ Tryz.f8.resultTypes.toList) = true := by kernel_rfl
end Go.Proofs.YtoppgcfijjndfaaGreatDoor.orbitCurves
