/- Own work of the verifier: OuJ2. -/
import Derived.Test.YtoppgcfijjndfaaGreatDoorOtAY
import Derived.Test.YtoppgcfijjndfaaGreatDoorRows
set_option linter.all false
set_option exponentiation.threshold 3000
set_option linter.deprecated false
open Go.Proofs
namespace Go.Proofs.YtoppgcfijjndfaaGreatDoor.orbitUnits
open Go Go.ChangeShapes Go.WideShapes Go.ChangeAt Go.RowKit
set_option maxRecDepth 1000000
theorem j13 : (Rows.orbitUnitsRow.named == Tryz.pinned.checked.prog.varsNamed 4) = true := by kernel_rfl
theorem j14 : (Rows.orbitUnitsRow.maps == (Tryz.f4.params.toList ++ Rows.orbitUnitsSpec.plain.varTypes Tryz.pinned.checked.prog).any (Tryz.pinned.checked.prog.mapsRec ·)) = true := by kernel_rfl
theorem j15 : (Rows.orbitUnitsRow.ifaces == (Tryz.f4.params.toList ++ Rows.orbitUnitsSpec.plain.varTypes Tryz.pinned.checked.prog).any (Tryz.pinned.checked.prog.ifacesRec ·)) = true := by kernel_rfl
theorem j16 : (Rows.orbitUnitsRow.mapsOut == Tryz.pinned.checked.prog.mapsAmong Tryz.f4.resultTypes.toList) = true := by kernel_rfl
theorem j17 : (Rows.orbitUnitsRow.loops == (Tryz.f4.params.toList ++ Rows.orbitUnitsSpec.plain.varTypes Tryz.pinned.checked.prog).any (Tryz.pinned.checked.prog.loopsFrom ·)) = true := by kernel_rfl
theorem j18 : (Rows.orbitUnitsRow.wideKeys == (Tryz.f4.params.toList ++ Rows.orbitUnitsSpec.plain.varTypes Tryz.pinned.checked.prog ++ Tryz.f4.resultTypes.toList).any (Tryz.pinned.checked.prog.wideKeysFrom ·)) = true := by kernel_rfl
theorem j19 : Rows.orbitUnitsSpec.vars.all (Tryz.pinned.checked.prog.varReadable ·) = true := by kernel_rfl
theorem j20 : Tryz.f4.resultTypes.all (fun t => Tryz.pinned.checked.prog.readableRec t && decide (t < Tryz.pinned.checked.prog.types.size)) = true := by kernel_rfl
theorem j21 : (Rows.orbitUnitsRow.ifacesOut == Tryz.f4.resultTypes.toList.any (Tryz.pinned.checked.prog.ifacesRec ·)) = true := by kernel_rfl
theorem j22 : (Rows.orbitUnitsRow.loopsOut == Tryz.f4.resultTypes.toList.any (Tryz.pinned.checked.prog.loopsFrom ·)) = true := by kernel_rfl
theorem j23 : (Rows.orbitUnitsRow.plainKeys == Tryz.pinned.checked.prog.plainKeys) = true := by kernel_rfl
theorem j24 : Rows.orbitUnitsRow.shortTexts.isNone = true := by kernel_rfl
theorem j25 : Tryz.pinned.checked.prog.stopsHeard = true := by kernel_rfl
theorem j26 : Tryz.pinned.checked.prog.mayEnter = true := by kernel_rfl
theorem j27 : (Rows.orbitUnitsRow.lifted == Tryz.pinned.checked.prog.liftsFinal) = true := by kernel_rfl
theorem j28 : (Tryz.pinned.checked.prog.make == some Rows.orbitUnitsRow.make) = true := by kernel_rfl
theorem j29 : (Rows.orbitUnitsRow.kinds == (if Rows.orbitUnitsRow.domain.isEmpty then [] else Tryz.f4.params.toList.map fun t => match Tryz.pinned.checked.prog.underlying t with | some (.int k) => some k | _ => none)) = true := by kernel_rfl
theorem j30 : (Rows.orbitUnitsRow.pinned == Rows.orbitUnitsRow.pinnedBy) = true := by kernel_rfl
theorem j31 : (Rows.orbitUnitsRow.veiled == (Tryz.f4.params.toList ++ Rows.orbitUnitsSpec.plain.varTypes Tryz.pinned.checked.prog ++ Tryz.f4.resultTypes.toList).any (Tryz.pinned.checked.prog.veiledRec ·)) = true := by kernel_rfl
theorem j32 : Rows.orbitUnitsRow.veiledFits Tryz.pinned.checked.prog Tryz.f4.params.toList (Tryz.f4.params.toList ++ Rows.orbitUnitsSpec.plain.varTypes Tryz.pinned.checked.prog ++ Tryz.f4.resultTypes.toList) = true := by kernel_rfl
end Go.Proofs.YtoppgcfijjndfaaGreatDoor.orbitUnits
