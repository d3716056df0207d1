/- Own work of the verifier, group CosJ2: CosJ2. -/
import Derived.Test.YtmoppnaoiihjfaaGreatDoorPiM
set_option linter.all false
set_option linter.deprecated false
open Go.Proofs
namespace Go.Proofs.YtmoppnaoiihjfaaGreatDoor.fieldCosines
open Go Go.ChangeShapes Go.WideShapes Go.ChangeAt Go.RowKit
set_option maxRecDepth 1000000
theorem j13 : (Rows.fieldCosinesRow.named == Tryz.pinned.checked.prog.varsNamed 17) = true := by kernel_rfl
theorem j14 : (Rows.fieldCosinesRow.maps == (Tryz.f17.params.toList ++ Rows.fieldCosinesSpec.plain.varTypes Tryz.pinned.checked.prog).any (Tryz.pinned.checked.prog.mapsRec ·)) = true := by kernel_rfl
theorem j15 : (Rows.fieldCosinesRow.ifaces == (Tryz.f17.params.toList ++ Rows.fieldCosinesSpec.plain.varTypes Tryz.pinned.checked.prog).any (Tryz.pinned.checked.prog.ifacesRec ·)) = true := by kernel_rfl
theorem j16 : (Rows.fieldCosinesRow.mapsOut == Tryz.pinned.checked.prog.mapsAmong Tryz.f17.resultTypes.toList) = true := by kernel_rfl
theorem j17 : (Rows.fieldCosinesRow.loops == (Tryz.f17.params.toList ++ Rows.fieldCosinesSpec.plain.varTypes Tryz.pinned.checked.prog).any (Tryz.pinned.checked.prog.loopsFrom ·)) = true := by kernel_rfl
theorem j18 : (Rows.fieldCosinesRow.wideKeys == (Tryz.f17.params.toList ++ Rows.fieldCosinesSpec.plain.varTypes Tryz.pinned.checked.prog ++ Tryz.f17.resultTypes.toList).any (Tryz.pinned.checked.prog.wideKeysFrom ·)) = true := by kernel_rfl
theorem j19 : Rows.fieldCosinesSpec.vars.all (Tryz.pinned.checked.prog.varReadable ·) = true := by kernel_rfl
theorem j20 : Tryz.f17.resultTypes.all (fun t => Tryz.pinned.checked.prog.readableRec t && decide (t < Tryz.pinned.checked.prog.types.size)) = true := by kernel_rfl
theorem j21 : (Rows.fieldCosinesRow.ifacesOut == Tryz.f17.resultTypes.toList.any (Tryz.pinned.checked.prog.ifacesRec ·)) = true := by kernel_rfl
theorem j22 : (Rows.fieldCosinesRow.loopsOut == Tryz.f17.resultTypes.toList.any (Tryz.pinned.checked.prog.loopsFrom ·)) = true := by kernel_rfl
theorem j23 : (Rows.fieldCosinesRow.plainKeys == Tryz.pinned.checked.prog.plainKeys) = true := by kernel_rfl
theorem j24 : Rows.fieldCosinesRow.shortTexts.isNone = true := by kernel_rfl
theorem j25 : Tryz.pinned.checked.prog.stopsHeard = true := by kernel_rfl
theorem j26 : Tryz.pinned.checked.prog.mayEnter = true := by kernel_rfl
theorem j27 : (Rows.fieldCosinesRow.lifted == Tryz.pinned.checked.prog.liftsFinal) = true := by kernel_rfl
theorem j28 : (Tryz.pinned.checked.prog.make == some Rows.fieldCosinesRow.make) = true := by kernel_rfl
theorem j29 : (Rows.fieldCosinesRow.kinds == (if Rows.fieldCosinesRow.domain.isEmpty then [] else Tryz.f17.params.toList.map fun t => match Tryz.pinned.checked.prog.underlying t with | some (.int k) => some k | _ => none)) = true := by kernel_rfl
theorem j30 : (Rows.fieldCosinesRow.pinned == Rows.fieldCosinesRow.pinnedBy) = true := by kernel_rfl
theorem j31 : (Rows.fieldCosinesRow.veiled == (Tryz.f17.params.toList ++ Rows.fieldCosinesSpec.plain.varTypes Tryz.pinned.checked.prog ++ Tryz.f17.resultTypes.toList).any (Tryz.pinned.checked.prog.veiledRec ·)) = true := by kernel_rfl
theorem j32 : Rows.fieldCosinesRow.veiledFits Tryz.pinned.checked.prog Tryz.f17.params.toList (Tryz.f17.params.toList ++ Rows.fieldCosinesSpec.plain.varTypes Tryz.pinned.checked.prog ++ Tryz.f17.resultTypes.toList) = true := by kernel_rfl
end Go.Proofs.YtmoppnaoiihjfaaGreatDoor.fieldCosines

