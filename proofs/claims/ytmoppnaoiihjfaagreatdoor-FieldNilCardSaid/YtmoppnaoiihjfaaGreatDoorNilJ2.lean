/- Own work of the verifier, group NilJ2: NilJ2. -/
import Derived.Test.YtmoppnaoiihjfaaGreatDoorPiM
set_option linter.all false
set_option linter.deprecated false
open Go.Proofs
namespace Go.Proofs.YtmoppnaoiihjfaaGreatDoor.fieldNil
open Go Go.ChangeShapes Go.WideShapes Go.ChangeAt Go.RowKit
set_option maxRecDepth 1000000
theorem j13 : (Rows.fieldNilRow.named == Tryz.pinned.checked.prog.varsNamed 18) = true := by kernel_rfl
theorem j14 : (Rows.fieldNilRow.maps == (Tryz.f18.params.toList ++ Rows.fieldNilSpec.plain.varTypes Tryz.pinned.checked.prog).any (Tryz.pinned.checked.prog.mapsRec ·)) = true := by kernel_rfl
theorem j15 : (Rows.fieldNilRow.ifaces == (Tryz.f18.params.toList ++ Rows.fieldNilSpec.plain.varTypes Tryz.pinned.checked.prog).any (Tryz.pinned.checked.prog.ifacesRec ·)) = true := by kernel_rfl
theorem j16 : (Rows.fieldNilRow.mapsOut == Tryz.pinned.checked.prog.mapsAmong Tryz.f18.resultTypes.toList) = true := by kernel_rfl
theorem j17 : (Rows.fieldNilRow.loops == (Tryz.f18.params.toList ++ Rows.fieldNilSpec.plain.varTypes Tryz.pinned.checked.prog).any (Tryz.pinned.checked.prog.loopsFrom ·)) = true := by kernel_rfl
theorem j18 : (Rows.fieldNilRow.wideKeys == (Tryz.f18.params.toList ++ Rows.fieldNilSpec.plain.varTypes Tryz.pinned.checked.prog ++ Tryz.f18.resultTypes.toList).any (Tryz.pinned.checked.prog.wideKeysFrom ·)) = true := by kernel_rfl
theorem j19 : Rows.fieldNilSpec.vars.all (Tryz.pinned.checked.prog.varReadable ·) = true := by kernel_rfl
theorem j20 : Tryz.f18.resultTypes.all (fun t => Tryz.pinned.checked.prog.readableRec t && decide (t < Tryz.pinned.checked.prog.types.size)) = true := by kernel_rfl
theorem j21 : (Rows.fieldNilRow.ifacesOut == Tryz.f18.resultTypes.toList.any (Tryz.pinned.checked.prog.ifacesRec ·)) = true := by kernel_rfl
theorem j22 : (Rows.fieldNilRow.loopsOut == Tryz.f18.resultTypes.toList.any (Tryz.pinned.checked.prog.loopsFrom ·)) = true := by kernel_rfl
theorem j23 : (Rows.fieldNilRow.plainKeys == Tryz.pinned.checked.prog.plainKeys) = true := by kernel_rfl
theorem j24 : Rows.fieldNilRow.shortTexts.isNone = true := by kernel_rfl
theorem j25 : Tryz.pinned.checked.prog.stopsHeard = true := by kernel_rfl
theorem j26 : Tryz.pinned.checked.prog.mayEnter = true := by kernel_rfl
theorem j27 : (Rows.fieldNilRow.lifted == Tryz.pinned.checked.prog.liftsFinal) = true := by kernel_rfl
theorem j28 : (Tryz.pinned.checked.prog.make == some Rows.fieldNilRow.make) = true := by kernel_rfl
theorem j29 : (Rows.fieldNilRow.kinds == (if Rows.fieldNilRow.domain.isEmpty then [] else Tryz.f18.params.toList.map fun t => match Tryz.pinned.checked.prog.underlying t with | some (.int k) => some k | _ => none)) = true := by kernel_rfl
theorem j30 : (Rows.fieldNilRow.pinned == Rows.fieldNilRow.pinnedBy) = true := by kernel_rfl
theorem j31 : (Rows.fieldNilRow.veiled == (Tryz.f18.params.toList ++ Rows.fieldNilSpec.plain.varTypes Tryz.pinned.checked.prog ++ Tryz.f18.resultTypes.toList).any (Tryz.pinned.checked.prog.veiledRec ·)) = true := by kernel_rfl
theorem j32 : Rows.fieldNilRow.veiledFits Tryz.pinned.checked.prog Tryz.f18.params.toList (Tryz.f18.params.toList ++ Rows.fieldNilSpec.plain.varTypes Tryz.pinned.checked.prog ++ Tryz.f18.resultTypes.toList) = true := by kernel_rfl
end Go.Proofs.YtmoppnaoiihjfaaGreatDoor.fieldNil

