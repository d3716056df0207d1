/- Own work of the verifier: NrT0. -/
import Derived.Test.YtbancdhkfjfhlaaGreatDoorRows
import Derived.LaidByTextLater
import Derived.SevenTiedAt
import Derived.KernelRfl
set_option linter.all false
set_option exponentiation.threshold 3000
set_option linter.deprecated false
/- The listed variables, without the pinned one. -/
namespace Go.Proofs.YtbancdhkfjfhlaaGreatDoor.archiveNil
open Go
def laid6 : List (String × DataW Unit) := Rows.archiveNilRow.laid.eraseIdx 5
theorem w4 : laid6.map (fun x => Tryz.prog.kindOfLater x.1) = ([.sentinel, .sentinel, .data, .data, .data, .data] : List LaidKind).map some := by kernel_rfl
theorem w1 : Tryz.prog.worded (varsWordLater true) = true := by kernel_rfl
theorem w2 : Tryz.prog.worded (varsWordLater !true) = false := by kernel_rfl
end Go.Proofs.YtbancdhkfjfhlaaGreatDoor.archiveNil
