/- Own work of the verifier: NrTie. -/
import Derived.Test.YtbancdhkfjfhlaaGreatDoorRows
import Derived.LaidByTextLater
import Derived.SevenTiedAt
import Derived.KernelRfl
import Derived.Test.YtbancdhkfjfhlaaGreatDoorNnBK
import Derived.Test.YtbancdhkfjfhlaaGreatDoorNnBL
import Derived.Test.YtbancdhkfjfhlaaGreatDoorNnBM
import Derived.Test.YtbancdhkfjfhlaaGreatDoorNnBN
import Derived.Test.YtbancdhkfjfhlaaGreatDoorNnBO
import Derived.Test.YtbancdhkfjfhlaaGreatDoorNnBP
import Derived.Test.YtbancdhkfjfhlaaGreatDoorNnBQ
set_option linter.all false
set_option exponentiation.threshold 3000
set_option linter.deprecated false
/- THE TIE OF THE LISTED VARIABLES, in parts. -/
namespace Go.Proofs.YtbancdhkfjfhlaaGreatDoor.archiveNil
open Go
theorem tie6 : Tryz.prog.laidByTextLater laid6 [.sentinel, .sentinel, .data, .data, .data, .data] true :=
  Program.laidByTextLater_by_run 400 8 w1 w2 w3 w4 w5 w6 w7 w8 w9 (by kernel_rfl)
theorem archiveNil_row_tie : Rows.archiveNilRow.laidByTextAt .later Tryz.pinned [.sentinel, .sentinel, .data, .data, .data, .pinned, .data] true :=
  OpenClaim.laidByTextAt_pinned rfl rfl tie6 rfl rfl (by kernel_rfl) rfl (fun y hy hk => by
    simp only [Rows.archiveNilRow, List.zip_cons_cons, List.zip_nil_right, List.mem_cons, List.mem_nil_iff, or_false] at hy
    rcases hy with rfl | rfl | rfl | rfl | rfl | rfl | rfl
    · cases hk
    · cases hk
    · cases hk
    · cases hk
    · cases hk
    · exact ⟨pin1, by kernel_rfl⟩
    · cases hk) fits7
end Go.Proofs.YtbancdhkfjfhlaaGreatDoor.archiveNil
