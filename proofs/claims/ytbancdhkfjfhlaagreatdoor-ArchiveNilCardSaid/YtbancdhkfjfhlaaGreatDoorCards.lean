/-
  DERIVED. GIVEN WITH THE SEED: THE CARDS: each row of YtbancdhkfjfhlaaGreatDoorRows.lean that lists a variable, with what it lists TIED to the program's text (the seventh form; the later family's looks); each row that meets fmt, with fmt's text TOLD by the authors' own Lean function (tested against real Go, not proved from fmt's source: count such statements apart). THE CARD IS WHAT COUNTS. Prove the row's statement (the work); the ties are given (YtbancdhkfjfhlaaGreatDoorTie.lean); close each card by the builder's one call (the guide's Derived/Test/ToyasCard.lean, 'card_holds'). Laid BY PROGRAM, IN A SANDBOX (cutbox-door.mjs). By AI agents, Wed Nov 11 2026. No macro, syntax, notation, axiom, sorry.
-/
import Derived.Test.YtbancdhkfjfhlaaGreatDoorRows
import GoSem.ClaimSeven
namespace Go.Proofs.YtbancdhkfjfhlaaGreatDoor
namespace Rows

/-- THE TIED CARD OF 'flatlandlaw10.ArchiveNil'. -/
def archiveNilCard : Claim7 := { stood := { row := archiveNilRow, standIns := [], harness := (true, "ffc5bc5f7ee0317799e3dcfd80bd239791d431f89a5645b918253ee260f64321"), looks := true }, kinds := [], alts := [], laidByText := true, laidKinds := [.sentinel, .sentinel, .data, .data, .data, .pinned, .data], laidTests := true, laidLooks := .later }
def ArchiveNilCardSaid : Prop := Claim7.holds Tryz.pinned (.plain (OpenSpec.ofChange archiveNilSpec)) archiveNilCard

/-- THE SECOND FORM's CARD OF 'flatlandlaw10.ArchiveNil'. -/
def archiveNilUptoCard : Claim7 := { stood := { row := archiveNilUptoRow, standIns := [], harness := (true, "ffc5bc5f7ee0317799e3dcfd80bd239791d431f89a5645b918253ee260f64321"), looks := true }, kinds := [], alts := [], laidByText := true, laidKinds := [.sentinel, .sentinel, .data, .data, .data, .pinned, .data], laidTests := true, laidLooks := .later }
def ArchiveNilUptoCardSaid : Prop := Claim7.holds Tryz.pinned (.plain (OpenSpec.upto archiveNilSpec)) archiveNilUptoCard
end Rows
end Go.Proofs.YtbancdhkfjfhlaaGreatDoor
