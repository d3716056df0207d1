/-
  DERIVED. GIVEN WITH THE SEED: THE CARDS: each row of YtoppgcfijjndfaaGreatDoorRows.lean that lists a variable, with what it lists TIED to the program's text (the seventh form; the later family's looks); each row that meets fmt, with fmt's text TOLD by the authors' own Lean function (tested against real Go, not proved from fmt's source: count such statements apart). THE CARD IS WHAT COUNTS. Prove the row's statement (the work); the ties are given (YtoppgcfijjndfaaGreatDoorTie.lean); close each card by the builder's one call (the guide's Derived/Test/ToyasCard.lean, 'card_holds'). Laid BY PROGRAM, IN A SANDBOX (cutbox-door.mjs). By AI agents, Wed Nov 11 2026. No macro, syntax, notation, axiom, sorry.
-/
import Derived.Test.YtoppgcfijjndfaaGreatDoorRows
import GoSem.ClaimSeven
namespace Go.Proofs.YtoppgcfijjndfaaGreatDoor
namespace Rows

/-- THE TIED CARD OF 'flatlandlaw07.OrbitWords'. -/
def orbitWordsCard : Claim7 := { stood := { row := orbitWordsRow, standIns := [], harness := (true, "042c88920345806e2a73e85ab70258aac3bf994b5e81621f34bc80eca5205d86"), looks := false }, kinds := [], alts := [], laidByText := true, laidKinds := [.data, .data, .data], laidTests := true, laidLooks := .later }
def OrbitWordsCardSaid : Prop := Claim7.holds Tryz.pinned (.plain (OpenSpec.ofChange orbitWordsSpec)) orbitWordsCard

/-- THE TIED CARD OF 'flatlandlaw07.OrbitUnits'. -/
def orbitUnitsCard : Claim7 := { stood := { row := orbitUnitsRow, standIns := [], harness := (true, "042c88920345806e2a73e85ab70258aac3bf994b5e81621f34bc80eca5205d86"), looks := false }, kinds := [], alts := [], laidByText := true, laidKinds := [.data, .data, .data], laidTests := true, laidLooks := .later }
def OrbitUnitsCardSaid : Prop := Claim7.holds Tryz.pinned (.plain (OpenSpec.ofChange orbitUnitsSpec)) orbitUnitsCard

/-- THE TIED CARD OF 'flatlandlaw07.OrbitActs'. -/
def orbitActsCard : Claim7 := { stood := { row := orbitActsRow, standIns := [], harness := (true, "042c88920345806e2a73e85ab70258aac3bf994b5e81621f34bc80eca5205d86"), looks := false }, kinds := [], alts := [], laidByText := true, laidKinds := [.data, .data, .data], laidTests := true, laidLooks := .later }
def OrbitActsCardSaid : Prop := Claim7.holds Tryz.pinned (.plain (OpenSpec.ofChange orbitActsSpec)) orbitActsCard

/-- THE TIED CARD OF 'flatlandlaw07.OrbitOrbits'. -/
def orbitOrbitsCard : Claim7 := { stood := { row := orbitOrbitsRow, standIns := [], harness := (true, "042c88920345806e2a73e85ab70258aac3bf994b5e81621f34bc80eca5205d86"), looks := false }, kinds := [], alts := [], laidByText := true, laidKinds := [.data, .data, .data], laidTests := true, laidLooks := .later }
def OrbitOrbitsCardSaid : Prop := Claim7.holds Tryz.pinned (.plain (OpenSpec.ofChange orbitOrbitsSpec)) orbitOrbitsCard

/-- THE TIED CARD OF 'flatlandlaw07.OrbitChecks'. -/
def orbitChecksCard : Claim7 := { stood := { row := orbitChecksRow, standIns := [], harness := (true, "042c88920345806e2a73e85ab70258aac3bf994b5e81621f34bc80eca5205d86"), looks := false }, kinds := [], alts := [], laidByText := true, laidKinds := [.data, .data, .data], laidTests := true, laidLooks := .later }
def OrbitChecksCardSaid : Prop := Claim7.holds Tryz.pinned (.plain (OpenSpec.ofChange orbitChecksSpec)) orbitChecksCard

/-- THE TIED CARD OF 'flatlandlaw07.OrbitCurves'. -/
def orbitCurvesCard : Claim7 := { stood := { row := orbitCurvesRow, standIns := [], harness := (true, "042c88920345806e2a73e85ab70258aac3bf994b5e81621f34bc80eca5205d86"), looks := false }, kinds := [], alts := [], laidByText := true, laidKinds := [.data, .data, .data], laidTests := true, laidLooks := .later }
def OrbitCurvesCardSaid : Prop := Claim7.holds Tryz.pinned (.plain (OpenSpec.ofChange orbitCurvesSpec)) orbitCurvesCard

/-- THE TIED CARD OF 'flatlandlaw07.OrbitWays'. -/
def orbitWaysCard : Claim7 := { stood := { row := orbitWaysRow, standIns := [], harness := (true, "042c88920345806e2a73e85ab70258aac3bf994b5e81621f34bc80eca5205d86"), looks := false }, kinds := [], alts := [], laidByText := true, laidKinds := [.data, .data, .data], laidTests := true, laidLooks := .later }
def OrbitWaysCardSaid : Prop := Claim7.holds Tryz.pinned (.plain (OpenSpec.ofChange orbitWaysSpec)) orbitWaysCard

/-- THE TIED CARD OF 'flatlandlaw07.OrbitConnects'. -/
def orbitConnectsCard : Claim7 := { stood := { row := orbitConnectsRow, standIns := [], harness := (true, "042c88920345806e2a73e85ab70258aac3bf994b5e81621f34bc80eca5205d86"), looks := false }, kinds := [], alts := [], laidByText := true, laidKinds := [.data, .data, .data], laidTests := true, laidLooks := .later }
def OrbitConnectsCardSaid : Prop := Claim7.holds Tryz.pinned (.plain (OpenSpec.ofChange orbitConnectsSpec)) orbitConnectsCard

/-- THE TIED CARD OF 'flatlandlaw07.OrbitGenerators'. -/
def orbitGeneratorsCard : Claim7 := { stood := { row := orbitGeneratorsRow, standIns := [], harness := (true, "042c88920345806e2a73e85ab70258aac3bf994b5e81621f34bc80eca5205d86"), looks := false }, kinds := [], alts := [], laidByText := true, laidKinds := [.data, .data, .data], laidTests := true, laidLooks := .later }
def OrbitGeneratorsCardSaid : Prop := Claim7.holds Tryz.pinned (.plain (OpenSpec.ofChange orbitGeneratorsSpec)) orbitGeneratorsCard

/-- THE TIED CARD OF 'flatlandlaw07.OrbitMeans'. -/
def orbitMeansCard : Claim7 := { stood := { row := orbitMeansRow, standIns := [], harness := (true, "042c88920345806e2a73e85ab70258aac3bf994b5e81621f34bc80eca5205d86"), looks := false }, kinds := [], alts := [], laidByText := true, laidKinds := [.data, .data, .data], laidTests := true, laidLooks := .later }
def OrbitMeansCardSaid : Prop := Claim7.holds Tryz.pinned (.plain (OpenSpec.ofChange orbitMeansSpec)) orbitMeansCard

/-- THE TIED CARD OF 'flatlandlaw07.OrbitRelations'. -/
def orbitRelationsCard : Claim7 := { stood := { row := orbitRelationsRow, standIns := [], harness := (true, "042c88920345806e2a73e85ab70258aac3bf994b5e81621f34bc80eca5205d86"), looks := false }, kinds := [], alts := [], laidByText := true, laidKinds := [.data, .data, .data], laidTests := true, laidLooks := .later }
def OrbitRelationsCardSaid : Prop := Claim7.holds Tryz.pinned (.plain (OpenSpec.ofChange orbitRelationsSpec)) orbitRelationsCard

/-- THE TIED CARD OF 'flatlandlaw07.OrbitClosed'. -/
def orbitClosedCard : Claim7 := { stood := { row := orbitClosedRow, standIns := [], harness := (true, "042c88920345806e2a73e85ab70258aac3bf994b5e81621f34bc80eca5205d86"), looks := false }, kinds := [], alts := [], laidByText := true, laidKinds := [.data, .data, .data], laidTests := true, laidLooks := .later }
def OrbitClosedCardSaid : Prop := Claim7.holds Tryz.pinned (.plain (OpenSpec.ofChange orbitClosedSpec)) orbitClosedCard

/-- THE SECOND FORM's CARD OF 'flatlandlaw07.OrbitWords'. -/
def orbitWordsUptoCard : Claim7 := { stood := { row := orbitWordsUptoRow, standIns := [], harness := (true, "042c88920345806e2a73e85ab70258aac3bf994b5e81621f34bc80eca5205d86"), looks := false }, kinds := [], alts := [], laidByText := true, laidKinds := [.data, .data, .data], laidTests := true, laidLooks := .later }
def OrbitWordsUptoCardSaid : Prop := Claim7.holds Tryz.pinned (.plain (OpenSpec.upto orbitWordsSpec)) orbitWordsUptoCard

/-- THE SECOND FORM's CARD OF 'flatlandlaw07.OrbitUnits'. -/
def orbitUnitsUptoCard : Claim7 := { stood := { row := orbitUnitsUptoRow, standIns := [], harness := (true, "042c88920345806e2a73e85ab70258aac3bf994b5e81621f34bc80eca5205d86"), looks := false }, kinds := [], alts := [], laidByText := true, laidKinds := [.data, .data, .data], laidTests := true, laidLooks := .later }
def OrbitUnitsUptoCardSaid : Prop := Claim7.holds Tryz.pinned (.plain (OpenSpec.upto orbitUnitsSpec)) orbitUnitsUptoCard

/-- THE SECOND FORM's CARD OF 'flatlandlaw07.OrbitActs'. -/
def orbitActsUptoCard : Claim7 := { stood := { row := orbitActsUptoRow, standIns := [], harness := (true, "042c88920345806e2a73e85ab70258aac3bf994b5e81621f34bc80eca5205d86"), looks := false }, kinds := [], alts := [], laidByText := true, laidKinds := [.data, .data, .data], laidTests := true, laidLooks := .later }
def OrbitActsUptoCardSaid : Prop := Claim7.holds Tryz.pinned (.plain (OpenSpec.upto orbitActsSpec)) orbitActsUptoCard

/-- THE SECOND FORM's CARD OF 'flatlandlaw07.OrbitOrbits'. -/
def orbitOrbitsUptoCard : Claim7 := { stood := { row := orbitOrbitsUptoRow, standIns := [], harness := (true, "042c88920345806e2a73e85ab70258aac3bf994b5e81621f34bc80eca5205d86"), looks := false }, kinds := [], alts := [], laidByText := true, laidKinds := [.data, .data, .data], laidTests := true, laidLooks := .later }
def OrbitOrbitsUptoCardSaid : Prop := Claim7.holds Tryz.pinned (.plain (OpenSpec.upto orbitOrbitsSpec)) orbitOrbitsUptoCard

/-- THE SECOND FORM's CARD OF 'flatlandlaw07.OrbitChecks'. -/
def orbitChecksUptoCard : Claim7 := { stood := { row := orbitChecksUptoRow, standIns := [], harness := (true, "042c88920345806e2a73e85ab70258aac3bf994b5e81621f34bc80eca5205d86"), looks := false }, kinds := [], alts := [], laidByText := true, laidKinds := [.data, .data, .data], laidTests := true, laidLooks := .later }
def OrbitChecksUptoCardSaid : Prop := Claim7.holds Tryz.pinned (.plain (OpenSpec.upto orbitChecksSpec)) orbitChecksUptoCard

/-- THE SECOND FORM's CARD OF 'flatlandlaw07.OrbitCurves'. -/
def orbitCurvesUptoCard : Claim7 := { stood := { row := orbitCurvesUptoRow, standIns := [], harness := (true, "042c88920345806e2a73e85ab70258aac3bf994b5e81621f34bc80eca5205d86"), looks := false }, kinds := [], alts := [], laidByText := true, laidKinds := [.data, .data, .data], laidTests := true, laidLooks := .later }
def OrbitCurvesUptoCardSaid : Prop := Claim7.holds Tryz.pinned (.plain (OpenSpec.upto orbitCurvesSpec)) orbitCurvesUptoCard

/-- THE SECOND FORM's CARD OF 'flatlandlaw07.OrbitWays'. -/
def orbitWaysUptoCard : Claim7 := { stood := { row := orbitWaysUptoRow, standIns := [], harness := (true, "042c88920345806e2a73e85ab70258aac3bf994b5e81621f34bc80eca5205d86"), looks := false }, kinds := [], alts := [], laidByText := true, laidKinds := [.data, .data, .data], laidTests := true, laidLooks := .later }
def OrbitWaysUptoCardSaid : Prop := Claim7.holds Tryz.pinned (.plain (OpenSpec.upto orbitWaysSpec)) orbitWaysUptoCard

/-- THE SECOND FORM's CARD OF 'flatlandlaw07.OrbitConnects'. -/
def orbitConnectsUptoCard : Claim7 := { stood := { row := orbitConnectsUptoRow, standIns := [], harness := (true, "042c88920345806e2a73e85ab70258aac3bf994b5e81621f34bc80eca5205d86"), looks := false }, kinds := [], alts := [], laidByText := true, laidKinds := [.data, .data, .data], laidTests := true, laidLooks := .later }
def OrbitConnectsUptoCardSaid : Prop := Claim7.holds Tryz.pinned (.plain (OpenSpec.upto orbitConnectsSpec)) orbitConnectsUptoCard

/-- THE SECOND FORM's CARD OF 'flatlandlaw07.OrbitGenerators'. -/
def orbitGeneratorsUptoCard : Claim7 := { stood := { row := orbitGeneratorsUptoRow, standIns := [], harness := (true, "042c88920345806e2a73e85ab70258aac3bf994b5e81621f34bc80eca5205d86"), looks := false }, kinds := [], alts := [], laidByText := true, laidKinds := [.data, .data, .data], laidTests := true, laidLooks := .later }
def OrbitGeneratorsUptoCardSaid : Prop := Claim7.holds Tryz.pinned (.plain (OpenSpec.upto orbitGeneratorsSpec)) orbitGeneratorsUptoCard

/-- THE SECOND FORM's CARD OF 'flatlandlaw07.OrbitMeans'. -/
def orbitMeansUptoCard : Claim7 := { stood := { row := orbitMeansUptoRow, standIns := [], harness := (true, "042c88920345806e2a73e85ab70258aac3bf994b5e81621f34bc80eca5205d86"), looks := false }, kinds := [], alts := [], laidByText := true, laidKinds := [.data, .data, .data], laidTests := true, laidLooks := .later }
def OrbitMeansUptoCardSaid : Prop := Claim7.holds Tryz.pinned (.plain (OpenSpec.upto orbitMeansSpec)) orbitMeansUptoCard

/-- THE SECOND FORM's CARD OF 'flatlandlaw07.OrbitRelations'. -/
def orbitRelationsUptoCard : Claim7 := { stood := { row := orbitRelationsUptoRow, standIns := [], harness := (true, "042c88920345806e2a73e85ab70258aac3bf994b5e81621f34bc80eca5205d86"), looks := false }, kinds := [], alts := [], laidByText := true, laidKinds := [.data, .data, .data], laidTests := true, laidLooks := .later }
def OrbitRelationsUptoCardSaid : Prop := Claim7.holds Tryz.pinned (.plain (OpenSpec.upto orbitRelationsSpec)) orbitRelationsUptoCard

/-- THE SECOND FORM's CARD OF 'flatlandlaw07.OrbitClosed'. -/
def orbitClosedUptoCard : Claim7 := { stood := { row := orbitClosedUptoRow, standIns := [], harness := (true, "042c88920345806e2a73e85ab70258aac3bf994b5e81621f34bc80eca5205d86"), looks := false }, kinds := [], alts := [], laidByText := true, laidKinds := [.data, .data, .data], laidTests := true, laidLooks := .later }
def OrbitClosedUptoCardSaid : Prop := Claim7.holds Tryz.pinned (.plain (OpenSpec.upto orbitClosedSpec)) orbitClosedUptoCard
end Rows
end Go.Proofs.YtoppgcfijjndfaaGreatDoor
