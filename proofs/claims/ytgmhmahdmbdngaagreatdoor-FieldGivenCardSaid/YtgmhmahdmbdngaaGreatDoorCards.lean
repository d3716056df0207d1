/-
  DERIVED. GIVEN WITH THE SEED: THE CARDS: each row of YtgmhmahdmbdngaaGreatDoorRows.lean that lists a variable, with what it lists TIED to the program's text (the seventh form; the later family's looks); each row that meets fmt, with fmt's text TOLD by the authors' own Lean function (tested against real Go, not proved from fmt's source: count such statements apart). THE CARD IS WHAT COUNTS. Prove the row's statement (the work); the ties are given (YtgmhmahdmbdngaaGreatDoorTie.lean); close each card by the builder's one call (the guide's Derived/Test/ToyasCard.lean, 'card_holds'). Laid BY PROGRAM, IN A SANDBOX (cutbox-door.mjs). By AI agents, Wed Nov 11 2026. No macro, syntax, notation, axiom, sorry.
-/
import Derived.Test.YtgmhmahdmbdngaaGreatDoorRows
import GoSem.ClaimSeven
namespace Go.Proofs.YtgmhmahdmbdngaaGreatDoor
namespace Rows

/-- THE TIED CARD OF 'flatlandlaw01.FieldIntegers'. -/
def fieldIntegersCard : Claim7 := { stood := { row := fieldIntegersRow, standIns := [], harness := (true, "9c30db30c201d0dbaf7b3617799fe59e7125499debe4391bfda4861cc17be985"), looks := true }, kinds := [], alts := [], laidByText := true, laidKinds := [.data, .data, .data], laidTests := true, laidLooks := .later }
def FieldIntegersCardSaid : Prop := Claim7.holds Tryz.pinned (.plain (OpenSpec.ofChange fieldIntegersSpec)) fieldIntegersCard

/-- THE TIED CARD OF 'flatlandlaw01.FieldRing'. -/
def fieldRingCard : Claim7 := { stood := { row := fieldRingRow, standIns := [], harness := (true, "9c30db30c201d0dbaf7b3617799fe59e7125499debe4391bfda4861cc17be985"), looks := true }, kinds := [], alts := [], laidByText := true, laidKinds := [.data, .data, .data], laidTests := true, laidLooks := .later }
def FieldRingCardSaid : Prop := Claim7.holds Tryz.pinned (.plain (OpenSpec.ofChange fieldRingSpec)) fieldRingCard

/-- THE TIED CARD OF 'flatlandlaw01.FieldTexts'. -/
def fieldTextsCard : Claim7 := { stood := { row := fieldTextsRow, standIns := [], harness := (true, "9c30db30c201d0dbaf7b3617799fe59e7125499debe4391bfda4861cc17be985"), looks := true }, kinds := [], alts := [], laidByText := true, laidKinds := [.data, .data, .data, .sentinel, .sentinel], laidTests := true, laidLooks := .later }
def FieldTextsCardSaid : Prop := Claim7.holds Tryz.pinned (.plain (OpenSpec.ofChange fieldTextsSpec)) fieldTextsCard

/-- THE TIED CARD OF 'flatlandlaw01.FieldFields'. -/
def fieldFieldsCard : Claim7 := { stood := { row := fieldFieldsRow, standIns := [], harness := (true, "9c30db30c201d0dbaf7b3617799fe59e7125499debe4391bfda4861cc17be985"), looks := true }, kinds := [], alts := [], laidByText := true, laidKinds := [.data, .data, .data], laidTests := true, laidLooks := .later }
def FieldFieldsCardSaid : Prop := Claim7.holds Tryz.pinned (.plain (OpenSpec.ofChange fieldFieldsSpec)) fieldFieldsCard

/-- THE TIED CARD OF 'flatlandlaw01.FieldGiven'. -/
def fieldGivenCard : Claim7 := { stood := { row := fieldGivenRow, standIns := [], harness := (true, "9c30db30c201d0dbaf7b3617799fe59e7125499debe4391bfda4861cc17be985"), looks := true }, kinds := [], alts := [], laidByText := true, laidKinds := [.data, .data, .data], laidTests := true, laidLooks := .later }
def FieldGivenCardSaid : Prop := Claim7.holds Tryz.pinned (.plain (OpenSpec.ofChange fieldGivenSpec)) fieldGivenCard

/-- THE TIED CARD OF 'flatlandlaw01.FieldArithmetic'. -/
def fieldArithmeticCard : Claim7 := { stood := { row := fieldArithmeticRow, standIns := [], harness := (true, "9c30db30c201d0dbaf7b3617799fe59e7125499debe4391bfda4861cc17be985"), looks := true }, kinds := [], alts := [], laidByText := true, laidKinds := [.data, .data, .data], laidTests := true, laidLooks := .later }
def FieldArithmeticCardSaid : Prop := Claim7.holds Tryz.pinned (.plain (OpenSpec.ofChange fieldArithmeticSpec)) fieldArithmeticCard

/-- THE TIED CARD OF 'flatlandlaw01.FieldSigns'. -/
def fieldSignsCard : Claim7 := { stood := { row := fieldSignsRow, standIns := [], harness := (true, "9c30db30c201d0dbaf7b3617799fe59e7125499debe4391bfda4861cc17be985"), looks := true }, kinds := [], alts := [], laidByText := true, laidKinds := [.data, .data, .data], laidTests := true, laidLooks := .later }
def FieldSignsCardSaid : Prop := Claim7.holds Tryz.pinned (.plain (OpenSpec.ofChange fieldSignsSpec)) fieldSignsCard

/-- THE TIED CARD OF 'flatlandlaw01.FieldLaws'. -/
def fieldLawsCard : Claim7 := { stood := { row := fieldLawsRow, standIns := [], harness := (true, "9c30db30c201d0dbaf7b3617799fe59e7125499debe4391bfda4861cc17be985"), looks := true }, kinds := [], alts := [], laidByText := true, laidKinds := [.data, .data, .data], laidTests := true, laidLooks := .later }
def FieldLawsCardSaid : Prop := Claim7.holds Tryz.pinned (.plain (OpenSpec.ofChange fieldLawsSpec)) fieldLawsCard

/-- THE TIED CARD OF 'flatlandlaw01.FieldOrder'. -/
def fieldOrderCard : Claim7 := { stood := { row := fieldOrderRow, standIns := [], harness := (true, "9c30db30c201d0dbaf7b3617799fe59e7125499debe4391bfda4861cc17be985"), looks := true }, kinds := [], alts := [], laidByText := true, laidKinds := [.data, .data, .data], laidTests := true, laidLooks := .later }
def FieldOrderCardSaid : Prop := Claim7.holds Tryz.pinned (.plain (OpenSpec.ofChange fieldOrderSpec)) fieldOrderCard

/-- THE TIED CARD OF 'flatlandlaw01.FieldEncloses'. -/
def fieldEnclosesCard : Claim7 := { stood := { row := fieldEnclosesRow, standIns := [], harness := (true, "9c30db30c201d0dbaf7b3617799fe59e7125499debe4391bfda4861cc17be985"), looks := true }, kinds := [], alts := [], laidByText := true, laidKinds := [.data, .data, .data], laidTests := true, laidLooks := .later }
def FieldEnclosesCardSaid : Prop := Claim7.holds Tryz.pinned (.plain (OpenSpec.ofChange fieldEnclosesSpec)) fieldEnclosesCard

/-- THE TIED CARD OF 'flatlandlaw01.FieldNorms'. -/
def fieldNormsCard : Claim7 := { stood := { row := fieldNormsRow, standIns := [], harness := (true, "9c30db30c201d0dbaf7b3617799fe59e7125499debe4391bfda4861cc17be985"), looks := true }, kinds := [], alts := [], laidByText := true, laidKinds := [.data, .data, .data], laidTests := true, laidLooks := .later }
def FieldNormsCardSaid : Prop := Claim7.holds Tryz.pinned (.plain (OpenSpec.ofChange fieldNormsSpec)) fieldNormsCard

/-- THE TIED CARD OF 'flatlandlaw01.FieldVectors'. -/
def fieldVectorsCard : Claim7 := { stood := { row := fieldVectorsRow, standIns := [], harness := (true, "9c30db30c201d0dbaf7b3617799fe59e7125499debe4391bfda4861cc17be985"), looks := true }, kinds := [], alts := [], laidByText := true, laidKinds := [.data, .data, .data], laidTests := true, laidLooks := .later }
def FieldVectorsCardSaid : Prop := Claim7.holds Tryz.pinned (.plain (OpenSpec.ofChange fieldVectorsSpec)) fieldVectorsCard

/-- THE TIED CARD OF 'flatlandlaw01.FieldPlanes'. -/
def fieldPlanesCard : Claim7 := { stood := { row := fieldPlanesRow, standIns := [], harness := (true, "9c30db30c201d0dbaf7b3617799fe59e7125499debe4391bfda4861cc17be985"), looks := true }, kinds := [], alts := [], laidByText := true, laidKinds := [.data, .data, .data], laidTests := true, laidLooks := .later }
def FieldPlanesCardSaid : Prop := Claim7.holds Tryz.pinned (.plain (OpenSpec.ofChange fieldPlanesSpec)) fieldPlanesCard

/-- THE TIED CARD OF 'flatlandlaw01.FieldWritten'. -/
def fieldWrittenCard : Claim7 := { stood := { row := fieldWrittenRow, standIns := [], harness := (true, "9c30db30c201d0dbaf7b3617799fe59e7125499debe4391bfda4861cc17be985"), looks := true }, kinds := [], alts := [], laidByText := true, laidKinds := [.data, .data, .data, .data, .sentinel, .sentinel, .pinned], laidTests := true, laidLooks := .later }
def FieldWrittenCardSaid : Prop := Claim7.holds Tryz.pinned (.plain (OpenSpec.ofChange fieldWrittenSpec)) fieldWrittenCard

/-- THE TIED CARD OF 'flatlandlaw01.FieldCosines'. -/
def fieldCosinesCard : Claim7 := { stood := { row := fieldCosinesRow, standIns := [], harness := (true, "9c30db30c201d0dbaf7b3617799fe59e7125499debe4391bfda4861cc17be985"), looks := true }, kinds := [], alts := [], laidByText := true, laidKinds := [.data, .data, .data], laidTests := true, laidLooks := .later }
def FieldCosinesCardSaid : Prop := Claim7.holds Tryz.pinned (.plain (OpenSpec.ofChange fieldCosinesSpec)) fieldCosinesCard

/-- THE TIED CARD OF 'flatlandlaw01.FieldNil'. -/
def fieldNilCard : Claim7 := { stood := { row := fieldNilRow, standIns := [], harness := (true, "9c30db30c201d0dbaf7b3617799fe59e7125499debe4391bfda4861cc17be985"), looks := true }, kinds := [], alts := [], laidByText := true, laidKinds := [.data, .data, .data, .data, .sentinel, .sentinel, .pinned], laidTests := true, laidLooks := .later }
def FieldNilCardSaid : Prop := Claim7.holds Tryz.pinned (.plain (OpenSpec.ofChange fieldNilSpec)) fieldNilCard

/-- THE SECOND FORM's CARD OF 'flatlandlaw01.FieldIntegers'. -/
def fieldIntegersUptoCard : Claim7 := { stood := { row := fieldIntegersUptoRow, standIns := [], harness := (true, "9c30db30c201d0dbaf7b3617799fe59e7125499debe4391bfda4861cc17be985"), looks := true }, kinds := [], alts := [], laidByText := true, laidKinds := [.data, .data, .data], laidTests := true, laidLooks := .later }
def FieldIntegersUptoCardSaid : Prop := Claim7.holds Tryz.pinned (.plain (OpenSpec.upto fieldIntegersSpec)) fieldIntegersUptoCard

/-- THE SECOND FORM's CARD OF 'flatlandlaw01.FieldRing'. -/
def fieldRingUptoCard : Claim7 := { stood := { row := fieldRingUptoRow, standIns := [], harness := (true, "9c30db30c201d0dbaf7b3617799fe59e7125499debe4391bfda4861cc17be985"), looks := true }, kinds := [], alts := [], laidByText := true, laidKinds := [.data, .data, .data], laidTests := true, laidLooks := .later }
def FieldRingUptoCardSaid : Prop := Claim7.holds Tryz.pinned (.plain (OpenSpec.upto fieldRingSpec)) fieldRingUptoCard

/-- THE SECOND FORM's CARD OF 'flatlandlaw01.FieldTexts'. -/
def fieldTextsUptoCard : Claim7 := { stood := { row := fieldTextsUptoRow, standIns := [], harness := (true, "9c30db30c201d0dbaf7b3617799fe59e7125499debe4391bfda4861cc17be985"), looks := true }, kinds := [], alts := [], laidByText := true, laidKinds := [.data, .data, .data, .sentinel, .sentinel], laidTests := true, laidLooks := .later }
def FieldTextsUptoCardSaid : Prop := Claim7.holds Tryz.pinned (.plain (OpenSpec.upto fieldTextsSpec)) fieldTextsUptoCard

/-- THE SECOND FORM's CARD OF 'flatlandlaw01.FieldFields'. -/
def fieldFieldsUptoCard : Claim7 := { stood := { row := fieldFieldsUptoRow, standIns := [], harness := (true, "9c30db30c201d0dbaf7b3617799fe59e7125499debe4391bfda4861cc17be985"), looks := true }, kinds := [], alts := [], laidByText := true, laidKinds := [.data, .data, .data], laidTests := true, laidLooks := .later }
def FieldFieldsUptoCardSaid : Prop := Claim7.holds Tryz.pinned (.plain (OpenSpec.upto fieldFieldsSpec)) fieldFieldsUptoCard

/-- THE SECOND FORM's CARD OF 'flatlandlaw01.FieldGiven'. -/
def fieldGivenUptoCard : Claim7 := { stood := { row := fieldGivenUptoRow, standIns := [], harness := (true, "9c30db30c201d0dbaf7b3617799fe59e7125499debe4391bfda4861cc17be985"), looks := true }, kinds := [], alts := [], laidByText := true, laidKinds := [.data, .data, .data], laidTests := true, laidLooks := .later }
def FieldGivenUptoCardSaid : Prop := Claim7.holds Tryz.pinned (.plain (OpenSpec.upto fieldGivenSpec)) fieldGivenUptoCard

/-- THE SECOND FORM's CARD OF 'flatlandlaw01.FieldArithmetic'. -/
def fieldArithmeticUptoCard : Claim7 := { stood := { row := fieldArithmeticUptoRow, standIns := [], harness := (true, "9c30db30c201d0dbaf7b3617799fe59e7125499debe4391bfda4861cc17be985"), looks := true }, kinds := [], alts := [], laidByText := true, laidKinds := [.data, .data, .data], laidTests := true, laidLooks := .later }
def FieldArithmeticUptoCardSaid : Prop := Claim7.holds Tryz.pinned (.plain (OpenSpec.upto fieldArithmeticSpec)) fieldArithmeticUptoCard

/-- THE SECOND FORM's CARD OF 'flatlandlaw01.FieldSigns'. -/
def fieldSignsUptoCard : Claim7 := { stood := { row := fieldSignsUptoRow, standIns := [], harness := (true, "9c30db30c201d0dbaf7b3617799fe59e7125499debe4391bfda4861cc17be985"), looks := true }, kinds := [], alts := [], laidByText := true, laidKinds := [.data, .data, .data], laidTests := true, laidLooks := .later }
def FieldSignsUptoCardSaid : Prop := Claim7.holds Tryz.pinned (.plain (OpenSpec.upto fieldSignsSpec)) fieldSignsUptoCard

/-- THE SECOND FORM's CARD OF 'flatlandlaw01.FieldLaws'. -/
def fieldLawsUptoCard : Claim7 := { stood := { row := fieldLawsUptoRow, standIns := [], harness := (true, "9c30db30c201d0dbaf7b3617799fe59e7125499debe4391bfda4861cc17be985"), looks := true }, kinds := [], alts := [], laidByText := true, laidKinds := [.data, .data, .data], laidTests := true, laidLooks := .later }
def FieldLawsUptoCardSaid : Prop := Claim7.holds Tryz.pinned (.plain (OpenSpec.upto fieldLawsSpec)) fieldLawsUptoCard

/-- THE SECOND FORM's CARD OF 'flatlandlaw01.FieldOrder'. -/
def fieldOrderUptoCard : Claim7 := { stood := { row := fieldOrderUptoRow, standIns := [], harness := (true, "9c30db30c201d0dbaf7b3617799fe59e7125499debe4391bfda4861cc17be985"), looks := true }, kinds := [], alts := [], laidByText := true, laidKinds := [.data, .data, .data], laidTests := true, laidLooks := .later }
def FieldOrderUptoCardSaid : Prop := Claim7.holds Tryz.pinned (.plain (OpenSpec.upto fieldOrderSpec)) fieldOrderUptoCard

/-- THE SECOND FORM's CARD OF 'flatlandlaw01.FieldEncloses'. -/
def fieldEnclosesUptoCard : Claim7 := { stood := { row := fieldEnclosesUptoRow, standIns := [], harness := (true, "9c30db30c201d0dbaf7b3617799fe59e7125499debe4391bfda4861cc17be985"), looks := true }, kinds := [], alts := [], laidByText := true, laidKinds := [.data, .data, .data], laidTests := true, laidLooks := .later }
def FieldEnclosesUptoCardSaid : Prop := Claim7.holds Tryz.pinned (.plain (OpenSpec.upto fieldEnclosesSpec)) fieldEnclosesUptoCard

/-- THE SECOND FORM's CARD OF 'flatlandlaw01.FieldNorms'. -/
def fieldNormsUptoCard : Claim7 := { stood := { row := fieldNormsUptoRow, standIns := [], harness := (true, "9c30db30c201d0dbaf7b3617799fe59e7125499debe4391bfda4861cc17be985"), looks := true }, kinds := [], alts := [], laidByText := true, laidKinds := [.data, .data, .data], laidTests := true, laidLooks := .later }
def FieldNormsUptoCardSaid : Prop := Claim7.holds Tryz.pinned (.plain (OpenSpec.upto fieldNormsSpec)) fieldNormsUptoCard

/-- THE SECOND FORM's CARD OF 'flatlandlaw01.FieldVectors'. -/
def fieldVectorsUptoCard : Claim7 := { stood := { row := fieldVectorsUptoRow, standIns := [], harness := (true, "9c30db30c201d0dbaf7b3617799fe59e7125499debe4391bfda4861cc17be985"), looks := true }, kinds := [], alts := [], laidByText := true, laidKinds := [.data, .data, .data], laidTests := true, laidLooks := .later }
def FieldVectorsUptoCardSaid : Prop := Claim7.holds Tryz.pinned (.plain (OpenSpec.upto fieldVectorsSpec)) fieldVectorsUptoCard

/-- THE SECOND FORM's CARD OF 'flatlandlaw01.FieldPlanes'. -/
def fieldPlanesUptoCard : Claim7 := { stood := { row := fieldPlanesUptoRow, standIns := [], harness := (true, "9c30db30c201d0dbaf7b3617799fe59e7125499debe4391bfda4861cc17be985"), looks := true }, kinds := [], alts := [], laidByText := true, laidKinds := [.data, .data, .data], laidTests := true, laidLooks := .later }
def FieldPlanesUptoCardSaid : Prop := Claim7.holds Tryz.pinned (.plain (OpenSpec.upto fieldPlanesSpec)) fieldPlanesUptoCard

/-- THE SECOND FORM's CARD OF 'flatlandlaw01.FieldWritten'. -/
def fieldWrittenUptoCard : Claim7 := { stood := { row := fieldWrittenUptoRow, standIns := [], harness := (true, "9c30db30c201d0dbaf7b3617799fe59e7125499debe4391bfda4861cc17be985"), looks := true }, kinds := [], alts := [], laidByText := true, laidKinds := [.data, .data, .data, .data, .sentinel, .sentinel, .pinned], laidTests := true, laidLooks := .later }
def FieldWrittenUptoCardSaid : Prop := Claim7.holds Tryz.pinned (.plain (OpenSpec.upto fieldWrittenSpec)) fieldWrittenUptoCard

/-- THE SECOND FORM's CARD OF 'flatlandlaw01.FieldCosines'. -/
def fieldCosinesUptoCard : Claim7 := { stood := { row := fieldCosinesUptoRow, standIns := [], harness := (true, "9c30db30c201d0dbaf7b3617799fe59e7125499debe4391bfda4861cc17be985"), looks := true }, kinds := [], alts := [], laidByText := true, laidKinds := [.data, .data, .data], laidTests := true, laidLooks := .later }
def FieldCosinesUptoCardSaid : Prop := Claim7.holds Tryz.pinned (.plain (OpenSpec.upto fieldCosinesSpec)) fieldCosinesUptoCard

/-- THE SECOND FORM's CARD OF 'flatlandlaw01.FieldNil'. -/
def fieldNilUptoCard : Claim7 := { stood := { row := fieldNilUptoRow, standIns := [], harness := (true, "9c30db30c201d0dbaf7b3617799fe59e7125499debe4391bfda4861cc17be985"), looks := true }, kinds := [], alts := [], laidByText := true, laidKinds := [.data, .data, .data, .data, .sentinel, .sentinel, .pinned], laidTests := true, laidLooks := .later }
def FieldNilUptoCardSaid : Prop := Claim7.holds Tryz.pinned (.plain (OpenSpec.upto fieldNilSpec)) fieldNilUptoCard
end Rows
end Go.Proofs.YtgmhmahdmbdngaaGreatDoor
