/-
  NARROWER THAN 'FOR EVERY INPUT', by the rows' own cells (each row's printed sentence says how): OrbitWords: laid · OrbitUnits: laid · OrbitActs: laid · OrbitOrbits: laid · OrbitChecks: laid · OrbitCurves: laid · OrbitWays: laid · OrbitConnects: laid · OrbitGenerators: laid · OrbitMeans: laid · OrbitRelations: laid · OrbitClosed: laid.
  DERIVED. THE GIVEN ROWS OF THIS SEAT. 12 by the template 'for every input the law returns true; each argument reads behind the call as it read before'; 0 by the template 'total and deterministic' (their statements: YtoppgcfijjndfaaGreatDoorTotals.lean).
  GIVEN WITH THE SEED: the statements are not yours to turn. If you find one false, say at which input.
  Laid BY PROGRAM, IN A SANDBOX (cutbox-rows.mjs): the forced cells as the released guide's own fill.sh prints them over the translation 593d7dbe23975c7a… (all of the seat's roots in one cut). By AI agents, Wed Nov 11 2026. No macro, syntax, notation, axiom, sorry.
-/
import Derived.Test.YtoppgcfijjndfaaGreatDoorChecked
import GoSem.Claim
import GoSem.ClaimJoined
import GoSem.ClaimMapViews
import Derived.JoinedTies
import Derived.KernelRfl
namespace Go.Proofs.YtoppgcfijjndfaaGreatDoor
/- THE CELL 'sum', in the pinned program and in every row, IS THE sha256 OF THE DUMP (.gsa) THAT YtoppgcfijjndfaaGreatDoorProg.lean LOADS. Nothing in Lean hashes anything: it is a label: what it is worth is what the hold of that sum in a sandbox is worth. -/
noncomputable def Tryz.pinned : Pinned := { name := "ytoppgcfijjndfaagreatdoor", sum := "593d7dbe23975c7af2455edbbd204ea71e48da452e6dc3bf786548363b3ec395", checked := Tryz.checked }
namespace Rows
def none {H : Type} : Left H := { results := [], args := [] }

/- WHAT THE LISTED PACKAGE-LEVEL VARIABLES READ AS WHEN THE CALL BEGINS. Each datum BY PROGRAM (the guide's laid-datum.mjs) off the statement by which the dump's own 'gosem.cut.vars' lays the variable. In a bare row this is a premise. The card (YtoppgcfijjndfaaGreatDoorCards.lean) ties it to the program's text. -/
def laid_math_bits_deBruijn32tab {H : Type} : DataW H := .agg [.lit (.int .u8 0), .lit (.int .u8 1), .lit (.int .u8 28), .lit (.int .u8 2), .lit (.int .u8 29), .lit (.int .u8 14), .lit (.int .u8 24), .lit (.int .u8 3), .lit (.int .u8 30), .lit (.int .u8 22), .lit (.int .u8 20), .lit (.int .u8 15), .lit (.int .u8 25), .lit (.int .u8 17), .lit (.int .u8 4), .lit (.int .u8 8), .lit (.int .u8 31), .lit (.int .u8 27), .lit (.int .u8 13), .lit (.int .u8 23), .lit (.int .u8 21), .lit (.int .u8 19), .lit (.int .u8 16), .lit (.int .u8 7), .lit (.int .u8 26), .lit (.int .u8 12), .lit (.int .u8 18), .lit (.int .u8 6), .lit (.int .u8 11), .lit (.int .u8 5), .lit (.int .u8 10), .lit (.int .u8 9)]
def laid_math_bits_deBruijn64tab {H : Type} : DataW H := .agg [.lit (.int .u8 0), .lit (.int .u8 1), .lit (.int .u8 56), .lit (.int .u8 2), .lit (.int .u8 57), .lit (.int .u8 49), .lit (.int .u8 28), .lit (.int .u8 3), .lit (.int .u8 61), .lit (.int .u8 58), .lit (.int .u8 42), .lit (.int .u8 50), .lit (.int .u8 38), .lit (.int .u8 29), .lit (.int .u8 17), .lit (.int .u8 4), .lit (.int .u8 62), .lit (.int .u8 47), .lit (.int .u8 59), .lit (.int .u8 36), .lit (.int .u8 45), .lit (.int .u8 43), .lit (.int .u8 51), .lit (.int .u8 22), .lit (.int .u8 53), .lit (.int .u8 39), .lit (.int .u8 33), .lit (.int .u8 30), .lit (.int .u8 24), .lit (.int .u8 18), .lit (.int .u8 12), .lit (.int .u8 5), .lit (.int .u8 63), .lit (.int .u8 55), .lit (.int .u8 48), .lit (.int .u8 27), .lit (.int .u8 60), .lit (.int .u8 41), .lit (.int .u8 37), .lit (.int .u8 16), .lit (.int .u8 46), .lit (.int .u8 35), .lit (.int .u8 44), .lit (.int .u8 21), .lit (.int .u8 52), .lit (.int .u8 32), .lit (.int .u8 23), .lit (.int .u8 11), .lit (.int .u8 54), .lit (.int .u8 26), .lit (.int .u8 40), .lit (.int .u8 15), .lit (.int .u8 34), .lit (.int .u8 20), .lit (.int .u8 31), .lit (.int .u8 10), .lit (.int .u8 25), .lit (.int .u8 14), .lit (.int .u8 19), .lit (.int .u8 9), .lit (.int .u8 13), .lit (.int .u8 8), .lit (.int .u8 7), .lit (.int .u8 6)]
def laid_internal_strconv_uint64pow10 {H : Type} : DataW H := .agg [.lit (.int .u64 1), .lit (.int .u64 10), .lit (.int .u64 100), .lit (.int .u64 1000), .lit (.int .u64 10000), .lit (.int .u64 100000), .lit (.int .u64 1000000), .lit (.int .u64 10000000), .lit (.int .u64 100000000), .lit (.int .u64 1000000000), .lit (.int .u64 10000000000), .lit (.int .u64 100000000000), .lit (.int .u64 1000000000000), .lit (.int .u64 10000000000000), .lit (.int .u64 100000000000000), .lit (.int .u64 1000000000000000), .lit (.int .u64 10000000000000000), .lit (.int .u64 100000000000000000), .lit (.int .u64 1000000000000000000), .lit (.int .u64 10000000000000000000)]

/-- 'flatlandlaw07.OrbitWords': WHATEVER THE INPUT: true; the input reads as it did. -/
def orbitWordsSpec : ChangeSpec := { name := "orbitWords", fn := fun _ => fun
  | [d] => { results := [.lit (.bool true)], args := [d] }
  | _ => none }
def orbitWordsRow : OpenClaim := { program := "ytoppgcfijjndfaagreatdoor", sum := "593d7dbe23975c7af2455edbbd204ea71e48da452e6dc3bf786548363b3ec395", func := "flatland/flatlandlaw07.OrbitWords", spec := "orbitWords", inPlace := ["internal/abi.NoEscape", "internal/bytealg.MakeNoZero"], unfollowed := true, recurses := true, named := ["internal/strconv.uint64pow10", "math/bits.deBruijn32tab", "math/bits.deBruijn64tab"], apart := false, laid := [("math/bits.deBruijn32tab", laid_math_bits_deBruijn32tab), ("math/bits.deBruijn64tab", laid_math_bits_deBruijn64tab), ("internal/strconv.uint64pow10", laid_internal_strconv_uint64pow10)] }
def OrbitWordsSaid : Prop := orbitWordsRow.holds Tryz.pinned (OpenSpec.ofChange orbitWordsSpec)

/-- ITS FALSE NEIGHBOUR: 'it returns false'. Refute it at one input. -/
def orbitWordsWrong : ChangeSpec := { name := "orbitWords", fn := fun _ => fun
  | [d] => { results := [.lit (.bool false)], args := [d] }
  | _ => none }
def OrbitWordsWrongFalsely : Prop := orbitWordsRow.holds Tryz.pinned (OpenSpec.ofChange orbitWordsWrong)

/-- 'flatlandlaw07.OrbitUnits': WHATEVER THE INPUT: true; the input reads as it did. -/
def orbitUnitsSpec : ChangeSpec := { name := "orbitUnits", fn := fun _ => fun
  | [d1, d2] => { results := [.lit (.bool true)], args := [d1, d2] }
  | _ => none }
def orbitUnitsRow : OpenClaim := { program := "ytoppgcfijjndfaagreatdoor", sum := "593d7dbe23975c7af2455edbbd204ea71e48da452e6dc3bf786548363b3ec395", func := "flatland/flatlandlaw07.OrbitUnits", spec := "orbitUnits", inPlace := ["internal/abi.NoEscape", "internal/bytealg.MakeNoZero"], unfollowed := true, recurses := true, named := ["internal/strconv.uint64pow10", "math/bits.deBruijn32tab", "math/bits.deBruijn64tab"], apart := false, laid := [("math/bits.deBruijn32tab", laid_math_bits_deBruijn32tab), ("math/bits.deBruijn64tab", laid_math_bits_deBruijn64tab), ("internal/strconv.uint64pow10", laid_internal_strconv_uint64pow10)] }
def OrbitUnitsSaid : Prop := orbitUnitsRow.holds Tryz.pinned (OpenSpec.ofChange orbitUnitsSpec)

/-- ITS FALSE NEIGHBOUR: 'it returns false'. Refute it at one input. -/
def orbitUnitsWrong : ChangeSpec := { name := "orbitUnits", fn := fun _ => fun
  | [d1, d2] => { results := [.lit (.bool false)], args := [d1, d2] }
  | _ => none }
def OrbitUnitsWrongFalsely : Prop := orbitUnitsRow.holds Tryz.pinned (OpenSpec.ofChange orbitUnitsWrong)

/-- 'flatlandlaw07.OrbitActs': WHATEVER THE INPUT: true; the input reads as it did. -/
def orbitActsSpec : ChangeSpec := { name := "orbitActs", fn := fun _ => fun
  | [d1, d2] => { results := [.lit (.bool true)], args := [d1, d2] }
  | _ => none }
def orbitActsRow : OpenClaim := { program := "ytoppgcfijjndfaagreatdoor", sum := "593d7dbe23975c7af2455edbbd204ea71e48da452e6dc3bf786548363b3ec395", func := "flatland/flatlandlaw07.OrbitActs", spec := "orbitActs", inPlace := ["internal/abi.NoEscape", "internal/bytealg.MakeNoZero"], unfollowed := true, recurses := true, named := ["internal/strconv.uint64pow10", "math/bits.deBruijn32tab", "math/bits.deBruijn64tab"], apart := false, laid := [("math/bits.deBruijn32tab", laid_math_bits_deBruijn32tab), ("math/bits.deBruijn64tab", laid_math_bits_deBruijn64tab), ("internal/strconv.uint64pow10", laid_internal_strconv_uint64pow10)] }
def OrbitActsSaid : Prop := orbitActsRow.holds Tryz.pinned (OpenSpec.ofChange orbitActsSpec)

/-- ITS FALSE NEIGHBOUR: 'it returns false'. Refute it at one input. -/
def orbitActsWrong : ChangeSpec := { name := "orbitActs", fn := fun _ => fun
  | [d1, d2] => { results := [.lit (.bool false)], args := [d1, d2] }
  | _ => none }
def OrbitActsWrongFalsely : Prop := orbitActsRow.holds Tryz.pinned (OpenSpec.ofChange orbitActsWrong)

/-- 'flatlandlaw07.OrbitOrbits': WHATEVER THE INPUT: true; the input reads as it did. -/
def orbitOrbitsSpec : ChangeSpec := { name := "orbitOrbits", fn := fun _ => fun
  | [d] => { results := [.lit (.bool true)], args := [d] }
  | _ => none }
def orbitOrbitsRow : OpenClaim := { program := "ytoppgcfijjndfaagreatdoor", sum := "593d7dbe23975c7af2455edbbd204ea71e48da452e6dc3bf786548363b3ec395", func := "flatland/flatlandlaw07.OrbitOrbits", spec := "orbitOrbits", inPlace := ["internal/abi.NoEscape", "internal/bytealg.MakeNoZero"], unfollowed := true, recurses := true, named := ["internal/strconv.uint64pow10", "math/bits.deBruijn32tab", "math/bits.deBruijn64tab"], apart := false, laid := [("math/bits.deBruijn32tab", laid_math_bits_deBruijn32tab), ("math/bits.deBruijn64tab", laid_math_bits_deBruijn64tab), ("internal/strconv.uint64pow10", laid_internal_strconv_uint64pow10)] }
def OrbitOrbitsSaid : Prop := orbitOrbitsRow.holds Tryz.pinned (OpenSpec.ofChange orbitOrbitsSpec)

/-- ITS FALSE NEIGHBOUR: 'it returns false'. Refute it at one input. -/
def orbitOrbitsWrong : ChangeSpec := { name := "orbitOrbits", fn := fun _ => fun
  | [d] => { results := [.lit (.bool false)], args := [d] }
  | _ => none }
def OrbitOrbitsWrongFalsely : Prop := orbitOrbitsRow.holds Tryz.pinned (OpenSpec.ofChange orbitOrbitsWrong)

/-- 'flatlandlaw07.OrbitChecks': WHATEVER THE INPUT: true; the input reads as it did. -/
def orbitChecksSpec : ChangeSpec := { name := "orbitChecks", fn := fun _ => fun
  | [d] => { results := [.lit (.bool true)], args := [d] }
  | _ => none }
def orbitChecksRow : OpenClaim := { program := "ytoppgcfijjndfaagreatdoor", sum := "593d7dbe23975c7af2455edbbd204ea71e48da452e6dc3bf786548363b3ec395", func := "flatland/flatlandlaw07.OrbitChecks", spec := "orbitChecks", inPlace := ["internal/abi.NoEscape", "internal/bytealg.MakeNoZero"], unfollowed := true, recurses := true, named := ["internal/strconv.uint64pow10", "math/bits.deBruijn32tab", "math/bits.deBruijn64tab"], apart := false, laid := [("math/bits.deBruijn32tab", laid_math_bits_deBruijn32tab), ("math/bits.deBruijn64tab", laid_math_bits_deBruijn64tab), ("internal/strconv.uint64pow10", laid_internal_strconv_uint64pow10)] }
def OrbitChecksSaid : Prop := orbitChecksRow.holds Tryz.pinned (OpenSpec.ofChange orbitChecksSpec)

/-- ITS FALSE NEIGHBOUR: 'it returns false'. Refute it at one input. -/
def orbitChecksWrong : ChangeSpec := { name := "orbitChecks", fn := fun _ => fun
  | [d] => { results := [.lit (.bool false)], args := [d] }
  | _ => none }
def OrbitChecksWrongFalsely : Prop := orbitChecksRow.holds Tryz.pinned (OpenSpec.ofChange orbitChecksWrong)

/-- 'flatlandlaw07.OrbitCurves': WHATEVER THE INPUT: true; the input reads as it did. -/
def orbitCurvesSpec : ChangeSpec := { name := "orbitCurves", fn := fun _ => fun
  | [d] => { results := [.lit (.bool true)], args := [d] }
  | _ => none }
def orbitCurvesRow : OpenClaim := { program := "ytoppgcfijjndfaagreatdoor", sum := "593d7dbe23975c7af2455edbbd204ea71e48da452e6dc3bf786548363b3ec395", func := "flatland/flatlandlaw07.OrbitCurves", spec := "orbitCurves", inPlace := ["internal/abi.NoEscape", "internal/bytealg.MakeNoZero"], unfollowed := true, recurses := true, named := ["internal/strconv.uint64pow10", "math/bits.deBruijn32tab", "math/bits.deBruijn64tab"], apart := false, laid := [("math/bits.deBruijn32tab", laid_math_bits_deBruijn32tab), ("math/bits.deBruijn64tab", laid_math_bits_deBruijn64tab), ("internal/strconv.uint64pow10", laid_internal_strconv_uint64pow10)] }
def OrbitCurvesSaid : Prop := orbitCurvesRow.holds Tryz.pinned (OpenSpec.ofChange orbitCurvesSpec)

/-- ITS FALSE NEIGHBOUR: 'it returns false'. Refute it at one input. -/
def orbitCurvesWrong : ChangeSpec := { name := "orbitCurves", fn := fun _ => fun
  | [d] => { results := [.lit (.bool false)], args := [d] }
  | _ => none }
def OrbitCurvesWrongFalsely : Prop := orbitCurvesRow.holds Tryz.pinned (OpenSpec.ofChange orbitCurvesWrong)

/-- 'flatlandlaw07.OrbitWays': WHATEVER THE INPUT: true; the input reads as it did. -/
def orbitWaysSpec : ChangeSpec := { name := "orbitWays", fn := fun _ => fun
  | [d1, d2, d3] => { results := [.lit (.bool true)], args := [d1, d2, d3] }
  | _ => none }
def orbitWaysRow : OpenClaim := { program := "ytoppgcfijjndfaagreatdoor", sum := "593d7dbe23975c7af2455edbbd204ea71e48da452e6dc3bf786548363b3ec395", func := "flatland/flatlandlaw07.OrbitWays", spec := "orbitWays", inPlace := ["internal/abi.NoEscape", "internal/bytealg.MakeNoZero"], unfollowed := true, recurses := true, named := ["internal/strconv.uint64pow10", "math/bits.deBruijn32tab", "math/bits.deBruijn64tab"], apart := false, laid := [("math/bits.deBruijn32tab", laid_math_bits_deBruijn32tab), ("math/bits.deBruijn64tab", laid_math_bits_deBruijn64tab), ("internal/strconv.uint64pow10", laid_internal_strconv_uint64pow10)] }
def OrbitWaysSaid : Prop := orbitWaysRow.holds Tryz.pinned (OpenSpec.ofChange orbitWaysSpec)

/-- ITS FALSE NEIGHBOUR: 'it returns false'. Refute it at one input. -/
def orbitWaysWrong : ChangeSpec := { name := "orbitWays", fn := fun _ => fun
  | [d1, d2, d3] => { results := [.lit (.bool false)], args := [d1, d2, d3] }
  | _ => none }
def OrbitWaysWrongFalsely : Prop := orbitWaysRow.holds Tryz.pinned (OpenSpec.ofChange orbitWaysWrong)

/-- 'flatlandlaw07.OrbitConnects': WHATEVER THE INPUT: true; the input reads as it did. -/
def orbitConnectsSpec : ChangeSpec := { name := "orbitConnects", fn := fun _ => fun
  | [d1, d2] => { results := [.lit (.bool true)], args := [d1, d2] }
  | _ => none }
def orbitConnectsRow : OpenClaim := { program := "ytoppgcfijjndfaagreatdoor", sum := "593d7dbe23975c7af2455edbbd204ea71e48da452e6dc3bf786548363b3ec395", func := "flatland/flatlandlaw07.OrbitConnects", spec := "orbitConnects", inPlace := ["internal/abi.NoEscape", "internal/bytealg.MakeNoZero"], unfollowed := true, recurses := true, named := ["internal/strconv.uint64pow10", "math/bits.deBruijn32tab", "math/bits.deBruijn64tab"], apart := false, laid := [("math/bits.deBruijn32tab", laid_math_bits_deBruijn32tab), ("math/bits.deBruijn64tab", laid_math_bits_deBruijn64tab), ("internal/strconv.uint64pow10", laid_internal_strconv_uint64pow10)] }
def OrbitConnectsSaid : Prop := orbitConnectsRow.holds Tryz.pinned (OpenSpec.ofChange orbitConnectsSpec)

/-- ITS FALSE NEIGHBOUR: 'it returns false'. Refute it at one input. -/
def orbitConnectsWrong : ChangeSpec := { name := "orbitConnects", fn := fun _ => fun
  | [d1, d2] => { results := [.lit (.bool false)], args := [d1, d2] }
  | _ => none }
def OrbitConnectsWrongFalsely : Prop := orbitConnectsRow.holds Tryz.pinned (OpenSpec.ofChange orbitConnectsWrong)

/-- 'flatlandlaw07.OrbitGenerators': WHATEVER THE INPUT: true; the input reads as it did. -/
def orbitGeneratorsSpec : ChangeSpec := { name := "orbitGenerators", fn := fun _ => fun
  | [d] => { results := [.lit (.bool true)], args := [d] }
  | _ => none }
def orbitGeneratorsRow : OpenClaim := { program := "ytoppgcfijjndfaagreatdoor", sum := "593d7dbe23975c7af2455edbbd204ea71e48da452e6dc3bf786548363b3ec395", func := "flatland/flatlandlaw07.OrbitGenerators", spec := "orbitGenerators", inPlace := ["internal/abi.NoEscape", "internal/bytealg.MakeNoZero"], unfollowed := true, recurses := true, named := ["internal/strconv.uint64pow10", "math/bits.deBruijn32tab", "math/bits.deBruijn64tab"], apart := false, laid := [("math/bits.deBruijn32tab", laid_math_bits_deBruijn32tab), ("math/bits.deBruijn64tab", laid_math_bits_deBruijn64tab), ("internal/strconv.uint64pow10", laid_internal_strconv_uint64pow10)] }
def OrbitGeneratorsSaid : Prop := orbitGeneratorsRow.holds Tryz.pinned (OpenSpec.ofChange orbitGeneratorsSpec)

/-- ITS FALSE NEIGHBOUR: 'it returns false'. Refute it at one input. -/
def orbitGeneratorsWrong : ChangeSpec := { name := "orbitGenerators", fn := fun _ => fun
  | [d] => { results := [.lit (.bool false)], args := [d] }
  | _ => none }
def OrbitGeneratorsWrongFalsely : Prop := orbitGeneratorsRow.holds Tryz.pinned (OpenSpec.ofChange orbitGeneratorsWrong)

/-- 'flatlandlaw07.OrbitMeans': WHATEVER THE INPUT: true; the input reads as it did. -/
def orbitMeansSpec : ChangeSpec := { name := "orbitMeans", fn := fun _ => fun
  | [d1, d2] => { results := [.lit (.bool true)], args := [d1, d2] }
  | _ => none }
def orbitMeansRow : OpenClaim := { program := "ytoppgcfijjndfaagreatdoor", sum := "593d7dbe23975c7af2455edbbd204ea71e48da452e6dc3bf786548363b3ec395", func := "flatland/flatlandlaw07.OrbitMeans", spec := "orbitMeans", inPlace := ["internal/abi.NoEscape", "internal/bytealg.MakeNoZero"], unfollowed := true, recurses := true, named := ["internal/strconv.uint64pow10", "math/bits.deBruijn32tab", "math/bits.deBruijn64tab"], apart := false, laid := [("math/bits.deBruijn32tab", laid_math_bits_deBruijn32tab), ("math/bits.deBruijn64tab", laid_math_bits_deBruijn64tab), ("internal/strconv.uint64pow10", laid_internal_strconv_uint64pow10)] }
def OrbitMeansSaid : Prop := orbitMeansRow.holds Tryz.pinned (OpenSpec.ofChange orbitMeansSpec)

/-- ITS FALSE NEIGHBOUR: 'it returns false'. Refute it at one input. -/
def orbitMeansWrong : ChangeSpec := { name := "orbitMeans", fn := fun _ => fun
  | [d1, d2] => { results := [.lit (.bool false)], args := [d1, d2] }
  | _ => none }
def OrbitMeansWrongFalsely : Prop := orbitMeansRow.holds Tryz.pinned (OpenSpec.ofChange orbitMeansWrong)

/-- 'flatlandlaw07.OrbitRelations': WHATEVER THE INPUT: true; the input reads as it did. -/
def orbitRelationsSpec : ChangeSpec := { name := "orbitRelations", fn := fun _ => fun
  | [d1, d2, d3] => { results := [.lit (.bool true)], args := [d1, d2, d3] }
  | _ => none }
def orbitRelationsRow : OpenClaim := { program := "ytoppgcfijjndfaagreatdoor", sum := "593d7dbe23975c7af2455edbbd204ea71e48da452e6dc3bf786548363b3ec395", func := "flatland/flatlandlaw07.OrbitRelations", spec := "orbitRelations", inPlace := ["internal/abi.NoEscape", "internal/bytealg.MakeNoZero"], unfollowed := true, recurses := true, named := ["internal/strconv.uint64pow10", "math/bits.deBruijn32tab", "math/bits.deBruijn64tab"], apart := false, laid := [("math/bits.deBruijn32tab", laid_math_bits_deBruijn32tab), ("math/bits.deBruijn64tab", laid_math_bits_deBruijn64tab), ("internal/strconv.uint64pow10", laid_internal_strconv_uint64pow10)] }
def OrbitRelationsSaid : Prop := orbitRelationsRow.holds Tryz.pinned (OpenSpec.ofChange orbitRelationsSpec)

/-- ITS FALSE NEIGHBOUR: 'it returns false'. Refute it at one input. -/
def orbitRelationsWrong : ChangeSpec := { name := "orbitRelations", fn := fun _ => fun
  | [d1, d2, d3] => { results := [.lit (.bool false)], args := [d1, d2, d3] }
  | _ => none }
def OrbitRelationsWrongFalsely : Prop := orbitRelationsRow.holds Tryz.pinned (OpenSpec.ofChange orbitRelationsWrong)

/-- 'flatlandlaw07.OrbitClosed': WHATEVER THE INPUT: true; the input reads as it did. -/
def orbitClosedSpec : ChangeSpec := { name := "orbitClosed", fn := fun _ => fun
  | [d1, d2] => { results := [.lit (.bool true)], args := [d1, d2] }
  | _ => none }
def orbitClosedRow : OpenClaim := { program := "ytoppgcfijjndfaagreatdoor", sum := "593d7dbe23975c7af2455edbbd204ea71e48da452e6dc3bf786548363b3ec395", func := "flatland/flatlandlaw07.OrbitClosed", spec := "orbitClosed", inPlace := ["internal/abi.NoEscape", "internal/bytealg.MakeNoZero"], unfollowed := true, recurses := true, named := ["internal/strconv.uint64pow10", "math/bits.deBruijn32tab", "math/bits.deBruijn64tab"], apart := false, laid := [("math/bits.deBruijn32tab", laid_math_bits_deBruijn32tab), ("math/bits.deBruijn64tab", laid_math_bits_deBruijn64tab), ("internal/strconv.uint64pow10", laid_internal_strconv_uint64pow10)] }
def OrbitClosedSaid : Prop := orbitClosedRow.holds Tryz.pinned (OpenSpec.ofChange orbitClosedSpec)

/-- ITS FALSE NEIGHBOUR: 'it returns false'. Refute it at one input. -/
def orbitClosedWrong : ChangeSpec := { name := "orbitClosed", fn := fun _ => fun
  | [d1, d2] => { results := [.lit (.bool false)], args := [d1, d2] }
  | _ => none }
def OrbitClosedWrongFalsely : Prop := orbitClosedRow.holds Tryz.pinned (OpenSpec.ofChange orbitClosedWrong)

/- THE SECOND FORM. 'bulk': how many values and letters a reading holds, each counted each time it is reached (what is shared counts as often as it is met; a slice's spare places count too). A statement '..UptoSaid' is the law's where the arguments, and the package variables that the reading takes, are together of bulk at most 1048576: NARROWER than '..Said'. Prove '..Said' where nothing that the law and all that it calls make is longer than what came in: it says more and counts as full. Else prove '..UptoSaid'. A law counts once. -/
mutual
def uptoBulk {H : Type} : DataW H → Nat
  | .lit (.string bytes) => bytes.length + 1
  | .lit _ => 1
  | .nil => 1
  | .ptr d => uptoBulk d + 1
  | .slice elems spare => uptoBulkAll elems + uptoBulkAll spare + 1
  | .agg parts => uptoBulkAll parts + 1
  | .iface _ d => uptoBulk d + 1
  | .map entries => uptoBulkEntries entries + 1
  | .held _ => 1
def uptoBulkAll {H : Type} : List (DataW H) → Nat
  | [] => 0
  | d :: r => uptoBulk d + uptoBulkAll r
def uptoBulkEntries {H : Type} : List (Lit × DataW H) → Nat
  | [] => 0
  | x :: r => uptoBulkEntry x + uptoBulkEntries r
def uptoBulkEntry {H : Type} : Lit × DataW H → Nat
  | (.string bytes, d) => bytes.length + uptoBulk d + 1
  | (_, d) => uptoBulk d + 1
 end
def uptoSmall : (H : Type) → List (DataW H) → Bool := fun _ ds => decide (uptoBulkAll ds ≤ 1048576)
def OpenSpec.upto (s : _root_.Go.ChangeSpec) : _root_.Go.OpenSpec := { _root_.Go.OpenSpec.ofChange s with cond := some uptoSmall }

/-- 'flatlandlaw07.OrbitWords', WHERE WHAT IT READS IS OF BULK AT MOST 1048576: true; the input reads as it did. -/
def orbitWordsUptoRow : OpenClaim := { program := "ytoppgcfijjndfaagreatdoor", sum := "593d7dbe23975c7af2455edbbd204ea71e48da452e6dc3bf786548363b3ec395", func := "flatland/flatlandlaw07.OrbitWords", spec := "orbitWords", inPlace := ["internal/abi.NoEscape", "internal/bytealg.MakeNoZero"], unfollowed := true, recurses := true, named := ["internal/strconv.uint64pow10", "math/bits.deBruijn32tab", "math/bits.deBruijn64tab"], apart := false, laid := [("math/bits.deBruijn32tab", laid_math_bits_deBruijn32tab), ("math/bits.deBruijn64tab", laid_math_bits_deBruijn64tab), ("internal/strconv.uint64pow10", laid_internal_strconv_uint64pow10)], narrowed := true }
def OrbitWordsUptoSaid : Prop := orbitWordsUptoRow.holds Tryz.pinned (OpenSpec.upto orbitWordsSpec)

/-- 'flatlandlaw07.OrbitUnits', WHERE WHAT IT READS IS OF BULK AT MOST 1048576: true; the input reads as it did. -/
def orbitUnitsUptoRow : OpenClaim := { program := "ytoppgcfijjndfaagreatdoor", sum := "593d7dbe23975c7af2455edbbd204ea71e48da452e6dc3bf786548363b3ec395", func := "flatland/flatlandlaw07.OrbitUnits", spec := "orbitUnits", inPlace := ["internal/abi.NoEscape", "internal/bytealg.MakeNoZero"], unfollowed := true, recurses := true, named := ["internal/strconv.uint64pow10", "math/bits.deBruijn32tab", "math/bits.deBruijn64tab"], apart := false, laid := [("math/bits.deBruijn32tab", laid_math_bits_deBruijn32tab), ("math/bits.deBruijn64tab", laid_math_bits_deBruijn64tab), ("internal/strconv.uint64pow10", laid_internal_strconv_uint64pow10)], narrowed := true }
def OrbitUnitsUptoSaid : Prop := orbitUnitsUptoRow.holds Tryz.pinned (OpenSpec.upto orbitUnitsSpec)

/-- 'flatlandlaw07.OrbitActs', WHERE WHAT IT READS IS OF BULK AT MOST 1048576: true; the input reads as it did. -/
def orbitActsUptoRow : OpenClaim := { program := "ytoppgcfijjndfaagreatdoor", sum := "593d7dbe23975c7af2455edbbd204ea71e48da452e6dc3bf786548363b3ec395", func := "flatland/flatlandlaw07.OrbitActs", spec := "orbitActs", inPlace := ["internal/abi.NoEscape", "internal/bytealg.MakeNoZero"], unfollowed := true, recurses := true, named := ["internal/strconv.uint64pow10", "math/bits.deBruijn32tab", "math/bits.deBruijn64tab"], apart := false, laid := [("math/bits.deBruijn32tab", laid_math_bits_deBruijn32tab), ("math/bits.deBruijn64tab", laid_math_bits_deBruijn64tab), ("internal/strconv.uint64pow10", laid_internal_strconv_uint64pow10)], narrowed := true }
def OrbitActsUptoSaid : Prop := orbitActsUptoRow.holds Tryz.pinned (OpenSpec.upto orbitActsSpec)

/-- 'flatlandlaw07.OrbitOrbits', WHERE WHAT IT READS IS OF BULK AT MOST 1048576: true; the input reads as it did. -/
def orbitOrbitsUptoRow : OpenClaim := { program := "ytoppgcfijjndfaagreatdoor", sum := "593d7dbe23975c7af2455edbbd204ea71e48da452e6dc3bf786548363b3ec395", func := "flatland/flatlandlaw07.OrbitOrbits", spec := "orbitOrbits", inPlace := ["internal/abi.NoEscape", "internal/bytealg.MakeNoZero"], unfollowed := true, recurses := true, named := ["internal/strconv.uint64pow10", "math/bits.deBruijn32tab", "math/bits.deBruijn64tab"], apart := false, laid := [("math/bits.deBruijn32tab", laid_math_bits_deBruijn32tab), ("math/bits.deBruijn64tab", laid_math_bits_deBruijn64tab), ("internal/strconv.uint64pow10", laid_internal_strconv_uint64pow10)], narrowed := true }
def OrbitOrbitsUptoSaid : Prop := orbitOrbitsUptoRow.holds Tryz.pinned (OpenSpec.upto orbitOrbitsSpec)

/-- 'flatlandlaw07.OrbitChecks', WHERE WHAT IT READS IS OF BULK AT MOST 1048576: true; the input reads as it did. -/
def orbitChecksUptoRow : OpenClaim := { program := "ytoppgcfijjndfaagreatdoor", sum := "593d7dbe23975c7af2455edbbd204ea71e48da452e6dc3bf786548363b3ec395", func := "flatland/flatlandlaw07.OrbitChecks", spec := "orbitChecks", inPlace := ["internal/abi.NoEscape", "internal/bytealg.MakeNoZero"], unfollowed := true, recurses := true, named := ["internal/strconv.uint64pow10", "math/bits.deBruijn32tab", "math/bits.deBruijn64tab"], apart := false, laid := [("math/bits.deBruijn32tab", laid_math_bits_deBruijn32tab), ("math/bits.deBruijn64tab", laid_math_bits_deBruijn64tab), ("internal/strconv.uint64pow10", laid_internal_strconv_uint64pow10)], narrowed := true }
def OrbitChecksUptoSaid : Prop := orbitChecksUptoRow.holds Tryz.pinned (OpenSpec.upto orbitChecksSpec)

/-- 'flatlandlaw07.OrbitCurves', WHERE WHAT IT READS IS OF BULK AT MOST 1048576: true; the input reads as it did. -/
def orbitCurvesUptoRow : OpenClaim := { program := "ytoppgcfijjndfaagreatdoor", sum := "593d7dbe23975c7af2455edbbd204ea71e48da452e6dc3bf786548363b3ec395", func := "flatland/flatlandlaw07.OrbitCurves", spec := "orbitCurves", inPlace := ["internal/abi.NoEscape", "internal/bytealg.MakeNoZero"], unfollowed := true, recurses := true, named := ["internal/strconv.uint64pow10", "math/bits.deBruijn32tab", "math/bits.deBruijn64tab"], apart := false, laid := [("math/bits.deBruijn32tab", laid_math_bits_deBruijn32tab), ("math/bits.deBruijn64tab", laid_math_bits_deBruijn64tab), ("internal/strconv.uint64pow10", laid_internal_strconv_uint64pow10)], narrowed := true }
def OrbitCurvesUptoSaid : Prop := orbitCurvesUptoRow.holds Tryz.pinned (OpenSpec.upto orbitCurvesSpec)

/-- 'flatlandlaw07.OrbitWays', WHERE WHAT IT READS IS OF BULK AT MOST 1048576: true; the input reads as it did. -/
def orbitWaysUptoRow : OpenClaim := { program := "ytoppgcfijjndfaagreatdoor", sum := "593d7dbe23975c7af2455edbbd204ea71e48da452e6dc3bf786548363b3ec395", func := "flatland/flatlandlaw07.OrbitWays", spec := "orbitWays", inPlace := ["internal/abi.NoEscape", "internal/bytealg.MakeNoZero"], unfollowed := true, recurses := true, named := ["internal/strconv.uint64pow10", "math/bits.deBruijn32tab", "math/bits.deBruijn64tab"], apart := false, laid := [("math/bits.deBruijn32tab", laid_math_bits_deBruijn32tab), ("math/bits.deBruijn64tab", laid_math_bits_deBruijn64tab), ("internal/strconv.uint64pow10", laid_internal_strconv_uint64pow10)], narrowed := true }
def OrbitWaysUptoSaid : Prop := orbitWaysUptoRow.holds Tryz.pinned (OpenSpec.upto orbitWaysSpec)

/-- 'flatlandlaw07.OrbitConnects', WHERE WHAT IT READS IS OF BULK AT MOST 1048576: true; the input reads as it did. -/
def orbitConnectsUptoRow : OpenClaim := { program := "ytoppgcfijjndfaagreatdoor", sum := "593d7dbe23975c7af2455edbbd204ea71e48da452e6dc3bf786548363b3ec395", func := "flatland/flatlandlaw07.OrbitConnects", spec := "orbitConnects", inPlace := ["internal/abi.NoEscape", "internal/bytealg.MakeNoZero"], unfollowed := true, recurses := true, named := ["internal/strconv.uint64pow10", "math/bits.deBruijn32tab", "math/bits.deBruijn64tab"], apart := false, laid := [("math/bits.deBruijn32tab", laid_math_bits_deBruijn32tab), ("math/bits.deBruijn64tab", laid_math_bits_deBruijn64tab), ("internal/strconv.uint64pow10", laid_internal_strconv_uint64pow10)], narrowed := true }
def OrbitConnectsUptoSaid : Prop := orbitConnectsUptoRow.holds Tryz.pinned (OpenSpec.upto orbitConnectsSpec)

/-- 'flatlandlaw07.OrbitGenerators', WHERE WHAT IT READS IS OF BULK AT MOST 1048576: true; the input reads as it did. -/
def orbitGeneratorsUptoRow : OpenClaim := { program := "ytoppgcfijjndfaagreatdoor", sum := "593d7dbe23975c7af2455edbbd204ea71e48da452e6dc3bf786548363b3ec395", func := "flatland/flatlandlaw07.OrbitGenerators", spec := "orbitGenerators", inPlace := ["internal/abi.NoEscape", "internal/bytealg.MakeNoZero"], unfollowed := true, recurses := true, named := ["internal/strconv.uint64pow10", "math/bits.deBruijn32tab", "math/bits.deBruijn64tab"], apart := false, laid := [("math/bits.deBruijn32tab", laid_math_bits_deBruijn32tab), ("math/bits.deBruijn64tab", laid_math_bits_deBruijn64tab), ("internal/strconv.uint64pow10", laid_internal_strconv_uint64pow10)], narrowed := true }
def OrbitGeneratorsUptoSaid : Prop := orbitGeneratorsUptoRow.holds Tryz.pinned (OpenSpec.upto orbitGeneratorsSpec)

/-- 'flatlandlaw07.OrbitMeans', WHERE WHAT IT READS IS OF BULK AT MOST 1048576: true; the input reads as it did. -/
def orbitMeansUptoRow : OpenClaim := { program := "ytoppgcfijjndfaagreatdoor", sum := "593d7dbe23975c7af2455edbbd204ea71e48da452e6dc3bf786548363b3ec395", func := "flatland/flatlandlaw07.OrbitMeans", spec := "orbitMeans", inPlace := ["internal/abi.NoEscape", "internal/bytealg.MakeNoZero"], unfollowed := true, recurses := true, named := ["internal/strconv.uint64pow10", "math/bits.deBruijn32tab", "math/bits.deBruijn64tab"], apart := false, laid := [("math/bits.deBruijn32tab", laid_math_bits_deBruijn32tab), ("math/bits.deBruijn64tab", laid_math_bits_deBruijn64tab), ("internal/strconv.uint64pow10", laid_internal_strconv_uint64pow10)], narrowed := true }
def OrbitMeansUptoSaid : Prop := orbitMeansUptoRow.holds Tryz.pinned (OpenSpec.upto orbitMeansSpec)

/-- 'flatlandlaw07.OrbitRelations', WHERE WHAT IT READS IS OF BULK AT MOST 1048576: true; the input reads as it did. -/
def orbitRelationsUptoRow : OpenClaim := { program := "ytoppgcfijjndfaagreatdoor", sum := "593d7dbe23975c7af2455edbbd204ea71e48da452e6dc3bf786548363b3ec395", func := "flatland/flatlandlaw07.OrbitRelations", spec := "orbitRelations", inPlace := ["internal/abi.NoEscape", "internal/bytealg.MakeNoZero"], unfollowed := true, recurses := true, named := ["internal/strconv.uint64pow10", "math/bits.deBruijn32tab", "math/bits.deBruijn64tab"], apart := false, laid := [("math/bits.deBruijn32tab", laid_math_bits_deBruijn32tab), ("math/bits.deBruijn64tab", laid_math_bits_deBruijn64tab), ("internal/strconv.uint64pow10", laid_internal_strconv_uint64pow10)], narrowed := true }
def OrbitRelationsUptoSaid : Prop := orbitRelationsUptoRow.holds Tryz.pinned (OpenSpec.upto orbitRelationsSpec)

/-- 'flatlandlaw07.OrbitClosed', WHERE WHAT IT READS IS OF BULK AT MOST 1048576: true; the input reads as it did. -/
def orbitClosedUptoRow : OpenClaim := { program := "ytoppgcfijjndfaagreatdoor", sum := "593d7dbe23975c7af2455edbbd204ea71e48da452e6dc3bf786548363b3ec395", func := "flatland/flatlandlaw07.OrbitClosed", spec := "orbitClosed", inPlace := ["internal/abi.NoEscape", "internal/bytealg.MakeNoZero"], unfollowed := true, recurses := true, named := ["internal/strconv.uint64pow10", "math/bits.deBruijn32tab", "math/bits.deBruijn64tab"], apart := false, laid := [("math/bits.deBruijn32tab", laid_math_bits_deBruijn32tab), ("math/bits.deBruijn64tab", laid_math_bits_deBruijn64tab), ("internal/strconv.uint64pow10", laid_internal_strconv_uint64pow10)], narrowed := true }
def OrbitClosedUptoSaid : Prop := orbitClosedUptoRow.holds Tryz.pinned (OpenSpec.upto orbitClosedSpec)

end Rows
end Go.Proofs.YtoppgcfijjndfaaGreatDoor
