/-
  No cell of these rows narrows 'for every input' (looked for: loops, veiled, ifaces, maps, wideKeys, modest, calm, conditions, laid).
  DERIVED. THE GIVEN ROWS OF THIS SEAT. 8 by the template 'for every input the law returns true; each argument reads behind the call as it read before'; 0 by the template 'total and deterministic' (their statements: YtdflpkkgjppmgaaGreatTotals.lean).
  GIVEN WITH THE SEED: the statements are not yours to turn. If you find one false, say at which input.
  Laid BY PROGRAM, IN A SANDBOX (cutbox-rows.mjs): the forced cells as the released guide's own fill.sh prints them over the translation f1d3d607a73e2234… (all of the seat's roots in one cut). By AI agents, Wed Nov 11 2026. No macro, syntax, notation, axiom, sorry.
-/
import Derived.Test.YtdflpkkgjppmgaaGreatChecked
import GoSem.Claim
import GoSem.ClaimJoined
import GoSem.ClaimMapViews
import Derived.JoinedTies
import Derived.KernelRfl
namespace Go.Proofs.YtdflpkkgjppmgaaGreat
/- THE CELL 'sum', in the pinned program and in every row, IS THE sha256 OF THE DUMP (.gsa) THAT YtdflpkkgjppmgaaGreatProg.lean LOADS. Nothing in Lean hashes anything: it is a label: what it is worth is what the hold of that sum in a sandbox is worth. -/
noncomputable def Tryz.pinned : Pinned := { name := "ytdflpkkgjppmgaagreat", sum := "f1d3d607a73e2234f3315166aea8175bc9ea1ea2f98f311e1956366a85558436", checked := Tryz.checked }
namespace Rows
def none {H : Type} : Left H := { results := [], args := [] }

/-- 'flatlandlaw09.CountHooks': WHATEVER THE INPUT: true; the input reads as it did. -/
def countHooksSpec : ChangeSpec := { name := "countHooks", fn := fun _ => fun
  | [d1, d2] => { results := [.lit (.bool true)], args := [d1, d2] }
  | _ => none }
def countHooksRow : OpenClaim := { program := "ytdflpkkgjppmgaagreat", sum := "f1d3d607a73e2234f3315166aea8175bc9ea1ea2f98f311e1956366a85558436", func := "flatland/flatlandlaw09.CountHooks", spec := "countHooks", unfollowed := true, recurses := true, apart := false }
def CountHooksSaid : Prop := countHooksRow.holds Tryz.pinned (OpenSpec.ofChange countHooksSpec)

/-- ITS FALSE NEIGHBOUR: 'it returns false'. Refute it at one input. -/
def countHooksWrong : ChangeSpec := { name := "countHooks", fn := fun _ => fun
  | [d1, d2] => { results := [.lit (.bool false)], args := [d1, d2] }
  | _ => none }
def CountHooksWrongFalsely : Prop := countHooksRow.holds Tryz.pinned (OpenSpec.ofChange countHooksWrong)

/-- 'flatlandlaw09.CountCycles': WHATEVER THE INPUT: true; the input reads as it did. -/
def countCyclesSpec : ChangeSpec := { name := "countCycles", fn := fun _ => fun
  | [d1, d2] => { results := [.lit (.bool true)], args := [d1, d2] }
  | _ => none }
def countCyclesRow : OpenClaim := { program := "ytdflpkkgjppmgaagreat", sum := "f1d3d607a73e2234f3315166aea8175bc9ea1ea2f98f311e1956366a85558436", func := "flatland/flatlandlaw09.CountCycles", spec := "countCycles", unfollowed := true, recurses := true, apart := false }
def CountCyclesSaid : Prop := countCyclesRow.holds Tryz.pinned (OpenSpec.ofChange countCyclesSpec)

/-- ITS FALSE NEIGHBOUR: 'it returns false'. Refute it at one input. -/
def countCyclesWrong : ChangeSpec := { name := "countCycles", fn := fun _ => fun
  | [d1, d2] => { results := [.lit (.bool false)], args := [d1, d2] }
  | _ => none }
def CountCyclesWrongFalsely : Prop := countCyclesRow.holds Tryz.pinned (OpenSpec.ofChange countCyclesWrong)

/-- 'flatlandlaw09.CountPairs': WHATEVER THE INPUT: true; the input reads as it did. -/
def countPairsSpec : ChangeSpec := { name := "countPairs", fn := fun _ => fun
  | [d] => { results := [.lit (.bool true)], args := [d] }
  | _ => none }
def countPairsRow : OpenClaim := { program := "ytdflpkkgjppmgaagreat", sum := "f1d3d607a73e2234f3315166aea8175bc9ea1ea2f98f311e1956366a85558436", func := "flatland/flatlandlaw09.CountPairs", spec := "countPairs", unfollowed := true, recurses := true, apart := false }
def CountPairsSaid : Prop := countPairsRow.holds Tryz.pinned (OpenSpec.ofChange countPairsSpec)

/-- ITS FALSE NEIGHBOUR: 'it returns false'. Refute it at one input. -/
def countPairsWrong : ChangeSpec := { name := "countPairs", fn := fun _ => fun
  | [d] => { results := [.lit (.bool false)], args := [d] }
  | _ => none }
def CountPairsWrongFalsely : Prop := countPairsRow.holds Tryz.pinned (OpenSpec.ofChange countPairsWrong)

/-- 'flatlandlaw09.CountForces': WHATEVER THE INPUT: true; the input reads as it did. -/
def countForcesSpec : ChangeSpec := { name := "countForces", fn := fun _ => fun
  | [d] => { results := [.lit (.bool true)], args := [d] }
  | _ => none }
def countForcesRow : OpenClaim := { program := "ytdflpkkgjppmgaagreat", sum := "f1d3d607a73e2234f3315166aea8175bc9ea1ea2f98f311e1956366a85558436", func := "flatland/flatlandlaw09.CountForces", spec := "countForces", unfollowed := true, recurses := true, apart := false }
def CountForcesSaid : Prop := countForcesRow.holds Tryz.pinned (OpenSpec.ofChange countForcesSpec)

/-- ITS FALSE NEIGHBOUR: 'it returns false'. Refute it at one input. -/
def countForcesWrong : ChangeSpec := { name := "countForces", fn := fun _ => fun
  | [d] => { results := [.lit (.bool false)], args := [d] }
  | _ => none }
def CountForcesWrongFalsely : Prop := countForcesRow.holds Tryz.pinned (OpenSpec.ofChange countForcesWrong)

/-- 'flatlandlaw09.CountFrobenius': WHATEVER THE INPUT: true; the input reads as it did. -/
def countFrobeniusSpec : ChangeSpec := { name := "countFrobenius", fn := fun _ => fun
  | [d] => { results := [.lit (.bool true)], args := [d] }
  | _ => none }
def countFrobeniusRow : OpenClaim := { program := "ytdflpkkgjppmgaagreat", sum := "f1d3d607a73e2234f3315166aea8175bc9ea1ea2f98f311e1956366a85558436", func := "flatland/flatlandlaw09.CountFrobenius", spec := "countFrobenius", unfollowed := true, recurses := true, apart := false }
def CountFrobeniusSaid : Prop := countFrobeniusRow.holds Tryz.pinned (OpenSpec.ofChange countFrobeniusSpec)

/-- ITS FALSE NEIGHBOUR: 'it returns false'. Refute it at one input. -/
def countFrobeniusWrong : ChangeSpec := { name := "countFrobenius", fn := fun _ => fun
  | [d] => { results := [.lit (.bool false)], args := [d] }
  | _ => none }
def CountFrobeniusWrongFalsely : Prop := countFrobeniusRow.holds Tryz.pinned (OpenSpec.ofChange countFrobeniusWrong)

/-- 'flatlandlaw09.CountConnected': WHATEVER THE INPUT: true; the input reads as it did. -/
def countConnectedSpec : ChangeSpec := { name := "countConnected", fn := fun _ => fun
  | [d] => { results := [.lit (.bool true)], args := [d] }
  | _ => none }
def countConnectedRow : OpenClaim := { program := "ytdflpkkgjppmgaagreat", sum := "f1d3d607a73e2234f3315166aea8175bc9ea1ea2f98f311e1956366a85558436", func := "flatland/flatlandlaw09.CountConnected", spec := "countConnected", unfollowed := true, recurses := true, apart := false }
def CountConnectedSaid : Prop := countConnectedRow.holds Tryz.pinned (OpenSpec.ofChange countConnectedSpec)

/-- ITS FALSE NEIGHBOUR: 'it returns false'. Refute it at one input. -/
def countConnectedWrong : ChangeSpec := { name := "countConnected", fn := fun _ => fun
  | [d] => { results := [.lit (.bool false)], args := [d] }
  | _ => none }
def CountConnectedWrongFalsely : Prop := countConnectedRow.holds Tryz.pinned (OpenSpec.ofChange countConnectedWrong)

/-- 'flatlandlaw09.CountStrata': WHATEVER THE INPUT: true; the input reads as it did. -/
def countStrataSpec : ChangeSpec := { name := "countStrata", fn := fun _ => fun
  | [d1, d2, d3] => { results := [.lit (.bool true)], args := [d1, d2, d3] }
  | _ => none }
def countStrataRow : OpenClaim := { program := "ytdflpkkgjppmgaagreat", sum := "f1d3d607a73e2234f3315166aea8175bc9ea1ea2f98f311e1956366a85558436", func := "flatland/flatlandlaw09.CountStrata", spec := "countStrata", unfollowed := true, recurses := true, apart := false }
def CountStrataSaid : Prop := countStrataRow.holds Tryz.pinned (OpenSpec.ofChange countStrataSpec)

/-- ITS FALSE NEIGHBOUR: 'it returns false'. Refute it at one input. -/
def countStrataWrong : ChangeSpec := { name := "countStrata", fn := fun _ => fun
  | [d1, d2, d3] => { results := [.lit (.bool false)], args := [d1, d2, d3] }
  | _ => none }
def CountStrataWrongFalsely : Prop := countStrataRow.holds Tryz.pinned (OpenSpec.ofChange countStrataWrong)

/-- 'flatlandlaw09.CountFormulas': WHATEVER THE INPUT: true; the input reads as it did. -/
def countFormulasSpec : ChangeSpec := { name := "countFormulas", fn := fun _ => fun
  | [d] => { results := [.lit (.bool true)], args := [d] }
  | _ => none }
def countFormulasRow : OpenClaim := { program := "ytdflpkkgjppmgaagreat", sum := "f1d3d607a73e2234f3315166aea8175bc9ea1ea2f98f311e1956366a85558436", func := "flatland/flatlandlaw09.CountFormulas", spec := "countFormulas", unfollowed := true, recurses := true, apart := false }
def CountFormulasSaid : Prop := countFormulasRow.holds Tryz.pinned (OpenSpec.ofChange countFormulasSpec)

/-- ITS FALSE NEIGHBOUR: 'it returns false'. Refute it at one input. -/
def countFormulasWrong : ChangeSpec := { name := "countFormulas", fn := fun _ => fun
  | [d] => { results := [.lit (.bool false)], args := [d] }
  | _ => none }
def CountFormulasWrongFalsely : Prop := countFormulasRow.holds Tryz.pinned (OpenSpec.ofChange countFormulasWrong)

/- THE SECOND FORM. 'bulk': how many values and letters a reading holds, each counted each time it is reached (what is shared counts as often as it is met; a slice's spare places count too). A statement '..UptoSaid' is the law's where the arguments, and the package variables that the reading takes, are together of bulk at most 1048576: NARROWER than '..Said'. Prove '..Said' where nothing that the law and all that it calls make is longer than what came in: it says more and counts as full. Else prove '..UptoSaid'. A law counts once. -/
mutual
def uptoBulk {H : Type} : DataW H → Nat
  | .lit (.string bytes) => bytes.length + 1
  | .lit _ => 1
  | .nil => 1
  | .ptr d => uptoBulk d + 1
  | .slice elems spare => uptoBulkAll elems + uptoBulkAll spare + 1
  | .agg parts => uptoBulkAll parts + 1
  | .iface _ d => uptoBulk d + 1
  | .map entries => uptoBulkEntries entries + 1
  | .held _ => 1
def uptoBulkAll {H : Type} : List (DataW H) → Nat
  | [] => 0
  | d :: r => uptoBulk d + uptoBulkAll r
def uptoBulkEntries {H : Type} : List (Lit × DataW H) → Nat
  | [] => 0
  | x :: r => uptoBulkEntry x + uptoBulkEntries r
def uptoBulkEntry {H : Type} : Lit × DataW H → Nat
  | (.string bytes, d) => bytes.length + uptoBulk d + 1
  | (_, d) => uptoBulk d + 1
 end
def uptoSmall : (H : Type) → List (DataW H) → Bool := fun _ ds => decide (uptoBulkAll ds ≤ 1048576)
def OpenSpec.upto (s : _root_.Go.ChangeSpec) : _root_.Go.OpenSpec := { _root_.Go.OpenSpec.ofChange s with cond := some uptoSmall }

/-- 'flatlandlaw09.CountHooks', WHERE WHAT IT READS IS OF BULK AT MOST 1048576: true; the input reads as it did. -/
def countHooksUptoRow : OpenClaim := { program := "ytdflpkkgjppmgaagreat", sum := "f1d3d607a73e2234f3315166aea8175bc9ea1ea2f98f311e1956366a85558436", func := "flatland/flatlandlaw09.CountHooks", spec := "countHooks", unfollowed := true, recurses := true, apart := false, narrowed := true }
def CountHooksUptoSaid : Prop := countHooksUptoRow.holds Tryz.pinned (OpenSpec.upto countHooksSpec)

/-- 'flatlandlaw09.CountCycles', WHERE WHAT IT READS IS OF BULK AT MOST 1048576: true; the input reads as it did. -/
def countCyclesUptoRow : OpenClaim := { program := "ytdflpkkgjppmgaagreat", sum := "f1d3d607a73e2234f3315166aea8175bc9ea1ea2f98f311e1956366a85558436", func := "flatland/flatlandlaw09.CountCycles", spec := "countCycles", unfollowed := true, recurses := true, apart := false, narrowed := true }
def CountCyclesUptoSaid : Prop := countCyclesUptoRow.holds Tryz.pinned (OpenSpec.upto countCyclesSpec)

/-- 'flatlandlaw09.CountPairs', WHERE WHAT IT READS IS OF BULK AT MOST 1048576: true; the input reads as it did. -/
def countPairsUptoRow : OpenClaim := { program := "ytdflpkkgjppmgaagreat", sum := "f1d3d607a73e2234f3315166aea8175bc9ea1ea2f98f311e1956366a85558436", func := "flatland/flatlandlaw09.CountPairs", spec := "countPairs", unfollowed := true, recurses := true, apart := false, narrowed := true }
def CountPairsUptoSaid : Prop := countPairsUptoRow.holds Tryz.pinned (OpenSpec.upto countPairsSpec)

/-- 'flatlandlaw09.CountForces', WHERE WHAT IT READS IS OF BULK AT MOST 1048576: true; the input reads as it did. -/
def countForcesUptoRow : OpenClaim := { program := "ytdflpkkgjppmgaagreat", sum := "f1d3d607a73e2234f3315166aea8175bc9ea1ea2f98f311e1956366a85558436", func := "flatland/flatlandlaw09.CountForces", spec := "countForces", unfollowed := true, recurses := true, apart := false, narrowed := true }
def CountForcesUptoSaid : Prop := countForcesUptoRow.holds Tryz.pinned (OpenSpec.upto countForcesSpec)

/-- 'flatlandlaw09.CountFrobenius', WHERE WHAT IT READS IS OF BULK AT MOST 1048576: true; the input reads as it did. -/
def countFrobeniusUptoRow : OpenClaim := { program := "ytdflpkkgjppmgaagreat", sum := "f1d3d607a73e2234f3315166aea8175bc9ea1ea2f98f311e1956366a85558436", func := "flatland/flatlandlaw09.CountFrobenius", spec := "countFrobenius", unfollowed := true, recurses := true, apart := false, narrowed := true }
def CountFrobeniusUptoSaid : Prop := countFrobeniusUptoRow.holds Tryz.pinned (OpenSpec.upto countFrobeniusSpec)

/-- 'flatlandlaw09.CountConnected', WHERE WHAT IT READS IS OF BULK AT MOST 1048576: true; the input reads as it did. -/
def countConnectedUptoRow : OpenClaim := { program := "ytdflpkkgjppmgaagreat", sum := "f1d3d607a73e2234f3315166aea8175bc9ea1ea2f98f311e1956366a85558436", func := "flatland/flatlandlaw09.CountConnected", spec := "countConnected", unfollowed := true, recurses := true, apart := false, narrowed := true }
def CountConnectedUptoSaid : Prop := countConnectedUptoRow.holds Tryz.pinned (OpenSpec.upto countConnectedSpec)

/-- 'flatlandlaw09.CountStrata', WHERE WHAT IT READS IS OF BULK AT MOST 1048576: true; the input reads as it did. -/
def countStrataUptoRow : OpenClaim := { program := "ytdflpkkgjppmgaagreat", sum := "f1d3d607a73e2234f3315166aea8175bc9ea1ea2f98f311e1956366a85558436", func := "flatland/flatlandlaw09.CountStrata", spec := "countStrata", unfollowed := true, recurses := true, apart := false, narrowed := true }
def CountStrataUptoSaid : Prop := countStrataUptoRow.holds Tryz.pinned (OpenSpec.upto countStrataSpec)

/-- 'flatlandlaw09.CountFormulas', WHERE WHAT IT READS IS OF BULK AT MOST 1048576: true; the input reads as it did. -/
def countFormulasUptoRow : OpenClaim := { program := "ytdflpkkgjppmgaagreat", sum := "f1d3d607a73e2234f3315166aea8175bc9ea1ea2f98f311e1956366a85558436", func := "flatland/flatlandlaw09.CountFormulas", spec := "countFormulas", unfollowed := true, recurses := true, apart := false, narrowed := true }
def CountFormulasUptoSaid : Prop := countFormulasUptoRow.holds Tryz.pinned (OpenSpec.upto countFormulasSpec)

end Rows
end Go.Proofs.YtdflpkkgjppmgaaGreat
