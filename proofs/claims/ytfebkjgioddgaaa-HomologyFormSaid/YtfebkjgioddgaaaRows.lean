/-
  No cell of these rows narrows 'for every input' (looked for: loops, veiled, ifaces, maps, wideKeys, modest, calm, conditions, laid).
  DERIVED. THE GIVEN ROWS OF THIS SEAT. 5 by the template 'for every input the law returns true; each argument reads behind the call as it read before'; 0 by the template 'total and deterministic' (their statements: YtfebkjgioddgaaaTotals.lean).
  GIVEN WITH THE SEED: the statements are not yours to turn. If you find one false, say at which input.
  Laid BY PROGRAM, IN A SANDBOX (cutbox-rows.mjs): the forced cells as the released guide's own fill.sh prints them over the translation 5867b1f32bc64940… (all of the seat's roots in one cut). By AI agents, Wed Nov 11 2026. No macro, syntax, notation, axiom, sorry.
-/
import Derived.Test.YtfebkjgioddgaaaChecked
import GoSem.Claim
import GoSem.ClaimJoined
import GoSem.ClaimMapViews
import Derived.JoinedTies
import Derived.KernelRfl
namespace Go.Proofs.Ytfebkjgioddgaaa
/- THE CELL 'sum', in the pinned program and in every row, IS THE sha256 OF THE DUMP (.gsa) THAT YtfebkjgioddgaaaProg.lean LOADS. Nothing in Lean hashes anything: it is a label: what it is worth is what the hold of that sum in a sandbox is worth. -/
noncomputable def Try.pinned : Pinned := { name := "ytfebkjgioddgaaa", sum := "5867b1f32bc64940609a502aacb3ee053e76a9ab84d1a258be56e60120771572", checked := Try.checked }
namespace Rows
def none {H : Type} : Left H := { results := [], args := [] }

/-- 'flatlandlaw08.HomologyBoundaries': WHATEVER THE INPUT: true; the input reads as it did. -/
def homologyBoundariesSpec : ChangeSpec := { name := "homologyBoundaries", fn := fun _ => fun
  | [d1, d2] => { results := [.lit (.bool true)], args := [d1, d2] }
  | _ => none }
def homologyBoundariesRow : OpenClaim := { program := "ytfebkjgioddgaaa", sum := "5867b1f32bc64940609a502aacb3ee053e76a9ab84d1a258be56e60120771572", func := "flatland/flatlandlaw08.HomologyBoundaries", spec := "homologyBoundaries", unfollowed := true, recurses := true, apart := false }
def HomologyBoundariesSaid : Prop := homologyBoundariesRow.holds Try.pinned (OpenSpec.ofChange homologyBoundariesSpec)

/-- ITS FALSE NEIGHBOUR: 'it returns false'. Refute it at one input. -/
def homologyBoundariesWrong : ChangeSpec := { name := "homologyBoundaries", fn := fun _ => fun
  | [d1, d2] => { results := [.lit (.bool false)], args := [d1, d2] }
  | _ => none }
def HomologyBoundariesWrongFalsely : Prop := homologyBoundariesRow.holds Try.pinned (OpenSpec.ofChange homologyBoundariesWrong)

/-- 'flatlandlaw08.HomologySquares': WHATEVER THE INPUT: true; the input reads as it did. -/
def homologySquaresSpec : ChangeSpec := { name := "homologySquares", fn := fun _ => fun
  | [d1, d2, d3] => { results := [.lit (.bool true)], args := [d1, d2, d3] }
  | _ => none }
def homologySquaresRow : OpenClaim := { program := "ytfebkjgioddgaaa", sum := "5867b1f32bc64940609a502aacb3ee053e76a9ab84d1a258be56e60120771572", func := "flatland/flatlandlaw08.HomologySquares", spec := "homologySquares", unfollowed := true, recurses := true, apart := false }
def HomologySquaresSaid : Prop := homologySquaresRow.holds Try.pinned (OpenSpec.ofChange homologySquaresSpec)

/-- ITS FALSE NEIGHBOUR: 'it returns false'. Refute it at one input. -/
def homologySquaresWrong : ChangeSpec := { name := "homologySquares", fn := fun _ => fun
  | [d1, d2, d3] => { results := [.lit (.bool false)], args := [d1, d2, d3] }
  | _ => none }
def HomologySquaresWrongFalsely : Prop := homologySquaresRow.holds Try.pinned (OpenSpec.ofChange homologySquaresWrong)

/-- 'flatlandlaw08.HomologyForm': WHATEVER THE INPUT: true; the input reads as it did. -/
def homologyFormSpec : ChangeSpec := { name := "homologyForm", fn := fun _ => fun
  | [d1, d2, d3] => { results := [.lit (.bool true)], args := [d1, d2, d3] }
  | _ => none }
def homologyFormRow : OpenClaim := { program := "ytfebkjgioddgaaa", sum := "5867b1f32bc64940609a502aacb3ee053e76a9ab84d1a258be56e60120771572", func := "flatland/flatlandlaw08.HomologyForm", spec := "homologyForm", unfollowed := true, recurses := true, apart := false }
def HomologyFormSaid : Prop := homologyFormRow.holds Try.pinned (OpenSpec.ofChange homologyFormSpec)

/-- ITS FALSE NEIGHBOUR: 'it returns false'. Refute it at one input. -/
def homologyFormWrong : ChangeSpec := { name := "homologyForm", fn := fun _ => fun
  | [d1, d2, d3] => { results := [.lit (.bool false)], args := [d1, d2, d3] }
  | _ => none }
def HomologyFormWrongFalsely : Prop := homologyFormRow.holds Try.pinned (OpenSpec.ofChange homologyFormWrong)

/-- 'flatlandlaw08.HomologyHolonomies': WHATEVER THE INPUT: true; the input reads as it did. -/
def homologyHolonomiesSpec : ChangeSpec := { name := "homologyHolonomies", fn := fun _ => fun
  | [d1, d2, d3] => { results := [.lit (.bool true)], args := [d1, d2, d3] }
  | _ => none }
def homologyHolonomiesRow : OpenClaim := { program := "ytfebkjgioddgaaa", sum := "5867b1f32bc64940609a502aacb3ee053e76a9ab84d1a258be56e60120771572", func := "flatland/flatlandlaw08.HomologyHolonomies", spec := "homologyHolonomies", unfollowed := true, recurses := true, apart := false }
def HomologyHolonomiesSaid : Prop := homologyHolonomiesRow.holds Try.pinned (OpenSpec.ofChange homologyHolonomiesSpec)

/-- ITS FALSE NEIGHBOUR: 'it returns false'. Refute it at one input. -/
def homologyHolonomiesWrong : ChangeSpec := { name := "homologyHolonomies", fn := fun _ => fun
  | [d1, d2, d3] => { results := [.lit (.bool false)], args := [d1, d2, d3] }
  | _ => none }
def HomologyHolonomiesWrongFalsely : Prop := homologyHolonomiesRow.holds Try.pinned (OpenSpec.ofChange homologyHolonomiesWrong)

/-- 'flatlandlaw08.HomologyInvariants': WHATEVER THE INPUT: true; the input reads as it did. -/
def homologyInvariantsSpec : ChangeSpec := { name := "homologyInvariants", fn := fun _ => fun
  | [d] => { results := [.lit (.bool true)], args := [d] }
  | _ => none }
def homologyInvariantsRow : OpenClaim := { program := "ytfebkjgioddgaaa", sum := "5867b1f32bc64940609a502aacb3ee053e76a9ab84d1a258be56e60120771572", func := "flatland/flatlandlaw08.HomologyInvariants", spec := "homologyInvariants", unfollowed := true, recurses := true, apart := false }
def HomologyInvariantsSaid : Prop := homologyInvariantsRow.holds Try.pinned (OpenSpec.ofChange homologyInvariantsSpec)

/-- ITS FALSE NEIGHBOUR: 'it returns false'. Refute it at one input. -/
def homologyInvariantsWrong : ChangeSpec := { name := "homologyInvariants", fn := fun _ => fun
  | [d] => { results := [.lit (.bool false)], args := [d] }
  | _ => none }
def HomologyInvariantsWrongFalsely : Prop := homologyInvariantsRow.holds Try.pinned (OpenSpec.ofChange homologyInvariantsWrong)

/- THE SECOND FORM. 'bulk': how many values and letters a reading holds, each counted each time it is reached (what is shared counts as often as it is met; a slice's spare places count too). A statement '..UptoSaid' is the law's where the arguments, and the package variables that the reading takes, are together of bulk at most 1048576: NARROWER than '..Said'. Prove '..Said' where nothing that the law and all that it calls make is longer than what came in: it says more and counts as full. Else prove '..UptoSaid'. A law counts once. -/
mutual
def uptoBulk {H : Type} : DataW H → Nat
  | .lit (.string bytes) => bytes.length + 1
  | .lit _ => 1
  | .nil => 1
  | .ptr d => uptoBulk d + 1
  | .slice elems spare => uptoBulkAll elems + uptoBulkAll spare + 1
  | .agg parts => uptoBulkAll parts + 1
  | .iface _ d => uptoBulk d + 1
  | .map entries => uptoBulkEntries entries + 1
  | .held _ => 1
def uptoBulkAll {H : Type} : List (DataW H) → Nat
  | [] => 0
  | d :: r => uptoBulk d + uptoBulkAll r
def uptoBulkEntries {H : Type} : List (Lit × DataW H) → Nat
  | [] => 0
  | x :: r => uptoBulkEntry x + uptoBulkEntries r
def uptoBulkEntry {H : Type} : Lit × DataW H → Nat
  | (.string bytes, d) => bytes.length + uptoBulk d + 1
  | (_, d) => uptoBulk d + 1
 end
def uptoSmall : (H : Type) → List (DataW H) → Bool := fun _ ds => decide (uptoBulkAll ds ≤ 1048576)
def OpenSpec.upto (s : _root_.Go.ChangeSpec) : _root_.Go.OpenSpec := { _root_.Go.OpenSpec.ofChange s with cond := some uptoSmall }

/-- 'flatlandlaw08.HomologyBoundaries', WHERE WHAT IT READS IS OF BULK AT MOST 1048576: true; the input reads as it did. -/
def homologyBoundariesUptoRow : OpenClaim := { program := "ytfebkjgioddgaaa", sum := "5867b1f32bc64940609a502aacb3ee053e76a9ab84d1a258be56e60120771572", func := "flatland/flatlandlaw08.HomologyBoundaries", spec := "homologyBoundaries", unfollowed := true, recurses := true, apart := false, narrowed := true }
def HomologyBoundariesUptoSaid : Prop := homologyBoundariesUptoRow.holds Try.pinned (OpenSpec.upto homologyBoundariesSpec)

/-- 'flatlandlaw08.HomologySquares', WHERE WHAT IT READS IS OF BULK AT MOST 1048576: true; the input reads as it did. -/
def homologySquaresUptoRow : OpenClaim := { program := "ytfebkjgioddgaaa", sum := "5867b1f32bc64940609a502aacb3ee053e76a9ab84d1a258be56e60120771572", func := "flatland/flatlandlaw08.HomologySquares", spec := "homologySquares", unfollowed := true, recurses := true, apart := false, narrowed := true }
def HomologySquaresUptoSaid : Prop := homologySquaresUptoRow.holds Try.pinned (OpenSpec.upto homologySquaresSpec)

/-- 'flatlandlaw08.HomologyForm', WHERE WHAT IT READS IS OF BULK AT MOST 1048576: true; the input reads as it did. -/
def homologyFormUptoRow : OpenClaim := { program := "ytfebkjgioddgaaa", sum := "5867b1f32bc64940609a502aacb3ee053e76a9ab84d1a258be56e60120771572", func := "flatland/flatlandlaw08.HomologyForm", spec := "homologyForm", unfollowed := true, recurses := true, apart := false, narrowed := true }
def HomologyFormUptoSaid : Prop := homologyFormUptoRow.holds Try.pinned (OpenSpec.upto homologyFormSpec)

/-- 'flatlandlaw08.HomologyHolonomies', WHERE WHAT IT READS IS OF BULK AT MOST 1048576: true; the input reads as it did. -/
def homologyHolonomiesUptoRow : OpenClaim := { program := "ytfebkjgioddgaaa", sum := "5867b1f32bc64940609a502aacb3ee053e76a9ab84d1a258be56e60120771572", func := "flatland/flatlandlaw08.HomologyHolonomies", spec := "homologyHolonomies", unfollowed := true, recurses := true, apart := false, narrowed := true }
def HomologyHolonomiesUptoSaid : Prop := homologyHolonomiesUptoRow.holds Try.pinned (OpenSpec.upto homologyHolonomiesSpec)

/-- 'flatlandlaw08.HomologyInvariants', WHERE WHAT IT READS IS OF BULK AT MOST 1048576: true; the input reads as it did. -/
def homologyInvariantsUptoRow : OpenClaim := { program := "ytfebkjgioddgaaa", sum := "5867b1f32bc64940609a502aacb3ee053e76a9ab84d1a258be56e60120771572", func := "flatland/flatlandlaw08.HomologyInvariants", spec := "homologyInvariants", unfollowed := true, recurses := true, apart := false, narrowed := true }
def HomologyInvariantsUptoSaid : Prop := homologyInvariantsUptoRow.holds Try.pinned (OpenSpec.upto homologyInvariantsSpec)

end Rows
end Go.Proofs.Ytfebkjgioddgaaa
