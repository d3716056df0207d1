/-
  No cell of these rows narrows 'for every input' (looked for: loops, veiled, ifaces, maps, wideKeys, modest, calm, conditions, laid).
  DERIVED. THE GIVEN ROWS OF THIS SEAT. 2 by the template 'for every input the law returns true; each argument reads behind the call as it read before'; 0 by the template 'total and deterministic' (their statements: YtlemmipnpdjlladGreatTotals.lean).
  GIVEN WITH THE SEED: the statements are not yours to turn. If you find one false, say at which input.
  Laid BY PROGRAM, IN A SANDBOX (cutbox-rows.mjs): the forced cells as the released guide's own fill.sh prints them over the translation d4dc4463dc445dd5… (all of the seat's roots in one cut). By AI agents, Wed Nov 11 2026. No macro, syntax, notation, axiom, sorry.
-/
import Derived.Test.YtlemmipnpdjlladGreatChecked
import GoSem.Claim
import GoSem.ClaimJoined
import GoSem.ClaimMapViews
import Derived.JoinedTies
import Derived.KernelRfl
namespace Go.Proofs.YtlemmipnpdjlladGreat
/- THE CELL 'sum', in the pinned program and in every row, IS THE sha256 OF THE DUMP (.gsa) THAT YtlemmipnpdjlladGreatProg.lean LOADS. Nothing in Lean hashes anything: it is a label: what it is worth is what the hold of that sum in a sandbox is worth. -/
noncomputable def Tryz.pinned : Pinned := { name := "ytlemmipnpdjlladgreat", sum := "d4dc4463dc445dd51724d432d96540528337eb3a2b7bd5555496cde5402af3af", checked := Tryz.checked }
namespace Rows
def none {H : Type} : Left H := { results := [], args := [] }

/-- 'flatlandlaw05.ExchangePaths': WHATEVER THE INPUT: true; the input reads as it did. -/
def exchangePathsSpec : ChangeSpec := { name := "exchangePaths", fn := fun _ => fun
  | [d1, d2, d3] => { results := [.lit (.bool true)], args := [d1, d2, d3] }
  | _ => none }
def exchangePathsRow : OpenClaim := { program := "ytlemmipnpdjlladgreat", sum := "d4dc4463dc445dd51724d432d96540528337eb3a2b7bd5555496cde5402af3af", func := "flatland/flatlandlaw05.ExchangePaths", spec := "exchangePaths", unfollowed := true, recurses := true, apart := false }
def ExchangePathsSaid : Prop := exchangePathsRow.holds Tryz.pinned (OpenSpec.ofChange exchangePathsSpec)

/-- ITS FALSE NEIGHBOUR: 'it returns false'. Refute it at one input. -/
def exchangePathsWrong : ChangeSpec := { name := "exchangePaths", fn := fun _ => fun
  | [d1, d2, d3] => { results := [.lit (.bool false)], args := [d1, d2, d3] }
  | _ => none }
def ExchangePathsWrongFalsely : Prop := exchangePathsRow.holds Tryz.pinned (OpenSpec.ofChange exchangePathsWrong)

/-- 'flatlandlaw05.ExchangeCones': WHATEVER THE INPUT: true; the input reads as it did. -/
def exchangeConesSpec : ChangeSpec := { name := "exchangeCones", fn := fun _ => fun
  | [d1, d2] => { results := [.lit (.bool true)], args := [d1, d2] }
  | _ => none }
def exchangeConesRow : OpenClaim := { program := "ytlemmipnpdjlladgreat", sum := "d4dc4463dc445dd51724d432d96540528337eb3a2b7bd5555496cde5402af3af", func := "flatland/flatlandlaw05.ExchangeCones", spec := "exchangeCones", unfollowed := true, recurses := true, apart := false }
def ExchangeConesSaid : Prop := exchangeConesRow.holds Tryz.pinned (OpenSpec.ofChange exchangeConesSpec)

/-- ITS FALSE NEIGHBOUR: 'it returns false'. Refute it at one input. -/
def exchangeConesWrong : ChangeSpec := { name := "exchangeCones", fn := fun _ => fun
  | [d1, d2] => { results := [.lit (.bool false)], args := [d1, d2] }
  | _ => none }
def ExchangeConesWrongFalsely : Prop := exchangeConesRow.holds Tryz.pinned (OpenSpec.ofChange exchangeConesWrong)

/- THE SECOND FORM. 'bulk': how many values and letters a reading holds, each counted each time it is reached (what is shared counts as often as it is met; a slice's spare places count too). A statement '..UptoSaid' is the law's where the arguments, and the package variables that the reading takes, are together of bulk at most 1048576: NARROWER than '..Said'. Prove '..Said' where nothing that the law and all that it calls make is longer than what came in: it says more and counts as full. Else prove '..UptoSaid'. A law counts once. -/
mutual
def uptoBulk {H : Type} : DataW H → Nat
  | .lit (.string bytes) => bytes.length + 1
  | .lit _ => 1
  | .nil => 1
  | .ptr d => uptoBulk d + 1
  | .slice elems spare => uptoBulkAll elems + uptoBulkAll spare + 1
  | .agg parts => uptoBulkAll parts + 1
  | .iface _ d => uptoBulk d + 1
  | .map entries => uptoBulkEntries entries + 1
  | .held _ => 1
def uptoBulkAll {H : Type} : List (DataW H) → Nat
  | [] => 0
  | d :: r => uptoBulk d + uptoBulkAll r
def uptoBulkEntries {H : Type} : List (Lit × DataW H) → Nat
  | [] => 0
  | x :: r => uptoBulkEntry x + uptoBulkEntries r
def uptoBulkEntry {H : Type} : Lit × DataW H → Nat
  | (.string bytes, d) => bytes.length + uptoBulk d + 1
  | (_, d) => uptoBulk d + 1
 end
def uptoSmall : (H : Type) → List (DataW H) → Bool := fun _ ds => decide (uptoBulkAll ds ≤ 1048576)
def OpenSpec.upto (s : _root_.Go.ChangeSpec) : _root_.Go.OpenSpec := { _root_.Go.OpenSpec.ofChange s with cond := some uptoSmall }

/-- 'flatlandlaw05.ExchangePaths', WHERE WHAT IT READS IS OF BULK AT MOST 1048576: true; the input reads as it did. -/
def exchangePathsUptoRow : OpenClaim := { program := "ytlemmipnpdjlladgreat", sum := "d4dc4463dc445dd51724d432d96540528337eb3a2b7bd5555496cde5402af3af", func := "flatland/flatlandlaw05.ExchangePaths", spec := "exchangePaths", unfollowed := true, recurses := true, apart := false, narrowed := true }
def ExchangePathsUptoSaid : Prop := exchangePathsUptoRow.holds Tryz.pinned (OpenSpec.upto exchangePathsSpec)

/-- 'flatlandlaw05.ExchangeCones', WHERE WHAT IT READS IS OF BULK AT MOST 1048576: true; the input reads as it did. -/
def exchangeConesUptoRow : OpenClaim := { program := "ytlemmipnpdjlladgreat", sum := "d4dc4463dc445dd51724d432d96540528337eb3a2b7bd5555496cde5402af3af", func := "flatland/flatlandlaw05.ExchangeCones", spec := "exchangeCones", unfollowed := true, recurses := true, apart := false, narrowed := true }
def ExchangeConesUptoSaid : Prop := exchangeConesUptoRow.holds Tryz.pinned (OpenSpec.upto exchangeConesSpec)

end Rows
end Go.Proofs.YtlemmipnpdjlladGreat
