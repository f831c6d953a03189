/-
  No cell of these rows narrows 'for every input' (looked for: loops, veiled, ifaces, maps, wideKeys, modest, calm, conditions, laid).
  DERIVED. THE GIVEN ROWS OF THIS SEAT. 6 by the template 'for every input the law returns true; each argument reads behind the call as it read before'; 0 by the template 'total and deterministic' (their statements: YtfikjndkjjgcjaaTotals.lean).
  GIVEN WITH THE SEED: the statements are not yours to turn. If you find one false, say at which input.
  Laid BY PROGRAM, IN A SANDBOX (cutbox-rows.mjs): the forced cells as the released guide's own fill.sh prints them over the translation 7df1b6306d2393e2… (all of the seat's roots in one cut). By AI agents, Wed Nov 11 2026. No macro, syntax, notation, axiom, sorry.
-/
import Derived.Test.YtfikjndkjjgcjaaChecked
import GoSem.Claim
import GoSem.ClaimJoined
import GoSem.ClaimMapViews
import Derived.JoinedTies
import Derived.KernelRfl
namespace Go.Proofs.Ytfikjndkjjgcjaa
/- THE CELL 'sum', in the pinned program and in every row, IS THE sha256 OF THE DUMP (.gsa) THAT YtfikjndkjjgcjaaProg.lean LOADS. Nothing in Lean hashes anything: it is a label: what it is worth is what the hold of that sum in a sandbox is worth. -/
noncomputable def Try.pinned : Pinned := { name := "ytfikjndkjjgcjaa", sum := "7df1b6306d2393e27419c367cc74ac207a000e00e5824ed57c8bfdc2b819b002", checked := Try.checked }
namespace Rows
def none {H : Type} : Left H := { results := [], args := [] }

/-- 'graftlaw04.CommandMakes': WHATEVER THE INPUT: true; the input reads as it did. -/
def commandMakesSpec : ChangeSpec := { name := "commandMakes", fn := fun _ => fun
  | [d1, d2] => { results := [.lit (.bool true)], args := [d1, d2] }
  | _ => none }
def commandMakesRow : OpenClaim := { program := "ytfikjndkjjgcjaa", sum := "7df1b6306d2393e27419c367cc74ac207a000e00e5824ed57c8bfdc2b819b002", func := "graft/graftlaw04.CommandMakes", spec := "commandMakes", apart := false }
def CommandMakesSaid : Prop := commandMakesRow.holds Try.pinned (OpenSpec.ofChange commandMakesSpec)

/-- ITS FALSE NEIGHBOUR: 'it returns false'. Refute it at one input. -/
def commandMakesWrong : ChangeSpec := { name := "commandMakes", fn := fun _ => fun
  | [d1, d2] => { results := [.lit (.bool false)], args := [d1, d2] }
  | _ => none }
def CommandMakesWrongFalsely : Prop := commandMakesRow.holds Try.pinned (OpenSpec.ofChange commandMakesWrong)

/-- 'graftlaw04.CommandChecks': WHATEVER THE INPUT: true; the input reads as it did. -/
def commandChecksSpec : ChangeSpec := { name := "commandChecks", fn := fun _ => fun
  | [d] => { results := [.lit (.bool true)], args := [d] }
  | _ => none }
def commandChecksRow : OpenClaim := { program := "ytfikjndkjjgcjaa", sum := "7df1b6306d2393e27419c367cc74ac207a000e00e5824ed57c8bfdc2b819b002", func := "graft/graftlaw04.CommandChecks", spec := "commandChecks", apart := false }
def CommandChecksSaid : Prop := commandChecksRow.holds Try.pinned (OpenSpec.ofChange commandChecksSpec)

/-- ITS FALSE NEIGHBOUR: 'it returns false'. Refute it at one input. -/
def commandChecksWrong : ChangeSpec := { name := "commandChecks", fn := fun _ => fun
  | [d] => { results := [.lit (.bool false)], args := [d] }
  | _ => none }
def CommandChecksWrongFalsely : Prop := commandChecksRow.holds Try.pinned (OpenSpec.ofChange commandChecksWrong)

/-- 'graftlaw04.CommandExtents': WHATEVER THE INPUT: true; the input reads as it did. -/
def commandExtentsSpec : ChangeSpec := { name := "commandExtents", fn := fun _ => fun
  | [d] => { results := [.lit (.bool true)], args := [d] }
  | _ => none }
def commandExtentsRow : OpenClaim := { program := "ytfikjndkjjgcjaa", sum := "7df1b6306d2393e27419c367cc74ac207a000e00e5824ed57c8bfdc2b819b002", func := "graft/graftlaw04.CommandExtents", spec := "commandExtents", apart := false }
def CommandExtentsSaid : Prop := commandExtentsRow.holds Try.pinned (OpenSpec.ofChange commandExtentsSpec)

/-- ITS FALSE NEIGHBOUR: 'it returns false'. Refute it at one input. -/
def commandExtentsWrong : ChangeSpec := { name := "commandExtents", fn := fun _ => fun
  | [d] => { results := [.lit (.bool false)], args := [d] }
  | _ => none }
def CommandExtentsWrongFalsely : Prop := commandExtentsRow.holds Try.pinned (OpenSpec.ofChange commandExtentsWrong)

/-- 'graftlaw04.CommandParts': WHATEVER THE INPUT: true; the input reads as it did. -/
def commandPartsSpec : ChangeSpec := { name := "commandParts", fn := fun _ => fun
  | [d1, d2] => { results := [.lit (.bool true)], args := [d1, d2] }
  | _ => none }
def commandPartsRow : OpenClaim := { program := "ytfikjndkjjgcjaa", sum := "7df1b6306d2393e27419c367cc74ac207a000e00e5824ed57c8bfdc2b819b002", func := "graft/graftlaw04.CommandParts", spec := "commandParts", apart := false }
def CommandPartsSaid : Prop := commandPartsRow.holds Try.pinned (OpenSpec.ofChange commandPartsSpec)

/-- ITS FALSE NEIGHBOUR: 'it returns false'. Refute it at one input. -/
def commandPartsWrong : ChangeSpec := { name := "commandParts", fn := fun _ => fun
  | [d1, d2] => { results := [.lit (.bool false)], args := [d1, d2] }
  | _ => none }
def CommandPartsWrongFalsely : Prop := commandPartsRow.holds Try.pinned (OpenSpec.ofChange commandPartsWrong)

/-- 'graftlaw04.CommandDivides': WHATEVER THE INPUT: true; the input reads as it did. -/
def commandDividesSpec : ChangeSpec := { name := "commandDivides", fn := fun _ => fun
  | [d1, d2] => { results := [.lit (.bool true)], args := [d1, d2] }
  | _ => none }
def commandDividesRow : OpenClaim := { program := "ytfikjndkjjgcjaa", sum := "7df1b6306d2393e27419c367cc74ac207a000e00e5824ed57c8bfdc2b819b002", func := "graft/graftlaw04.CommandDivides", spec := "commandDivides", apart := false }
def CommandDividesSaid : Prop := commandDividesRow.holds Try.pinned (OpenSpec.ofChange commandDividesSpec)

/-- ITS FALSE NEIGHBOUR: 'it returns false'. Refute it at one input. -/
def commandDividesWrong : ChangeSpec := { name := "commandDivides", fn := fun _ => fun
  | [d1, d2] => { results := [.lit (.bool false)], args := [d1, d2] }
  | _ => none }
def CommandDividesWrongFalsely : Prop := commandDividesRow.holds Try.pinned (OpenSpec.ofChange commandDividesWrong)

/-- 'graftlaw04.CommandSame': WHATEVER THE INPUT: true; the input reads as it did. -/
def commandSameSpec : ChangeSpec := { name := "commandSame", fn := fun _ => fun
  | [d1, d2] => { results := [.lit (.bool true)], args := [d1, d2] }
  | _ => none }
def commandSameRow : OpenClaim := { program := "ytfikjndkjjgcjaa", sum := "7df1b6306d2393e27419c367cc74ac207a000e00e5824ed57c8bfdc2b819b002", func := "graft/graftlaw04.CommandSame", spec := "commandSame", apart := false }
def CommandSameSaid : Prop := commandSameRow.holds Try.pinned (OpenSpec.ofChange commandSameSpec)

/-- ITS FALSE NEIGHBOUR: 'it returns false'. Refute it at one input. -/
def commandSameWrong : ChangeSpec := { name := "commandSame", fn := fun _ => fun
  | [d1, d2] => { results := [.lit (.bool false)], args := [d1, d2] }
  | _ => none }
def CommandSameWrongFalsely : Prop := commandSameRow.holds Try.pinned (OpenSpec.ofChange commandSameWrong)

/- THE SECOND FORM. 'bulk': how many values and letters a reading holds, each counted each time it is reached (what is shared counts as often as it is met; a slice's spare places count too). A statement '..UptoSaid' is the law's where the arguments, and the package variables that the reading takes, are together of bulk at most 1048576: NARROWER than '..Said'. Prove '..Said' where nothing that the law and all that it calls make is longer than what came in: it says more and counts as full. Else prove '..UptoSaid'. A law counts once. -/
mutual
def uptoBulk {H : Type} : DataW H → Nat
  | .lit (.string bytes) => bytes.length + 1
  | .lit _ => 1
  | .nil => 1
  | .ptr d => uptoBulk d + 1
  | .slice elems spare => uptoBulkAll elems + uptoBulkAll spare + 1
  | .agg parts => uptoBulkAll parts + 1
  | .iface _ d => uptoBulk d + 1
  | .map entries => uptoBulkEntries entries + 1
  | .held _ => 1
def uptoBulkAll {H : Type} : List (DataW H) → Nat
  | [] => 0
  | d :: r => uptoBulk d + uptoBulkAll r
def uptoBulkEntries {H : Type} : List (Lit × DataW H) → Nat
  | [] => 0
  | x :: r => uptoBulkEntry x + uptoBulkEntries r
def uptoBulkEntry {H : Type} : Lit × DataW H → Nat
  | (.string bytes, d) => bytes.length + uptoBulk d + 1
  | (_, d) => uptoBulk d + 1
 end
def uptoSmall : (H : Type) → List (DataW H) → Bool := fun _ ds => decide (uptoBulkAll ds ≤ 1048576)
def OpenSpec.upto (s : _root_.Go.ChangeSpec) : _root_.Go.OpenSpec := { _root_.Go.OpenSpec.ofChange s with cond := some uptoSmall }

/-- 'graftlaw04.CommandMakes', WHERE WHAT IT READS IS OF BULK AT MOST 1048576: true; the input reads as it did. -/
def commandMakesUptoRow : OpenClaim := { program := "ytfikjndkjjgcjaa", sum := "7df1b6306d2393e27419c367cc74ac207a000e00e5824ed57c8bfdc2b819b002", func := "graft/graftlaw04.CommandMakes", spec := "commandMakes", apart := false, narrowed := true }
def CommandMakesUptoSaid : Prop := commandMakesUptoRow.holds Try.pinned (OpenSpec.upto commandMakesSpec)

/-- 'graftlaw04.CommandChecks', WHERE WHAT IT READS IS OF BULK AT MOST 1048576: true; the input reads as it did. -/
def commandChecksUptoRow : OpenClaim := { program := "ytfikjndkjjgcjaa", sum := "7df1b6306d2393e27419c367cc74ac207a000e00e5824ed57c8bfdc2b819b002", func := "graft/graftlaw04.CommandChecks", spec := "commandChecks", apart := false, narrowed := true }
def CommandChecksUptoSaid : Prop := commandChecksUptoRow.holds Try.pinned (OpenSpec.upto commandChecksSpec)

/-- 'graftlaw04.CommandExtents', WHERE WHAT IT READS IS OF BULK AT MOST 1048576: true; the input reads as it did. -/
def commandExtentsUptoRow : OpenClaim := { program := "ytfikjndkjjgcjaa", sum := "7df1b6306d2393e27419c367cc74ac207a000e00e5824ed57c8bfdc2b819b002", func := "graft/graftlaw04.CommandExtents", spec := "commandExtents", apart := false, narrowed := true }
def CommandExtentsUptoSaid : Prop := commandExtentsUptoRow.holds Try.pinned (OpenSpec.upto commandExtentsSpec)

/-- 'graftlaw04.CommandParts', WHERE WHAT IT READS IS OF BULK AT MOST 1048576: true; the input reads as it did. -/
def commandPartsUptoRow : OpenClaim := { program := "ytfikjndkjjgcjaa", sum := "7df1b6306d2393e27419c367cc74ac207a000e00e5824ed57c8bfdc2b819b002", func := "graft/graftlaw04.CommandParts", spec := "commandParts", apart := false, narrowed := true }
def CommandPartsUptoSaid : Prop := commandPartsUptoRow.holds Try.pinned (OpenSpec.upto commandPartsSpec)

/-- 'graftlaw04.CommandDivides', WHERE WHAT IT READS IS OF BULK AT MOST 1048576: true; the input reads as it did. -/
def commandDividesUptoRow : OpenClaim := { program := "ytfikjndkjjgcjaa", sum := "7df1b6306d2393e27419c367cc74ac207a000e00e5824ed57c8bfdc2b819b002", func := "graft/graftlaw04.CommandDivides", spec := "commandDivides", apart := false, narrowed := true }
def CommandDividesUptoSaid : Prop := commandDividesUptoRow.holds Try.pinned (OpenSpec.upto commandDividesSpec)

/-- 'graftlaw04.CommandSame', WHERE WHAT IT READS IS OF BULK AT MOST 1048576: true; the input reads as it did. -/
def commandSameUptoRow : OpenClaim := { program := "ytfikjndkjjgcjaa", sum := "7df1b6306d2393e27419c367cc74ac207a000e00e5824ed57c8bfdc2b819b002", func := "graft/graftlaw04.CommandSame", spec := "commandSame", apart := false, narrowed := true }
def CommandSameUptoSaid : Prop := commandSameUptoRow.holds Try.pinned (OpenSpec.upto commandSameSpec)

end Rows
end Go.Proofs.Ytfikjndkjjgcjaa
