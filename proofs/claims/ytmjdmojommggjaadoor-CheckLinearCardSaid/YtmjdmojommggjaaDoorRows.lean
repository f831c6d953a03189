/-
  NARROWER THAN 'FOR EVERY INPUT', by the rows' own cells (each row's printed sentence says how): CheckParts: laid · CheckSeals: laid · CheckOpens: laid · CheckFlips: laid · CheckBursts: laid · CheckLinear: laid.
  DERIVED. THE GIVEN ROWS OF THIS SEAT. 6 by the template 'for every input the law returns true; each argument reads behind the call as it read before'; 0 by the template 'total and deterministic' (their statements: YtmjdmojommggjaaDoorTotals.lean).
  GIVEN WITH THE SEED: the statements are not yours to turn. If you find one false, say at which input.
  Laid BY PROGRAM, IN A SANDBOX (cutbox-rows.mjs): the forced cells as the released guide's own fill.sh prints them over the translation e1de746dc794e455… (all of the seat's roots in one cut). By AI agents, Wed Nov 11 2026. No macro, syntax, notation, axiom, sorry.
-/
import Derived.Test.YtmjdmojommggjaaDoorChecked
import GoSem.Claim
import GoSem.ClaimJoined
import GoSem.ClaimMapViews
import Derived.JoinedTies
import Derived.KernelRfl
namespace Go.Proofs.YtmjdmojommggjaaDoor
/- THE CELL 'sum', in the pinned program and in every row, IS THE sha256 OF THE DUMP (.gsa) THAT YtmjdmojommggjaaDoorProg.lean LOADS. Nothing in Lean hashes anything: it is a label: what it is worth is what the hold of that sum in a sandbox is worth. -/
noncomputable def Tryd.pinned : Pinned := { name := "ytmjdmojommggjaadoor", sum := "e1de746dc794e455754e7571dd4f0d0c1226371d0d0f4987a32146205d38d6ff", checked := Tryd.checked }
namespace Rows
def none {H : Type} : Left H := { results := [], args := [] }

/- WHAT THE LISTED PACKAGE-LEVEL VARIABLES READ AS WHEN THE CALL BEGINS. Each datum BY PROGRAM (the guide's laid-datum.mjs) off the statement by which the dump's own 'gosem.cut.vars' lays the variable. In a bare row this is a premise. The card (YtmjdmojommggjaaDoorCards.lean) ties it to the program's text. -/
def laid_graft_check_table {H : Type} : DataW H := .agg [.lit (.int .u32 0), .lit (.int .u32 498536548), .lit (.int .u32 997073096), .lit (.int .u32 651767980), .lit (.int .u32 1994146192), .lit (.int .u32 1802195444), .lit (.int .u32 1303535960), .lit (.int .u32 1342533948), .lit (.int .u32 3988292384), .lit (.int .u32 4027552580), .lit (.int .u32 3604390888), .lit (.int .u32 3412177804), .lit (.int .u32 2607071920), .lit (.int .u32 2262029012), .lit (.int .u32 2685067896), .lit (.int .u32 3183342108)]

/-- 'graftlaw03.CheckParts': WHATEVER THE INPUT: true; the input reads as it did. -/
def checkPartsSpec : ChangeSpec := { name := "checkParts", fn := fun _ => fun
  | [d1, d2] => { results := [.lit (.bool true)], args := [d1, d2] }
  | _ => none }
def checkPartsRow : OpenClaim := { program := "ytmjdmojommggjaadoor", sum := "e1de746dc794e455754e7571dd4f0d0c1226371d0d0f4987a32146205d38d6ff", func := "graft/graftlaw03.CheckParts", spec := "checkParts", named := ["graft/check.table"], apart := false, laid := [("graft/check.table", laid_graft_check_table)] }
def CheckPartsSaid : Prop := checkPartsRow.holds Tryd.pinned (OpenSpec.ofChange checkPartsSpec)

/-- ITS FALSE NEIGHBOUR: 'it returns false'. Refute it at one input. -/
def checkPartsWrong : ChangeSpec := { name := "checkParts", fn := fun _ => fun
  | [d1, d2] => { results := [.lit (.bool false)], args := [d1, d2] }
  | _ => none }
def CheckPartsWrongFalsely : Prop := checkPartsRow.holds Tryd.pinned (OpenSpec.ofChange checkPartsWrong)

/-- 'graftlaw03.CheckSeals': WHATEVER THE INPUT: true; the input reads as it did. -/
def checkSealsSpec : ChangeSpec := { name := "checkSeals", fn := fun _ => fun
  | [d] => { results := [.lit (.bool true)], args := [d] }
  | _ => none }
def checkSealsRow : OpenClaim := { program := "ytmjdmojommggjaadoor", sum := "e1de746dc794e455754e7571dd4f0d0c1226371d0d0f4987a32146205d38d6ff", func := "graft/graftlaw03.CheckSeals", spec := "checkSeals", named := ["graft/check.table"], apart := false, laid := [("graft/check.table", laid_graft_check_table)] }
def CheckSealsSaid : Prop := checkSealsRow.holds Tryd.pinned (OpenSpec.ofChange checkSealsSpec)

/-- ITS FALSE NEIGHBOUR: 'it returns false'. Refute it at one input. -/
def checkSealsWrong : ChangeSpec := { name := "checkSeals", fn := fun _ => fun
  | [d] => { results := [.lit (.bool false)], args := [d] }
  | _ => none }
def CheckSealsWrongFalsely : Prop := checkSealsRow.holds Tryd.pinned (OpenSpec.ofChange checkSealsWrong)

/-- 'graftlaw03.CheckOpens': WHATEVER THE INPUT: true; the input reads as it did. -/
def checkOpensSpec : ChangeSpec := { name := "checkOpens", fn := fun _ => fun
  | [d] => { results := [.lit (.bool true)], args := [d] }
  | _ => none }
def checkOpensRow : OpenClaim := { program := "ytmjdmojommggjaadoor", sum := "e1de746dc794e455754e7571dd4f0d0c1226371d0d0f4987a32146205d38d6ff", func := "graft/graftlaw03.CheckOpens", spec := "checkOpens", named := ["graft/check.table"], apart := false, laid := [("graft/check.table", laid_graft_check_table)] }
def CheckOpensSaid : Prop := checkOpensRow.holds Tryd.pinned (OpenSpec.ofChange checkOpensSpec)

/-- ITS FALSE NEIGHBOUR: 'it returns false'. Refute it at one input. -/
def checkOpensWrong : ChangeSpec := { name := "checkOpens", fn := fun _ => fun
  | [d] => { results := [.lit (.bool false)], args := [d] }
  | _ => none }
def CheckOpensWrongFalsely : Prop := checkOpensRow.holds Tryd.pinned (OpenSpec.ofChange checkOpensWrong)

/-- 'graftlaw03.CheckFlips': WHATEVER THE INPUT: true; the input reads as it did. -/
def checkFlipsSpec : ChangeSpec := { name := "checkFlips", fn := fun _ => fun
  | [d1, d2] => { results := [.lit (.bool true)], args := [d1, d2] }
  | _ => none }
def checkFlipsRow : OpenClaim := { program := "ytmjdmojommggjaadoor", sum := "e1de746dc794e455754e7571dd4f0d0c1226371d0d0f4987a32146205d38d6ff", func := "graft/graftlaw03.CheckFlips", spec := "checkFlips", named := ["graft/check.table"], apart := false, laid := [("graft/check.table", laid_graft_check_table)] }
def CheckFlipsSaid : Prop := checkFlipsRow.holds Tryd.pinned (OpenSpec.ofChange checkFlipsSpec)

/-- ITS FALSE NEIGHBOUR: 'it returns false'. Refute it at one input. -/
def checkFlipsWrong : ChangeSpec := { name := "checkFlips", fn := fun _ => fun
  | [d1, d2] => { results := [.lit (.bool false)], args := [d1, d2] }
  | _ => none }
def CheckFlipsWrongFalsely : Prop := checkFlipsRow.holds Tryd.pinned (OpenSpec.ofChange checkFlipsWrong)

/-- 'graftlaw03.CheckBursts': WHATEVER THE INPUT: true; the input reads as it did. -/
def checkBurstsSpec : ChangeSpec := { name := "checkBursts", fn := fun _ => fun
  | [d1, d2, d3] => { results := [.lit (.bool true)], args := [d1, d2, d3] }
  | _ => none }
def checkBurstsRow : OpenClaim := { program := "ytmjdmojommggjaadoor", sum := "e1de746dc794e455754e7571dd4f0d0c1226371d0d0f4987a32146205d38d6ff", func := "graft/graftlaw03.CheckBursts", spec := "checkBursts", named := ["graft/check.table"], apart := false, laid := [("graft/check.table", laid_graft_check_table)] }
def CheckBurstsSaid : Prop := checkBurstsRow.holds Tryd.pinned (OpenSpec.ofChange checkBurstsSpec)

/-- ITS FALSE NEIGHBOUR: 'it returns false'. Refute it at one input. -/
def checkBurstsWrong : ChangeSpec := { name := "checkBursts", fn := fun _ => fun
  | [d1, d2, d3] => { results := [.lit (.bool false)], args := [d1, d2, d3] }
  | _ => none }
def CheckBurstsWrongFalsely : Prop := checkBurstsRow.holds Tryd.pinned (OpenSpec.ofChange checkBurstsWrong)

/-- 'graftlaw03.CheckLinear': WHATEVER THE INPUT: true; the input reads as it did. -/
def checkLinearSpec : ChangeSpec := { name := "checkLinear", fn := fun _ => fun
  | [d1, d2, d3] => { results := [.lit (.bool true)], args := [d1, d2, d3] }
  | _ => none }
def checkLinearRow : OpenClaim := { program := "ytmjdmojommggjaadoor", sum := "e1de746dc794e455754e7571dd4f0d0c1226371d0d0f4987a32146205d38d6ff", func := "graft/graftlaw03.CheckLinear", spec := "checkLinear", named := ["graft/check.table"], apart := false, laid := [("graft/check.table", laid_graft_check_table)] }
def CheckLinearSaid : Prop := checkLinearRow.holds Tryd.pinned (OpenSpec.ofChange checkLinearSpec)

/-- ITS FALSE NEIGHBOUR: 'it returns false'. Refute it at one input. -/
def checkLinearWrong : ChangeSpec := { name := "checkLinear", fn := fun _ => fun
  | [d1, d2, d3] => { results := [.lit (.bool false)], args := [d1, d2, d3] }
  | _ => none }
def CheckLinearWrongFalsely : Prop := checkLinearRow.holds Tryd.pinned (OpenSpec.ofChange checkLinearWrong)

/- THE SECOND FORM. 'bulk': how many values and letters a reading holds, each counted each time it is reached (what is shared counts as often as it is met; a slice's spare places count too). A statement '..UptoSaid' is the law's where the arguments, and the package variables that the reading takes, are together of bulk at most 1048576: NARROWER than '..Said'. Prove '..Said' where nothing that the law and all that it calls make is longer than what came in: it says more and counts as full. Else prove '..UptoSaid'. A law counts once. -/
mutual
def uptoBulk {H : Type} : DataW H → Nat
  | .lit (.string bytes) => bytes.length + 1
  | .lit _ => 1
  | .nil => 1
  | .ptr d => uptoBulk d + 1
  | .slice elems spare => uptoBulkAll elems + uptoBulkAll spare + 1
  | .agg parts => uptoBulkAll parts + 1
  | .iface _ d => uptoBulk d + 1
  | .map entries => uptoBulkEntries entries + 1
  | .held _ => 1
def uptoBulkAll {H : Type} : List (DataW H) → Nat
  | [] => 0
  | d :: r => uptoBulk d + uptoBulkAll r
def uptoBulkEntries {H : Type} : List (Lit × DataW H) → Nat
  | [] => 0
  | x :: r => uptoBulkEntry x + uptoBulkEntries r
def uptoBulkEntry {H : Type} : Lit × DataW H → Nat
  | (.string bytes, d) => bytes.length + uptoBulk d + 1
  | (_, d) => uptoBulk d + 1
 end
def uptoSmall : (H : Type) → List (DataW H) → Bool := fun _ ds => decide (uptoBulkAll ds ≤ 1048576)
def OpenSpec.upto (s : _root_.Go.ChangeSpec) : _root_.Go.OpenSpec := { _root_.Go.OpenSpec.ofChange s with cond := some uptoSmall }

/-- 'graftlaw03.CheckParts', WHERE WHAT IT READS IS OF BULK AT MOST 1048576: true; the input reads as it did. -/
def checkPartsUptoRow : OpenClaim := { program := "ytmjdmojommggjaadoor", sum := "e1de746dc794e455754e7571dd4f0d0c1226371d0d0f4987a32146205d38d6ff", func := "graft/graftlaw03.CheckParts", spec := "checkParts", named := ["graft/check.table"], apart := false, laid := [("graft/check.table", laid_graft_check_table)], narrowed := true }
def CheckPartsUptoSaid : Prop := checkPartsUptoRow.holds Tryd.pinned (OpenSpec.upto checkPartsSpec)

/-- 'graftlaw03.CheckSeals', WHERE WHAT IT READS IS OF BULK AT MOST 1048576: true; the input reads as it did. -/
def checkSealsUptoRow : OpenClaim := { program := "ytmjdmojommggjaadoor", sum := "e1de746dc794e455754e7571dd4f0d0c1226371d0d0f4987a32146205d38d6ff", func := "graft/graftlaw03.CheckSeals", spec := "checkSeals", named := ["graft/check.table"], apart := false, laid := [("graft/check.table", laid_graft_check_table)], narrowed := true }
def CheckSealsUptoSaid : Prop := checkSealsUptoRow.holds Tryd.pinned (OpenSpec.upto checkSealsSpec)

/-- 'graftlaw03.CheckOpens', WHERE WHAT IT READS IS OF BULK AT MOST 1048576: true; the input reads as it did. -/
def checkOpensUptoRow : OpenClaim := { program := "ytmjdmojommggjaadoor", sum := "e1de746dc794e455754e7571dd4f0d0c1226371d0d0f4987a32146205d38d6ff", func := "graft/graftlaw03.CheckOpens", spec := "checkOpens", named := ["graft/check.table"], apart := false, laid := [("graft/check.table", laid_graft_check_table)], narrowed := true }
def CheckOpensUptoSaid : Prop := checkOpensUptoRow.holds Tryd.pinned (OpenSpec.upto checkOpensSpec)

/-- 'graftlaw03.CheckFlips', WHERE WHAT IT READS IS OF BULK AT MOST 1048576: true; the input reads as it did. -/
def checkFlipsUptoRow : OpenClaim := { program := "ytmjdmojommggjaadoor", sum := "e1de746dc794e455754e7571dd4f0d0c1226371d0d0f4987a32146205d38d6ff", func := "graft/graftlaw03.CheckFlips", spec := "checkFlips", named := ["graft/check.table"], apart := false, laid := [("graft/check.table", laid_graft_check_table)], narrowed := true }
def CheckFlipsUptoSaid : Prop := checkFlipsUptoRow.holds Tryd.pinned (OpenSpec.upto checkFlipsSpec)

/-- 'graftlaw03.CheckBursts', WHERE WHAT IT READS IS OF BULK AT MOST 1048576: true; the input reads as it did. -/
def checkBurstsUptoRow : OpenClaim := { program := "ytmjdmojommggjaadoor", sum := "e1de746dc794e455754e7571dd4f0d0c1226371d0d0f4987a32146205d38d6ff", func := "graft/graftlaw03.CheckBursts", spec := "checkBursts", named := ["graft/check.table"], apart := false, laid := [("graft/check.table", laid_graft_check_table)], narrowed := true }
def CheckBurstsUptoSaid : Prop := checkBurstsUptoRow.holds Tryd.pinned (OpenSpec.upto checkBurstsSpec)

/-- 'graftlaw03.CheckLinear', WHERE WHAT IT READS IS OF BULK AT MOST 1048576: true; the input reads as it did. -/
def checkLinearUptoRow : OpenClaim := { program := "ytmjdmojommggjaadoor", sum := "e1de746dc794e455754e7571dd4f0d0c1226371d0d0f4987a32146205d38d6ff", func := "graft/graftlaw03.CheckLinear", spec := "checkLinear", named := ["graft/check.table"], apart := false, laid := [("graft/check.table", laid_graft_check_table)], narrowed := true }
def CheckLinearUptoSaid : Prop := checkLinearUptoRow.holds Tryd.pinned (OpenSpec.upto checkLinearSpec)

end Rows
end Go.Proofs.YtmjdmojommggjaaDoor
