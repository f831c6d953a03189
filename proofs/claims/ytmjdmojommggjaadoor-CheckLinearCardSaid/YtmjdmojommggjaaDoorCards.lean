/-
  DERIVED. GIVEN WITH THE SEED: THE CARDS: each row of YtmjdmojommggjaaDoorRows.lean that lists a variable, with what it lists TIED to the program's text (the seventh form; the later family's looks); each row that meets fmt, with fmt's text TOLD by the authors' own Lean function (tested against real Go, not proved from fmt's source: count such statements apart). THE CARD IS WHAT COUNTS. Prove the row's statement (the work); the ties are given (YtmjdmojommggjaaDoorTie.lean); close each card by the builder's one call (the guide's Derived/Test/ToyasCard.lean, 'card_holds'). Laid BY PROGRAM, IN A SANDBOX (cutbox-door.mjs). By AI agents, Wed Nov 11 2026. No macro, syntax, notation, axiom, sorry.
-/
import Derived.Test.YtmjdmojommggjaaDoorRows
import GoSem.ClaimSeven
namespace Go.Proofs.YtmjdmojommggjaaDoor
namespace Rows

/-- THE TIED CARD OF 'graftlaw03.CheckParts'. -/
def checkPartsCard : Claim7 := { stood := { row := checkPartsRow, standIns := [], harness := (true, "3bcb5da8a2c1e4f97a505a59fbddd4dfe93c32d1b79f97b102fd5b346b665174"), looks := false }, kinds := [], alts := [], laidByText := true, laidKinds := [.data], laidTests := true, laidLooks := .later }
def CheckPartsCardSaid : Prop := Claim7.holds Tryd.pinned (.plain (OpenSpec.ofChange checkPartsSpec)) checkPartsCard

/-- THE TIED CARD OF 'graftlaw03.CheckSeals'. -/
def checkSealsCard : Claim7 := { stood := { row := checkSealsRow, standIns := [], harness := (true, "3bcb5da8a2c1e4f97a505a59fbddd4dfe93c32d1b79f97b102fd5b346b665174"), looks := false }, kinds := [], alts := [], laidByText := true, laidKinds := [.data], laidTests := true, laidLooks := .later }
def CheckSealsCardSaid : Prop := Claim7.holds Tryd.pinned (.plain (OpenSpec.ofChange checkSealsSpec)) checkSealsCard

/-- THE TIED CARD OF 'graftlaw03.CheckOpens'. -/
def checkOpensCard : Claim7 := { stood := { row := checkOpensRow, standIns := [], harness := (true, "3bcb5da8a2c1e4f97a505a59fbddd4dfe93c32d1b79f97b102fd5b346b665174"), looks := false }, kinds := [], alts := [], laidByText := true, laidKinds := [.data], laidTests := true, laidLooks := .later }
def CheckOpensCardSaid : Prop := Claim7.holds Tryd.pinned (.plain (OpenSpec.ofChange checkOpensSpec)) checkOpensCard

/-- THE TIED CARD OF 'graftlaw03.CheckFlips'. -/
def checkFlipsCard : Claim7 := { stood := { row := checkFlipsRow, standIns := [], harness := (true, "3bcb5da8a2c1e4f97a505a59fbddd4dfe93c32d1b79f97b102fd5b346b665174"), looks := false }, kinds := [], alts := [], laidByText := true, laidKinds := [.data], laidTests := true, laidLooks := .later }
def CheckFlipsCardSaid : Prop := Claim7.holds Tryd.pinned (.plain (OpenSpec.ofChange checkFlipsSpec)) checkFlipsCard

/-- THE TIED CARD OF 'graftlaw03.CheckBursts'. -/
def checkBurstsCard : Claim7 := { stood := { row := checkBurstsRow, standIns := [], harness := (true, "3bcb5da8a2c1e4f97a505a59fbddd4dfe93c32d1b79f97b102fd5b346b665174"), looks := false }, kinds := [], alts := [], laidByText := true, laidKinds := [.data], laidTests := true, laidLooks := .later }
def CheckBurstsCardSaid : Prop := Claim7.holds Tryd.pinned (.plain (OpenSpec.ofChange checkBurstsSpec)) checkBurstsCard

/-- THE TIED CARD OF 'graftlaw03.CheckLinear'. -/
def checkLinearCard : Claim7 := { stood := { row := checkLinearRow, standIns := [], harness := (true, "3bcb5da8a2c1e4f97a505a59fbddd4dfe93c32d1b79f97b102fd5b346b665174"), looks := false }, kinds := [], alts := [], laidByText := true, laidKinds := [.data], laidTests := true, laidLooks := .later }
def CheckLinearCardSaid : Prop := Claim7.holds Tryd.pinned (.plain (OpenSpec.ofChange checkLinearSpec)) checkLinearCard

/-- THE SECOND FORM's CARD OF 'graftlaw03.CheckParts'. -/
def checkPartsUptoCard : Claim7 := { stood := { row := checkPartsUptoRow, standIns := [], harness := (true, "3bcb5da8a2c1e4f97a505a59fbddd4dfe93c32d1b79f97b102fd5b346b665174"), looks := false }, kinds := [], alts := [], laidByText := true, laidKinds := [.data], laidTests := true, laidLooks := .later }
def CheckPartsUptoCardSaid : Prop := Claim7.holds Tryd.pinned (.plain (OpenSpec.upto checkPartsSpec)) checkPartsUptoCard

/-- THE SECOND FORM's CARD OF 'graftlaw03.CheckSeals'. -/
def checkSealsUptoCard : Claim7 := { stood := { row := checkSealsUptoRow, standIns := [], harness := (true, "3bcb5da8a2c1e4f97a505a59fbddd4dfe93c32d1b79f97b102fd5b346b665174"), looks := false }, kinds := [], alts := [], laidByText := true, laidKinds := [.data], laidTests := true, laidLooks := .later }
def CheckSealsUptoCardSaid : Prop := Claim7.holds Tryd.pinned (.plain (OpenSpec.upto checkSealsSpec)) checkSealsUptoCard

/-- THE SECOND FORM's CARD OF 'graftlaw03.CheckOpens'. -/
def checkOpensUptoCard : Claim7 := { stood := { row := checkOpensUptoRow, standIns := [], harness := (true, "3bcb5da8a2c1e4f97a505a59fbddd4dfe93c32d1b79f97b102fd5b346b665174"), looks := false }, kinds := [], alts := [], laidByText := true, laidKinds := [.data], laidTests := true, laidLooks := .later }
def CheckOpensUptoCardSaid : Prop := Claim7.holds Tryd.pinned (.plain (OpenSpec.upto checkOpensSpec)) checkOpensUptoCard

/-- THE SECOND FORM's CARD OF 'graftlaw03.CheckFlips'. -/
def checkFlipsUptoCard : Claim7 := { stood := { row := checkFlipsUptoRow, standIns := [], harness := (true, "3bcb5da8a2c1e4f97a505a59fbddd4dfe93c32d1b79f97b102fd5b346b665174"), looks := false }, kinds := [], alts := [], laidByText := true, laidKinds := [.data], laidTests := true, laidLooks := .later }
def CheckFlipsUptoCardSaid : Prop := Claim7.holds Tryd.pinned (.plain (OpenSpec.upto checkFlipsSpec)) checkFlipsUptoCard

/-- THE SECOND FORM's CARD OF 'graftlaw03.CheckBursts'. -/
def checkBurstsUptoCard : Claim7 := { stood := { row := checkBurstsUptoRow, standIns := [], harness := (true, "3bcb5da8a2c1e4f97a505a59fbddd4dfe93c32d1b79f97b102fd5b346b665174"), looks := false }, kinds := [], alts := [], laidByText := true, laidKinds := [.data], laidTests := true, laidLooks := .later }
def CheckBurstsUptoCardSaid : Prop := Claim7.holds Tryd.pinned (.plain (OpenSpec.upto checkBurstsSpec)) checkBurstsUptoCard

/-- THE SECOND FORM's CARD OF 'graftlaw03.CheckLinear'. -/
def checkLinearUptoCard : Claim7 := { stood := { row := checkLinearUptoRow, standIns := [], harness := (true, "3bcb5da8a2c1e4f97a505a59fbddd4dfe93c32d1b79f97b102fd5b346b665174"), looks := false }, kinds := [], alts := [], laidByText := true, laidKinds := [.data], laidTests := true, laidLooks := .later }
def CheckLinearUptoCardSaid : Prop := Claim7.holds Tryd.pinned (.plain (OpenSpec.upto checkLinearSpec)) checkLinearUptoCard
end Rows
end Go.Proofs.YtmjdmojommggjaaDoor
