/-
  DERIVED. GIVEN WITH THE SEED: THE CARDS: each row of YtdedfjkenbaebaaGreatDoorRows.lean that lists a variable, with what it lists TIED to the program's text (the seventh form; the later family's looks); each row that meets fmt, with fmt's text TOLD by the authors' own Lean function (tested against real Go, not proved from fmt's source: count such statements apart). THE CARD IS WHAT COUNTS. Prove the row's statement (the work); the ties are given (YtdedfjkenbaebaaGreatDoorTie.lean); close each card by the builder's one call (the guide's Derived/Test/ToyasCard.lean, 'card_holds'). Laid BY PROGRAM, IN A SANDBOX (cutbox-door.mjs). By AI agents, Wed Nov 11 2026. No macro, syntax, notation, axiom, sorry.
-/
import Derived.Test.YtdedfjkenbaebaaGreatDoorRows
import GoSem.ClaimSeven
namespace Go.Proofs.YtdedfjkenbaebaaGreatDoor
namespace Rows

/-- THE TIED CARD OF 'graftlaw07.FormatLoads'. -/
def formatLoadsCard : Claim7 := { stood := { row := formatLoadsRow, standIns := [], harness := (true, "5934c06da3bcc82890bbdbece69715ae174ffb93a221b5e6c8134e1fd1cc202d"), looks := false }, kinds := [], alts := [], laidByText := true, laidKinds := [.data], laidTests := true, laidLooks := .later }
def FormatLoadsCardSaid : Prop := Claim7.holds Tryz.pinned (.plain (OpenSpec.ofChange formatLoadsSpec)) formatLoadsCard

/-- THE TIED CARD OF 'graftlaw08.PatchVerifies'. -/
def patchVerifiesCard : Claim7 := { stood := { row := patchVerifiesRow, standIns := [], harness := (true, "5934c06da3bcc82890bbdbece69715ae174ffb93a221b5e6c8134e1fd1cc202d"), looks := false }, kinds := [], alts := [], laidByText := true, laidKinds := [.data], laidTests := true, laidLooks := .later }
def PatchVerifiesCardSaid : Prop := Claim7.holds Tryz.pinned (.plain (OpenSpec.ofChange patchVerifiesSpec)) patchVerifiesCard

/-- THE SECOND FORM's CARD OF 'graftlaw07.FormatLoads'. -/
def formatLoadsUptoCard : Claim7 := { stood := { row := formatLoadsUptoRow, standIns := [], harness := (true, "5934c06da3bcc82890bbdbece69715ae174ffb93a221b5e6c8134e1fd1cc202d"), looks := false }, kinds := [], alts := [], laidByText := true, laidKinds := [.data], laidTests := true, laidLooks := .later }
def FormatLoadsUptoCardSaid : Prop := Claim7.holds Tryz.pinned (.plain (OpenSpec.upto formatLoadsSpec)) formatLoadsUptoCard

/-- THE SECOND FORM's CARD OF 'graftlaw08.PatchVerifies'. -/
def patchVerifiesUptoCard : Claim7 := { stood := { row := patchVerifiesUptoRow, standIns := [], harness := (true, "5934c06da3bcc82890bbdbece69715ae174ffb93a221b5e6c8134e1fd1cc202d"), looks := false }, kinds := [], alts := [], laidByText := true, laidKinds := [.data], laidTests := true, laidLooks := .later }
def PatchVerifiesUptoCardSaid : Prop := Claim7.holds Tryz.pinned (.plain (OpenSpec.upto patchVerifiesSpec)) patchVerifiesUptoCard
end Rows
end Go.Proofs.YtdedfjkenbaebaaGreatDoor
