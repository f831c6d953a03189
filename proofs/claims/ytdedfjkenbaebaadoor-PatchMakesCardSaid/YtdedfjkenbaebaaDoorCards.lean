/-
  DERIVED. GIVEN WITH THE SEED: THE CARDS: each row of YtdedfjkenbaebaaDoorRows.lean that lists a variable, with what it lists TIED to the program's text (the seventh form; the later family's looks); each row that meets fmt, with fmt's text TOLD by the authors' own Lean function (tested against real Go, not proved from fmt's source: count such statements apart). THE CARD IS WHAT COUNTS. Prove the row's statement (the work); the ties are given (YtdedfjkenbaebaaDoorTie.lean); close each card by the builder's one call (the guide's Derived/Test/ToyasCard.lean, 'card_holds'). Laid BY PROGRAM, IN A SANDBOX (cutbox-door.mjs). By AI agents, Wed Nov 11 2026. No macro, syntax, notation, axiom, sorry.
-/
import Derived.Test.YtdedfjkenbaebaaDoorRows
import GoSem.ClaimSeven
namespace Go.Proofs.YtdedfjkenbaebaaDoor
namespace Rows

/-- THE TIED CARD OF 'graftlaw08.PatchApplies'. -/
def patchAppliesCard : Claim7 := { stood := { row := patchAppliesRow, standIns := [], harness := (true, "332ee0a3b482f47b34f9128357fbb28a30912964277cc8c8a961171b47da0ac2"), looks := false }, kinds := [], alts := [], laidByText := true, laidKinds := [.data], laidTests := true, laidLooks := .later }
def PatchAppliesCardSaid : Prop := Claim7.holds Tryd.pinned (.plain (OpenSpec.ofChange patchAppliesSpec)) patchAppliesCard

/-- THE TIED CARD OF 'graftlaw08.PatchBytes'. -/
def patchBytesCard : Claim7 := { stood := { row := patchBytesRow, standIns := [], harness := (true, "332ee0a3b482f47b34f9128357fbb28a30912964277cc8c8a961171b47da0ac2"), looks := false }, kinds := [], alts := [], laidByText := true, laidKinds := [.data], laidTests := true, laidLooks := .later }
def PatchBytesCardSaid : Prop := Claim7.holds Tryd.pinned (.plain (OpenSpec.ofChange patchBytesSpec)) patchBytesCard

/-- THE TIED CARD OF 'graftlaw08.PatchMakes'. -/
def patchMakesCard : Claim7 := { stood := { row := patchMakesRow, standIns := [], harness := (true, "332ee0a3b482f47b34f9128357fbb28a30912964277cc8c8a961171b47da0ac2"), looks := false }, kinds := [], alts := [], laidByText := true, laidKinds := [.data], laidTests := true, laidLooks := .later }
def PatchMakesCardSaid : Prop := Claim7.holds Tryd.pinned (.plain (OpenSpec.ofChange patchMakesSpec)) patchMakesCard

/-- THE TIED CARD OF 'graftlaw08.PatchLeads'. -/
def patchLeadsCard : Claim7 := { stood := { row := patchLeadsRow, standIns := [], harness := (true, "332ee0a3b482f47b34f9128357fbb28a30912964277cc8c8a961171b47da0ac2"), looks := false }, kinds := [], alts := [], laidByText := true, laidKinds := [.data], laidTests := true, laidLooks := .later }
def PatchLeadsCardSaid : Prop := Claim7.holds Tryd.pinned (.plain (OpenSpec.ofChange patchLeadsSpec)) patchLeadsCard

/-- THE TIED CARD OF 'graftlaw08.PatchOrder'. -/
def patchOrderCard : Claim7 := { stood := { row := patchOrderRow, standIns := [], harness := (true, "332ee0a3b482f47b34f9128357fbb28a30912964277cc8c8a961171b47da0ac2"), looks := false }, kinds := [], alts := [], laidByText := true, laidKinds := [.data], laidTests := true, laidLooks := .later }
def PatchOrderCardSaid : Prop := Claim7.holds Tryd.pinned (.plain (OpenSpec.ofChange patchOrderSpec)) patchOrderCard

/-- THE SECOND FORM's CARD OF 'graftlaw08.PatchApplies'. -/
def patchAppliesUptoCard : Claim7 := { stood := { row := patchAppliesUptoRow, standIns := [], harness := (true, "332ee0a3b482f47b34f9128357fbb28a30912964277cc8c8a961171b47da0ac2"), looks := false }, kinds := [], alts := [], laidByText := true, laidKinds := [.data], laidTests := true, laidLooks := .later }
def PatchAppliesUptoCardSaid : Prop := Claim7.holds Tryd.pinned (.plain (OpenSpec.upto patchAppliesSpec)) patchAppliesUptoCard

/-- THE SECOND FORM's CARD OF 'graftlaw08.PatchBytes'. -/
def patchBytesUptoCard : Claim7 := { stood := { row := patchBytesUptoRow, standIns := [], harness := (true, "332ee0a3b482f47b34f9128357fbb28a30912964277cc8c8a961171b47da0ac2"), looks := false }, kinds := [], alts := [], laidByText := true, laidKinds := [.data], laidTests := true, laidLooks := .later }
def PatchBytesUptoCardSaid : Prop := Claim7.holds Tryd.pinned (.plain (OpenSpec.upto patchBytesSpec)) patchBytesUptoCard

/-- THE SECOND FORM's CARD OF 'graftlaw08.PatchMakes'. -/
def patchMakesUptoCard : Claim7 := { stood := { row := patchMakesUptoRow, standIns := [], harness := (true, "332ee0a3b482f47b34f9128357fbb28a30912964277cc8c8a961171b47da0ac2"), looks := false }, kinds := [], alts := [], laidByText := true, laidKinds := [.data], laidTests := true, laidLooks := .later }
def PatchMakesUptoCardSaid : Prop := Claim7.holds Tryd.pinned (.plain (OpenSpec.upto patchMakesSpec)) patchMakesUptoCard

/-- THE SECOND FORM's CARD OF 'graftlaw08.PatchLeads'. -/
def patchLeadsUptoCard : Claim7 := { stood := { row := patchLeadsUptoRow, standIns := [], harness := (true, "332ee0a3b482f47b34f9128357fbb28a30912964277cc8c8a961171b47da0ac2"), looks := false }, kinds := [], alts := [], laidByText := true, laidKinds := [.data], laidTests := true, laidLooks := .later }
def PatchLeadsUptoCardSaid : Prop := Claim7.holds Tryd.pinned (.plain (OpenSpec.upto patchLeadsSpec)) patchLeadsUptoCard

/-- THE SECOND FORM's CARD OF 'graftlaw08.PatchOrder'. -/
def patchOrderUptoCard : Claim7 := { stood := { row := patchOrderUptoRow, standIns := [], harness := (true, "332ee0a3b482f47b34f9128357fbb28a30912964277cc8c8a961171b47da0ac2"), looks := false }, kinds := [], alts := [], laidByText := true, laidKinds := [.data], laidTests := true, laidLooks := .later }
def PatchOrderUptoCardSaid : Prop := Claim7.holds Tryd.pinned (.plain (OpenSpec.upto patchOrderSpec)) patchOrderUptoCard
end Rows
end Go.Proofs.YtdedfjkenbaebaaDoor
