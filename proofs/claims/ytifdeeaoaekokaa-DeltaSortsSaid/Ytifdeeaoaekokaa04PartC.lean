/- Part of package command: no part, and the part of a Copy. -/
import Derived.Test.Ytifdeeaoaekokaa04Ext
import Derived.Test.Ytifdeeaoaekokaa04Same
namespace Go.Proofs.Ytifdeeaoaekokaa
open Go.RowKit Go.Shelf Go.Proofs.Ytifdeeaoaekokaa.Plain01
set_option linter.unusedVariables false

/-- Five cells of a new block are written. -/
theorem below_put5 {B : Nat} {a w : World} (h : Below B a w) {b : Nat} (hb : B ≤ b) (v0 v1 v2 v3 v4 : Value) : Below B a (((((w.setCell ⟨b, 0, none⟩ v0).setCell ⟨b, 1, none⟩ v1).setCell ⟨b, 2, none⟩ v2).setCell ⟨b, 3, none⟩ v3).setCell ⟨b, 4, none⟩ v4) :=
  ((((h.setCell (p := ⟨b, 0, none⟩) hb _).setCell (p := ⟨b, 1, none⟩) hb _).setCell (p := ⟨b, 2, none⟩) hb _).setCell (p := ⟨b, 3, none⟩) hb _).setCell (p := ⟨b, 4, none⟩) hb _

/-- The zero command and false. -/
abbrev noPart : Value := .tuple #[cmdV 0 0 0 0 (.slice none 0 0), .bool false]

end Go.Proofs.Ytifdeeaoaekokaa
