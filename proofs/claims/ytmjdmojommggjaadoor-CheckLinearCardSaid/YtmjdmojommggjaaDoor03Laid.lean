/- The table of package check, out of what the rows list. -/
import Derived.Test.YtmjdmojommggjaaDoorRows
import Derived.ProofKit
import Derived.OpenShut
import Derived.ChangeOld
import Derived.LaidMore
import Derived.MakeChecks
import Derived.Stop.Joined
import Derived.Lib.LaidTab
import Derived.Lib.SmallJoins
import Derived.Test.YtmjdmojommggjaaDoor03Take
namespace Go.Proofs.YtmjdmojommggjaaDoor
open Go.ChangeShapes Go.WideShapes Go.RowKit
set_option linter.unusedVariables false

theorem gTable : Tryd.prog.globalNamed "graft/check.table" = some 0 := by kernel_rfl
theorem tTable : (Tryd.prog.globals[0]?).map (·.type) = some 46 := by kernel_rfl
/-- What the rows list. -/
abbrev laidTab : List (String × DataW Unit) := [("graft/check.table", Rows.laid_graft_check_table)]
/-- The door's own heap holds it. -/
theorem doorTab_met (os : Os) (args : Array Value) : laidMetH Tryd.prog laidTab ((World.doorLaid Tryd.prog 400 os).forCall (fun _ _ => 0) ⟨#[], args, []⟩).memory :=
  laidMetH_of_parts3 (fuel := 8) (laidMet_of_run' 8 (by kernel_rfl) (by kernel_rfl)) (by kernel_rfl) (by kernel_rfl)
theorem tab_laid {W : World} (h : laidMetH Tryd.prog laidTab W) : Tab W := fun i hi => by
  rw [MakeChecks.laidMetH_plain _ _ _ (by kernel_rfl)] at h
  have hT : Lib.TabIs Tryd.prog W "graft/check.table" .u32 tabL := Lib.tabIs_of_head gTable tTable Tryd.underlying46 Tryd.underlying25 (by kernel_rfl) (by kernel_rfl) (rest := []) h
  have := hT.cell gTable i (by rw [show tabL.length = 16 from rfl]; exact hi)
  rw [← tabL_at i hi]
  simpa using this
end Go.Proofs.YtmjdmojommggjaaDoor
