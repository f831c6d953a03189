/- slices.Grow of no bytes, slices.Concat of slices of bytes: a new slice of its own. -/
import Derived.Laws.Append
import Derived.Lib.AppendZerosOnto
import Derived.Lib.Walk
import Derived.Lib.SliceRun
import Derived.LoopTactic
import Derived.Test.Ytifdeeaoaekokaa00Clone8
import Derived.Test.Ytifdeeaoaekokaa00Cut
namespace Go.Proofs.Ytifdeeaoaekokaa
open Go.RowKit
set_option linter.unusedVariables false

/-- How long some parts are, all in all. -/
theorem sum_take (ls : List (List Int)) {k : Nat} (hk : k < ls.length) : (ls.take (k + 1)).flatten.length = (ls.take k).flatten.length + (partOf ls k).length := by rw [take_flat ls hk, List.length_append]

end Go.Proofs.Ytifdeeaoaekokaa
