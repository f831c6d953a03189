/- The constants of the reference are those of the table: bisection by the kernel. -/
import Derived.Test.YtnpcocjjmajifaaDoor02Least
namespace Go.Proofs.YtnpcocjjmajifaaDoor
open Go.RowKit
set_option linter.unusedVariables false

def bis (n : Int) (cubes : Bool) : Nat → Int → Int → Int
  | 0, lo, _ => lo
  | f + 1, lo, hi => if 1 < hi - lo then (if leastB ((lo + hi) / 2) n cubes then bis n cubes f ((lo + hi) / 2) hi else bis n cubes f lo ((lo + hi) / 2)) else lo
def rootI (n : Int) (cubes : Bool) : Int := IntKind.u32.wrap (bis n cubes 36 0 (if cubes then 34359738368 else 68719476736))
def primeL : List Int := [2, 3, 5, 7, 11, 13, 17, 19, 23, 29, 31, 37, 41, 43, 47, 53, 59, 61, 67, 71, 73, 79, 83, 89, 97, 101, 103, 107, 109, 113, 127, 131, 137, 139, 149, 151, 157, 163, 167, 173, 179, 181, 191, 193, 197, 199, 211, 223, 227, 229, 233, 239, 241, 251, 257, 263, 269, 271, 277, 281, 283, 293, 307, 311]
set_option maxRecDepth 100000 in
theorem squares : (primeL.take 8).map (fun p => rootI p false) = [1779033703, 3144134277, 1013904242, 2773480762, 1359893119, 2600822924, 528734635, 1541459225] := by decide +kernel
set_option maxRecDepth 100000 in
theorem cubesAll : primeL.map (fun p => rootI p true) = rootsL := by decide +kernel
end Go.Proofs.YtnpcocjjmajifaaDoor
