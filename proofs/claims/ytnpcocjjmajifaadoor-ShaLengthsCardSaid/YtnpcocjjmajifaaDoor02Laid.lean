/- The table of the constants, out of what the rows list; a slice of bytes that came in, opened. -/
import Derived.Test.YtnpcocjjmajifaaDoorRows
import Derived.ProofKit
import Derived.OpenShut
import Derived.ChangeOld
import Derived.LaidMore
import Derived.MakeChecks
import Derived.Stop.Joined
import Derived.Lib.LaidTab
import Derived.Lib.SmallJoins
import Derived.Test.YtnpcocjjmajifaaDoor02Eq
namespace Go.Proofs.YtnpcocjjmajifaaDoor
open Go.ChangeShapes Go.WideShapes Go.RowKit
set_option linter.unusedVariables false

theorem gRoots : Tryd.prog.globalNamed "graft/sha.roots" = some 0 := by kernel_rfl
theorem tRoots : (Tryd.prog.globals[0]?).map (·.type) = some 69 := by kernel_rfl
/-- What the rows list. -/
abbrev laidRoots : List (String × DataW Unit) := [("graft/sha.roots", Rows.laid_graft_sha_roots)]
/-- The door's own heap holds it. -/
theorem door_met (os : Os) (args : Array Value) : laidMetH Tryd.prog laidRoots ((World.doorLaid Tryd.prog 400 os).forCall (fun _ _ => 0) ⟨#[], args, []⟩).memory :=
  laidMetH_of_parts3 (fuel := 8) (laidMet_of_run' 8 (by kernel_rfl) (by kernel_rfl)) (by kernel_rfl) (by kernel_rfl)
theorem roots_laid {W : World} (h : laidMetH Tryd.prog laidRoots W) : Roots W := fun i hi => by
  rw [MakeChecks.laidMetH_plain _ _ _ (by kernel_rfl)] at h
  have hT : Lib.TabIs Tryd.prog W "graft/sha.roots" .u32 rootsL := Lib.tabIs_of_head gRoots tRoots Tryd.underlying69 Tryd.underlying48 (by kernel_rfl) (by kernel_rfl) (rest := []) h
  have := hT.cell gRoots i (by rw [rootsL_length]; exact hi)
  simpa using this

theorem open_bytes {H : Type} {enc : TypeId × Value → H} {w : World} {base : Nat} {held : Bool} {a : Option Addr} {len cap : Nat} {d : DataW H} {p : List MemPlace}
    (h : DataW.Trod enc Tryd.prog w base (fun _ => true) held 22 (.slice a len cap) d p) : ∃ l : List Int, l.length = len ∧ BytesIn w a l cap := by
  obtain ⟨fuel, hf⟩ := h
  rcases open_ints Tryd.underlying22 Tryd.underlying5 (by kernel_rfl) hf with ⟨hcs, _⟩ | ⟨ad, len', cap', zs, hcs, _, hl, hm, hz, _, hc, _⟩
  · simp [Value.cells] at hcs
    obtain ⟨rfl, rfl, rfl⟩ := hcs
    exact ⟨[], rfl, ⟨by simp, by omega, fun h => absurd h (by simp), fun _ => rfl⟩⟩
  · simp [Value.cells] at hcs
    obtain ⟨rfl, rfl, rfl⟩ := hcs
    simp at hz
    refine ⟨zs.take len, by rw [List.length_take]; omega, ⟨by rw [List.length_take]; omega, by unfold maxLen at hm; omega, fun h0 => ?_, fun h => by cases h⟩⟩
    rw [List.length_take] at h0
    obtain ⟨b, o, s⟩ := ad
    have hsp : s = none := by simpa [Addr.add] using World.cell?_spot (hc 0 (by omega))
    subst hsp
    refine ⟨b, o, rfl, fun i hi => ?_⟩
    rw [List.length_take] at hi
    have := hc i (by omega)
    rw [Addr.add_mid] at this
    rw [this, List.getElem?_take, if_pos (by omega), List.getD]
end Go.Proofs.YtnpcocjjmajifaaDoor
