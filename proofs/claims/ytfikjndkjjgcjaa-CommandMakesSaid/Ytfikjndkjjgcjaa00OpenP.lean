/- A slice of slices of bytes that came in, opened with its capacity. -/
import Derived.Test.Ytfikjndkjjgcjaa00Open
import Derived.Test.Ytfikjndkjjgcjaa00Cut
namespace Go.Proofs.Ytfikjndkjjgcjaa
open Go.ChangeShapes Go.WideShapes Go.RowKit Go.Deep
set_option linter.unusedVariables false

theorem open_parts_of {H : Type} {enc : TypeId × Value → H} {w : World} {base : Nat} {held : Bool} {a : Option Addr} {len cap : Nat} {d : DataW H} {p : List MemPlace}
    (h : DataW.Trod enc Try.prog w base (fun _ => true) held 23 (.slice a len cap) d p) : ∃ ls : List (List Int), ls.length = len ∧ PartsOf w a ls cap := by
  obtain ⟨ls, h1, h2⟩ := open_parts h
  refine ⟨ls, h1, ?_⟩
  obtain ⟨fuel, hf⟩ := h
  rcases open_int_rows Try.underlying23 Try.underlying25 Try.underlying5 (by kernel_rfl) (by kernel_rfl) hf with ⟨hcs, _⟩ | ⟨ad, len', cap', A, L, C, Z, hcs, _, hl, hm, _, hr⟩
  · simp [Value.cells] at hcs
    obtain ⟨rfl, rfl, rfl⟩ := hcs
    exact ⟨h2, by omega, by omega, fun _ => rfl⟩
  · simp [Value.cells] at hcs
    obtain ⟨rfl, rfl, rfl⟩ := hcs
    exact ⟨h2, by omega, by unfold maxLen at hm; omega, fun h => by cases h⟩
end Go.Proofs.Ytfikjndkjjgcjaa
