/- An array of 32 bytes that came in, opened. -/
import Derived.Test.YtnpcocjjmajifaaDoor02Laid
import Derived.Test.YtnpcocjjmajifaaDoor02LawDigits
namespace Go.Proofs.YtnpcocjjmajifaaDoor
open Go.ChangeShapes Go.WideShapes Go.RowKit
set_option linter.unusedVariables false

theorem okWide_arr32 {w : World} {r : Reach} {base : Nat} {v : Value} (h : Value.okWide Tryd.prog w r base 24 v) : ∃ cs : Array Value, v = .agg cs ∧ cs.size = 32 := by
  have hc : Tryd.prog.cellsOf 24 = 32 := by kernel_rfl
  simp only [Value.okWide, Tryd.underlying24] at h
  obtain ⟨cs, h1, h2, _⟩ := h
  exact ⟨cs, h1, by rw [h2, hc]⟩

def zOf : Value → Int
  | .int _ n => n
  | _ => 0
theorem open_arr32 {H : Type} {enc : TypeId × Value → H} {w : World} {r : Reach} {b0 base : Nat} {held : Bool} {v : Value} {d : DataW H} {p : List MemPlace} (hv : Value.okWide Tryd.prog w r b0 24 v)
    (h : DataW.Trod enc Tryd.prog w base (fun _ => true) held 24 v d p) : ∃ l : List Int, v = .agg (byteA l) ∧ l.length = 32 ∧ ∀ i, i < 32 → 0 ≤ l[i]?.getD 0 ∧ l[i]?.getD 0 < 256 := by
  obtain ⟨cs, rfl, hsz⟩ := okWide_arr32 hv
  obtain ⟨fuel, hf⟩ := h
  obtain ⟨xs, m, _, _, _, hl, hel⟩ := DataW.trod_array Tryd.underlying24 hf
  have c1 : Tryd.prog.cellsOf 5 = 1 := by kernel_rfl
  rw [c1] at hel
  have key : ∀ i, i < 32 → ∃ n : Int, cs[i]? = some (.int .u8 n) ∧ 0 ≤ n ∧ n < 256 := fun i hi => by
    have he := hel i hi
    rw [List.getElem?_eq_getElem (by omega)] at he
    obtain ⟨n, hc, _, hw⟩ := DataW.trod_int Tryd.underlying5 he
    refine ⟨n, ?_, by have := bounds_u8 hw; omega⟩
    have := congrArg (·[0]?) hc
    simpa [Value.cells, List.getElem?_take, List.getElem?_drop] using this
  refine ⟨(List.range 32).map fun i => zOf (cs[i]?.getD undef), ?_, by simp, fun i hi => ?_⟩
  · unfold byteA
    congr 1
    apply Array.ext'
    apply List.ext_getElem?
    intro i
    by_cases hi : i < 32
    · obtain ⟨n, hn, _⟩ := key i hi
      rw [Array.getElem?_toList]
      simp [hn, hi, zOf]
    · rw [List.getElem?_eq_none (by simp; omega), List.getElem?_eq_none (by simp; omega)]
  · obtain ⟨n, hn, h0, h1⟩ := key i hi
    rw [List.getElem?_map, List.getElem?_range hi]
    simp [hn, zOf, h0, h1]
end Go.Proofs.YtnpcocjjmajifaaDoor
