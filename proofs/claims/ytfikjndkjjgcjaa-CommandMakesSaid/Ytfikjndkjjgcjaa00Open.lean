/- Slices of bytes, and slices of them, that came in, opened. -/
import Derived.ProofKit
import Derived.OpenShut
import Derived.ChangeOld
import Derived.Deep.Matrix
import Derived.Test.Ytfikjndkjjgcjaa00Bytes
namespace Go.Proofs.Ytfikjndkjjgcjaa
open Go.ChangeShapes Go.WideShapes Go.RowKit Go.Deep
set_option linter.unusedVariables false

/-- Bytes within their bounds. -/
def OkB (l : List Int) : Prop := ∀ x ∈ l, 0 ≤ x ∧ x < 256
theorem open_bytes_wf {H : Type} {enc : TypeId × Value → H} {w : World} {base : Nat} {held : Bool} {a : Option Addr} {len cap : Nat} {d : DataW H} {p : List MemPlace}
    (h : DataW.Trod enc Try.prog w base (fun _ => true) held 25 (.slice a len cap) d p) : ∃ l : List Int, l.length = len ∧ BytesIn w a l cap ∧ OkB l := by
  obtain ⟨fuel, hf⟩ := h
  rcases open_ints Try.underlying25 Try.underlying5 (by kernel_rfl) hf with ⟨hcs, _⟩ | ⟨ad, len', cap', zs, hcs, _, hl, hm, hz, _, hc, hwz⟩
  · simp [Value.cells] at hcs
    obtain ⟨rfl, rfl, rfl⟩ := hcs
    exact ⟨[], rfl, ⟨by simp, by omega, fun h => absurd h (by simp), fun _ => rfl⟩, fun x hx => absurd hx (by simp)⟩
  · simp [Value.cells] at hcs
    obtain ⟨rfl, rfl, rfl⟩ := hcs
    simp at hz
    refine ⟨zs.take len, by rw [List.length_take]; omega, ⟨by rw [List.length_take]; omega, by unfold maxLen at hm; omega, fun h0 => ?_, fun h => by cases h⟩, fun x hx => ?_⟩
    · rw [List.length_take] at h0
      obtain ⟨b, o, s⟩ := ad
      have hsp : s = none := by simpa [Addr.add] using World.cell?_spot (hc 0 (by omega))
      subst hsp
      refine ⟨b, o, rfl, fun i hi => ?_⟩
      rw [List.length_take] at hi
      have := hc i (by omega)
      rw [Addr.add_mid] at this
      rw [this, List.getElem?_take, if_pos (by omega), List.getD]
    · have := bounds_u8 (hwz x (List.mem_of_mem_take hx))
      omega
theorem open_bytes {H : Type} {enc : TypeId × Value → H} {w : World} {base : Nat} {held : Bool} {a : Option Addr} {len cap : Nat} {d : DataW H} {p : List MemPlace}
    (h : DataW.Trod enc Try.prog w base (fun _ => true) held 25 (.slice a len cap) d p) : ∃ l : List Int, l.length = len ∧ BytesIn w a l cap := by
  obtain ⟨l, h1, h2, _⟩ := open_bytes_wf h
  exact ⟨l, h1, h2⟩
theorem open_parts {H : Type} {enc : TypeId × Value → H} {w : World} {base : Nat} {held : Bool} {a : Option Addr} {len cap : Nat} {d : DataW H} {p : List MemPlace}
    (h : DataW.Trod enc Try.prog w base (fun _ => true) held 23 (.slice a len cap) d p) : ∃ ls : List (List Int), ls.length = len ∧ PartsIn w a ls := by
  obtain ⟨fuel, hf⟩ := h
  rcases open_int_rows Try.underlying23 Try.underlying25 Try.underlying5 (by kernel_rfl) (by kernel_rfl) hf with ⟨hcs, _⟩ | ⟨ad, len', cap', A, L, C, Z, hcs, _, hl, hm, _, hr⟩
  · simp [Value.cells] at hcs
    obtain ⟨rfl, rfl, rfl⟩ := hcs
    exact ⟨[], rfl, ⟨by simp, fun h => absurd h (by simp)⟩⟩
  · simp [Value.cells] at hcs
    obtain ⟨rfl, rfl, rfl⟩ := hcs
    refine ⟨(List.range len).map fun r => (Z r).take (L r), by simp, ⟨by simp; unfold maxLen at hm; omega, fun h0 => ?_⟩⟩
    have hlen : ((List.range len).map fun r => (Z r).take (L r)).length = len := by simp
    rw [hlen] at h0
    obtain ⟨b, o, s⟩ := ad
    have hsp : s = none := by simpa [Addr.add] using World.cell?_spot (hr 0 (by omega)).1
    subst hsp
    refine ⟨b, o, rfl, fun i hi => ?_⟩
    rw [hlen] at hi
    obtain ⟨h1, h2, h3, h4, _, h6, h7⟩ := hr i (by omega)
    rw [Addr.add_mid] at h1
    have hp : partOf ((List.range len).map fun r => (Z r).take (L r)) i = (Z i).take (L i) := by
      unfold partOf
      rw [List.getElem?_map, List.getElem?_range hi]
      rfl
    have hpl : ((Z i).take (L i)).length = L i := by rw [List.length_take]; omega
    rw [hp, hpl]
    refine ⟨A i, C i, h1, ⟨by rw [hpl]; exact h2, by unfold maxLen at h3; omega, fun hz => ?_, h6⟩⟩
    rw [hpl] at hz
    cases hA : A i with
    | none => have := h6 hA; omega
    | some a' =>
      obtain ⟨_, hc⟩ := h7 a' hA
      obtain ⟨b', o', s'⟩ := a'
      have hsp : s' = none := by simpa [Addr.add] using World.cell?_spot (hc 0 (by omega))
      subst hsp
      refine ⟨b', o', rfl, fun j hj => ?_⟩
      rw [hpl] at hj
      have := hc j (by omega)
      rw [Addr.add_mid] at this
      rw [this, List.getElem?_take, if_pos hj, List.getD]
end Go.Proofs.Ytfikjndkjjgcjaa
