/- Slices of bytes, and slices of them, that came in, opened. -/
import Derived.ProofKit
import Derived.OpenShut
import Derived.ChangeOld
import Derived.Deep.Matrix
import Derived.Test.Ytclalbiggnalfaa00Bytes
namespace Go.Proofs.Ytclalbiggnalfaa
open Go.ChangeShapes Go.WideShapes Go.RowKit Go.Deep
set_option linter.unusedVariables false

/-- Bytes within their bounds. -/
def OkB (l : List Int) : Prop := ∀ x ∈ l, 0 ≤ x ∧ x < 256
theorem open_bytes_wf {H : Type} {enc : TypeId × Value → H} {w : World} {base : Nat} {held : Bool} {a : Option Addr} {len cap : Nat} {d : DataW H} {p : List MemPlace}
    (h : DataW.Trod enc Try.prog w base (fun _ => true) held 22 (.slice a len cap) d p) : ∃ l : List Int, l.length = len ∧ BytesIn w a l cap ∧ OkB l := by
  obtain ⟨fuel, hf⟩ := h
  rcases open_ints Try.underlying22 Try.underlying5 (by kernel_rfl) hf with ⟨hcs, _⟩ | ⟨ad, len', cap', zs, hcs, _, hl, hm, hz, _, hc, hwz⟩
  · simp [Value.cells] at hcs
    obtain ⟨rfl, rfl, rfl⟩ := hcs
    exact ⟨[], rfl, ⟨by simp, by omega, fun h => absurd h (by simp), fun _ => rfl⟩, fun x hx => absurd hx (by simp)⟩
  · simp [Value.cells] at hcs
    obtain ⟨rfl, rfl, rfl⟩ := hcs
    simp at hz
    refine ⟨zs.take len, by rw [List.length_take]; omega, ⟨by rw [List.length_take]; omega, by unfold maxLen at hm; omega, fun h0 => ?_, fun h => by cases h⟩, fun x hx => ?_⟩
    · rw [List.length_take] at h0
      obtain ⟨b, o, s⟩ := ad
      have hsp : s = none := by simpa [Addr.add] using World.cell?_spot (hc 0 (by omega))
      subst hsp
      refine ⟨b, o, rfl, fun i hi => ?_⟩
      rw [List.length_take] at hi
      have := hc i (by omega)
      rw [Addr.add_mid] at this
      rw [this, List.getElem?_take, if_pos (by omega), List.getD]
    · have := bounds_u8 (hwz x (List.mem_of_mem_take hx))
      omega
theorem open_bytes {H : Type} {enc : TypeId × Value → H} {w : World} {base : Nat} {held : Bool} {a : Option Addr} {len cap : Nat} {d : DataW H} {p : List MemPlace}
    (h : DataW.Trod enc Try.prog w base (fun _ => true) held 22 (.slice a len cap) d p) : ∃ l : List Int, l.length = len ∧ BytesIn w a l cap := by
  obtain ⟨l, h1, h2, _⟩ := open_bytes_wf h
  exact ⟨l, h1, h2⟩
end Go.Proofs.Ytclalbiggnalfaa
