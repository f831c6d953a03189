/- Pieces of slices that came in: s[:n], s[n:]: the walk uses these equations where it does not know that n is within the capacity. -/
import Derived.Test.Ytclalbiggnalfaa00Clone8
namespace Go.Proofs.Ytclalbiggnalfaa
open Go.RowKit
set_option linter.unusedVariables false

theorem size_u8 (w : World) : (sizeOf (Try.prog.elem 22)).run Try.prog w = .ok 1 w := by kernel_rfl
/-- What came in as a slice of slices of bytes. -/
structure PartsOf (w : World) (pa : Option Addr) (ls : List (List Int)) (cap : Nat) : Prop where
  parts : PartsIn w pa ls
  le : ls.length ≤ cap
  capb : cap ≤ 9223372036854775807
  nil : pa = none → cap = 0

theorem PartsIn.below {w w' : World} {pa : Option Addr} {ls : List (List Int)} (h : PartsIn w pa ls) (hb : Below w.heap.size w w') : PartsIn w' pa ls := ⟨h.len, fun hp => by
  obtain ⟨b, o, rfl, hc⟩ := h.cells hp
  refine ⟨b, o, rfl, fun i hi => ?_⟩
  obtain ⟨a, cap, h1, h2⟩ := hc i hi
  exact ⟨a, cap, (hb.cell (p := ⟨b, o + i, none⟩) (World.block_lt_of_cell? _ _ h1)).trans h1, h2.below hb⟩⟩
theorem PartsOf.below {w w' : World} {pa : Option Addr} {ls : List (List Int)} {cap : Nat} (h : PartsOf w pa ls cap) (hb : Below w.heap.size w w') : PartsOf w' pa ls cap := ⟨h.parts.below hb, h.le, h.capb, h.nil⟩

theorem partOf_drop (ls : List (List Int)) (n i : Nat) : partOf (ls.drop n) i = partOf ls (n + i) := by unfold partOf; rw [List.getElem?_drop]
theorem partOf_take (ls : List (List Int)) {n i : Nat} (h : i < n) : partOf (ls.take n) i = partOf ls i := by unfold partOf; rw [List.getElem?_take, if_pos h]

theorem cutb_h {w : World} {a : Option Addr} {l : List Int} {cap : Nat} (h : BytesIn w a l cap) (n : Nat) (hn : n ≤ l.length) :
    ∃ A, (∀ W, (Instr.slice 22 (.slice a l.length cap) none (some (.int .i64 (n : Int))) none).run Try.prog W = .ok (.slice A n cap) W) ∧ BytesIn w A (l.take n) cap := by
  refine ⟨if cap = 0 then a else a.map (·.add (0 * 1)), fun W => ?_, by rw [List.length_take]; have := h.len; omega, h.capb, fun hp => ?_, fun h0 => ?_⟩
  · rw [run_slice_h (P := Try.prog) W 22 a l.length cap (by kernel_rfl) .i64 (n : Int) (by omega) (by have := h.len; omega), size_u8]
    simp only [Result.andThen_ok, sliced, Int.toNat_natCast, Nat.sub_zero]
  · rw [List.length_take] at hp
    obtain ⟨b, o, rfl, hc⟩ := h.cells (by omega)
    have := h.len
    rw [if_neg (by omega)]
    refine ⟨b, o, by simp [Addr.add_mid], fun i hi => ?_⟩
    rw [List.length_take] at hi
    rw [hc i (by omega), List.getElem?_take, if_pos (by omega)]
  · by_cases hc : cap = 0
    · exact hc
    · rw [if_neg hc] at h0
      cases a with
      | none => exact h.nil rfl
      | some ad => cases h0
end Go.Proofs.Ytclalbiggnalfaa
