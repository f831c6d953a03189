/- CommandParts returns true for every command and extent, and changes nothing that was there. -/
import Derived.Laws.StructEq
import Derived.Test.Ytifdeeaoaekokaa04Lit
import Derived.Test.Ytifdeeaoaekokaa04LawExtents
namespace Go.Proofs.Ytifdeeaoaekokaa
open Go.RowKit Go.Shelf Go.Proofs.Ytifdeeaoaekokaa.Plain01
set_option linter.unusedVariables false
set_option linter.unusedSimpArgs false

/-- The cells of a boxed command, in whatever later world. -/
theorem cmd_later {w1 : World} {b : Nat} {k t f n : Int} {v : Value} (h : w1.heap[b]? = some (cmdO k t f n v)) : ∀ W, Below w1.heap.size w1 W →
    W.cell? ⟨b, 0, none⟩ = some (.int .i64 k) ∧ W.cell? ⟨b, 1, none⟩ = some (.int .i64 t) ∧ W.cell? ⟨b, 2, none⟩ = some (.int .i64 f) ∧ W.cell? ⟨b, 3, none⟩ = some (.int .i64 n) ∧ W.cell? ⟨b, 4, none⟩ = some v := fun W hW => cmd_cells (heap_below h hW)
theorem ext_later {w1 : World} {b : Nat} {x : Int × Int} (h : w1.heap[b]? = some (extO x)) : ∀ W, Below w1.heap.size w1 W → W.cell? ⟨b, 0, none⟩ = some (.int .i64 x.1) ∧ W.cell? ⟨b, 1, none⟩ = some (.int .i64 x.2) := fun W hW =>
  ⟨(ext_cells (heap_below h hW)).1, (ext_cells (heap_below h hW)).2.1⟩
theorem IsOwn.bytes {base : Nat} {mk : Value → Value} {Q : List Int} {v : Value} {W : World} (h : IsOwn base mk Q v W) (hb : base ≤ W.heap.size) : ∃ A C, v = mk (.slice A Q.length C) ∧ BytesIn W A Q C := by
  obtain ⟨A, C, hv, h1, h2⟩ := h
  refine ⟨A, C, hv, ?_⟩
  rcases h2 with ⟨h3, h0⟩ | ⟨g, cap, cur, h3, hg, hbk, hc, hm, hs, ht⟩
  · have h4 := List.eq_nil_of_length_eq_zero h0
    subst h4
    simp at h3
    obtain ⟨rfl, rfl⟩ := h3
    exact bytes_nil W
  · simp at h3
    obtain ⟨rfl, rfl⟩ := h3
    refine ⟨hc, by unfold maxLen at hm; omega, fun hp => ⟨g, 0, rfl, fun i hi => ?_⟩, fun h => by cases h⟩
    rw [Nat.zero_add, cell_of hbk]
    have : (cur.toList.take (Q.length * 1))[i]? = (Q.map (Value.int .u8))[i]? := by rw [ht]
    rw [List.getElem?_take, if_pos (by omega), List.getElem?_map, List.getElem?_eq_getElem hi] at this
    rw [List.getElem?_eq_getElem hi]
    simpa using this

/-- Bytes in a block that is known whole. -/
theorem bytes_block {W : World} {g C m : Nat} {cur : Array Value} {Q : List Int} {t : TypeId} {fr : Nat × Nat} (h : W.heap[g]? = some (.cells cur t fr)) (hQ : Q.length = m) (h1 : m ≤ C) (h2 : C ≤ 9223372036854775807) (hc : ∀ (j : Nat) (u : Value), (Q.map (Value.int .u8))[j]? = some u → cur[j]? = some u) : BytesIn W (some ⟨g, 0, none⟩) Q C :=
  ⟨by omega, h2, fun hp => ⟨g, 0, rfl, fun i hi => by
    rw [Nat.zero_add, cell_of_row W g _ _ _ _ h]
    exact hc i _ (by rw [List.getElem?_map, List.getElem?_eq_getElem hi]; rfl)⟩, fun h => by cases h⟩

end Go.Proofs.Ytifdeeaoaekokaa
