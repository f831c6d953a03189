/- Bytes are appended to an empty slice without room: a new slice of its own. -/
import Derived.Deep.AppendSrc
import Derived.Test.Ytifdeeaoaekokaa00LooseT
namespace Go.Proofs.Ytifdeeaoaekokaa
open Go.RowKit
set_option linter.unusedVariables false

/-- An empty slice without room. -/
def IsE : Value → World → Prop := fun v _ => ∃ p, v = .slice p 0 0
theorem stable_E : Stable (fun W W' => Below W.heap.size W W') IsE := fun v w w' h _ => h

theorem run_append_fresh {W : World} {A : Option Addr} {Q : List Int} {c m : Nat} (hm : Q.length = m) (hb : BytesIn W A Q c) (h0 : 0 < m) (hmx : m ≤ 140737488355328) {base : Nat} (hbase : base ≤ W.heap.size) (p : Option Addr) (ty : TypeId) :
    ∃ v' W', (Builtin.append_ #[40, 40] ty #[.slice p 0 0, .slice A m c]).run Try.prog W = .ok v' W' ∧ IsOwn base (fun v => v) Q v' W' ∧ Below W.heap.size W W' := by
  obtain ⟨E, hE⟩ := elem8
  subst hm
  obtain ⟨b, o, rfl, hc⟩ := hb.cells h0
  have hold : (Builtin.firstCells E.i.size 0 (.slice p 0 0)).run Try.prog W.drew = .ok ([] : List Value).toArray W.drew := by
    cases p with
    | none => exact run_firstCells_none W.drew E.i.size 0 0 0
    | some q => exact run_firstCells_some W.drew E.i.size 0 q 0 0 [] (by simp) (fun j v hj => by simp at hj)
  have hsrc := _root_.Go.Src.ofSlice (P := Try.prog) W (size := E.i.size) (tx := 40) Try.underlying40 ⟨b, o, none⟩ Q.length c (Q.map (Value.int .u8)) (by rw [List.length_map, E.hsize, Nat.mul_one]) (hb.news _ rfl) (one_bytes _)
  have hrun := run_append_grow_src (P := Try.prog) W 40 40 ty 5 E.i E.z E.ht E.hi E.hz p 0 0 [] hold _ Q.length _ hsrc (by omega) (by omega) (growslice_fits (by omega) (by rw [E.hby, hE]; omega))
  rw [Nat.zero_add] at hrun
  have hG := grownCap_ge W Q.length 0 5
  have hG2 := grownCap_le_maxLen W Q.length 0 5 (by unfold maxLen; omega)
  generalize grownCap W Q.length 0 5 = G at hrun hG hG2
  refine ⟨_, _, hrun, ⟨_, G, rfl, by rw [List.length_map]; omega, .inr ⟨W.heap.size, G, _, rfl, hbase, heap_alloc_new W.drew _, hG, hG2, ?_, ?_⟩⟩, (Below.refl _ W).drew.alloc (Nat.le_refl _) _⟩
  · simp only [List.nil_append, Array.size_append, List.size_toArray, size_zeroCells, E.hzs, List.length_map]
    omega
  · simp only [List.nil_append, Array.toList_append, Nat.mul_one]
    rw [show Q.length = (Q.map (Value.int .u8)).length by rw [List.length_map]]
    exact List.take_left
end Go.Proofs.Ytifdeeaoaekokaa
