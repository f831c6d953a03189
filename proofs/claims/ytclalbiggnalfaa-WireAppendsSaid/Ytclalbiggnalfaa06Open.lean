/- Slices of fields and of calls that came in, opened. -/
import Derived.ProofKit
import Derived.OpenShut
import Derived.ChangeOld
import Derived.Deep.Slices
import Derived.Lib.SmallJoins
import Derived.Test.Ytclalbiggnalfaa00Open
import Derived.Test.Ytclalbiggnalfaa06App
namespace Go.Proofs.Ytclalbiggnalfaa
open Go.ChangeShapes Go.WideShapes Go.RowKit Go.Deep Go.Joins
set_option linter.unusedVariables false

theorem open_fields {H : Type} {enc : TypeId × Value → H} {w : World} {base : Nat} {held : Bool} {t e : TypeId} {f0 f1 : Field} {a : Option Addr} {len cap : Nat} {d : DataW H} {p : List MemPlace}
    (ht : Try.prog.underlying t = some (.slice e)) (he : Try.prog.underlying e = some (.struct #[f0, f1])) (ho : f0.offset = 0 ∧ f1.offset = 1 ∧ Try.prog.cellsOf f0.type = 1 ∧ Try.prog.cellsOf f1.type = 1 ∧ Try.prog.cellsOf e = 2) (h0 : Try.prog.underlying f0.type = some (.int .u64)) (h1 : Try.prog.underlying f1.type = some (.int .i64))
    (h : DataW.Trod enc Try.prog w base (fun _ => true) held t (.slice a len cap) d p) : ∃ fs : List (Int × Int), fs.length = len ∧ FieldsIn w a fs cap := by
  obtain ⟨o0, o1, c0, c1, ce⟩ := ho
  obtain ⟨fuel, hf⟩ := h
  rcases open_slice ht hf with ⟨hcs, _⟩ | ⟨ad, len', cap', m, n, D, Pl, hcs, _, hl, hm, hmm, _, hi⟩
  · simp [Value.cells] at hcs
    obtain ⟨rfl, rfl, rfl⟩ := hcs
    exact ⟨[], rfl, by simp, by omega, fun h => absurd h (by simp), fun f hf => by simp at hf⟩
  · simp [Value.cells] at hcs
    obtain ⟨rfl, rfl, rfl⟩ := hcs
    simp at hmm
    subst hmm
    have hex : ∀ i, i < len → ∃ x : Int × Int, (w.cell? (ad.add (i * 2)) = some (.int .u64 x.1) ∧ w.cell? (ad.add (i * 2 + 1)) = some (.int .i64 x.2)) ∧ (0 ≤ x.1 ∧ x.1 < 18446744073709551616) ∧ (-9223372036854775808 ≤ x.2 ∧ x.2 ≤ 9223372036854775807) := fun i hlt => by
      obtain ⟨cs', h1', h2⟩ := hi i (by omega)
      rw [ce] at h1'
      obtain ⟨_, hlen, hat⟩ := World.cells?_some h1'
      obtain ⟨y0, y1, n', _, _, t0, t1⟩ := trod_struct2 he h2
      rw [o0, c0] at t0
      rw [o1, c1] at t1
      match cs', hlen with
      | [u0, u1], _ =>
        obtain ⟨b0, e0, _, w0⟩ := DataW.trod_int h0 t0
        obtain ⟨b1, e1, _, w1⟩ := DataW.trod_int h1 t1
        simp at e0 e1
        subst e0 e1
        have a0 := hat 0 (by omega)
        have a1 := hat 1 (by omega)
        rw [add_add] at a0 a1
        have wb := bounds_u64 w0
        exact ⟨(b0, b1), ⟨by simpa using a0, by simpa using a1⟩, by simp only; omega, bounds_i64 w1⟩
    obtain ⟨f, hf'⟩ := choose_lt (α := Int × Int) (p := fun i x => (w.cell? (ad.add (i * 2)) = some (.int .u64 x.1) ∧ w.cell? (ad.add (i * 2 + 1)) = some (.int .i64 x.2)) ∧ (0 ≤ x.1 ∧ x.1 < 18446744073709551616) ∧ (-9223372036854775808 ≤ x.2 ∧ x.2 ≤ 9223372036854775807)) hex
    refine ⟨(List.range len).map f, by simp, by simp; exact hl, by unfold maxLen at hm; omega, fun hp => ?_, fun x hx => ?_⟩
    · have hp' : 0 < len := by simpa using hp
      obtain ⟨b, o, s⟩ := ad
      have hsp : s = none := by simpa [Addr.add] using World.cell?_spot (hf' 0 hp').1.1
      subst hsp
      refine ⟨b, o, rfl, fun i x hx => ?_⟩
      have hil : i < len := by have := (List.getElem?_eq_some_iff.1 hx).1; simpa using this
      rw [List.getElem?_map, List.getElem?_range hil] at hx
      simp at hx
      subst hx
      have := (hf' i hil).1
      rw [Addr.add_mid, Addr.add_mid] at this
      exact ⟨this.1, by rw [Nat.add_assoc]; exact this.2⟩
    · obtain ⟨i, hi, rfl⟩ := List.mem_map.1 hx
      exact (hf' i (List.mem_range.1 hi)).2
end Go.Proofs.Ytclalbiggnalfaa
