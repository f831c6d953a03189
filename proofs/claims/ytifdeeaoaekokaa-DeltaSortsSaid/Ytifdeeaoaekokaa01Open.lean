/- A slice of extents that came in, opened. -/
import Derived.ProofKit
import Derived.OpenShut
import Derived.Deep.Slices
import Derived.Test.Ytifdeeaoaekokaa01Contains
namespace Go.Proofs.Ytifdeeaoaekokaa
open Go.ChangeShapes Go.WideShapes Go.RowKit Go.Deep

theorem open_exts {H : Type} {enc : TypeId × Value → H} {P : Program} {w : World} {base : Nat} {held : Bool} {t e : TypeId} {f0 f1 : Field} {a : Option Addr} {len cap : Nat} {d : DataW H} {p : List MemPlace}
    (ht : P.underlying t = some (.slice e)) (he : P.underlying e = some (.struct #[f0, f1])) (ho : f0.offset = 0 ∧ f1.offset = 1 ∧ P.cellsOf f0.type = 1 ∧ P.cellsOf f1.type = 1 ∧ P.cellsOf e = 2) (h0 : P.underlying f0.type = some (.int .i64)) (h1 : P.underlying f1.type = some (.int .i64))
    (h : DataW.Trod enc P w base (fun _ => true) held t (.slice a len cap) d p) :
    ∃ f : Nat → Int × Int, len ≤ maxLen ∧ ExtSlice w a len f ∧ ∀ i, i < len → I64 (f i).1 ∧ I64 (f i).2 := by
  obtain ⟨o0, o1, c0, c1, ce⟩ := ho
  obtain ⟨fuel, hf⟩ := h
  rcases open_slice ht hf with ⟨hcs, _⟩ | ⟨ad, len', cap', m, n, D, Pl, hcs, _, hl, hm, hmm, _, hi⟩
  · simp [Value.cells] at hcs
    obtain ⟨rfl, rfl, rfl⟩ := hcs
    exact ⟨fun _ => (0, 0), Nat.zero_le _, fun h => absurd h (by omega), fun i hi => absurd hi (by omega)⟩
  · simp [Value.cells] at hcs
    obtain ⟨rfl, rfl, rfl⟩ := hcs
    simp at hmm
    subst hmm
    have hex : ∀ i, i < len → ∃ x : Int × Int, (w.cell? (ad.add (i * 2)) = some (.int .i64 x.1) ∧ w.cell? (ad.add (i * 2 + 1)) = some (.int .i64 x.2)) ∧ I64 x.1 ∧ I64 x.2 := fun i hlt => by
      obtain ⟨cs', h1', h2⟩ := hi i (by omega)
      rw [ce] at h1'
      obtain ⟨_, hlen, hat⟩ := World.cells?_some h1'
      obtain ⟨y0, y1, n', _, _, t0, t1⟩ := trod_struct2 he h2
      rw [o0, c0] at t0
      rw [o1, c1] at t1
      match cs', hlen with
      | [u0, u1], _ =>
        obtain ⟨b0, e0, _, w0⟩ := DataW.trod_int h0 t0
        obtain ⟨b1, e1, _, w1⟩ := DataW.trod_int h1 t1
        simp at e0 e1
        subst e0 e1
        have a0 := hat 0 (by omega)
        have a1 := hat 1 (by omega)
        rw [add_add] at a0 a1
        exact ⟨(b0, b1), ⟨by simpa using a0, by simpa using a1⟩, bounds_i64 w0, bounds_i64 w1⟩
    obtain ⟨f, hf'⟩ := choose_lt (α := Int × Int) (p := fun i x => (w.cell? (ad.add (i * 2)) = some (.int .i64 x.1) ∧ w.cell? (ad.add (i * 2 + 1)) = some (.int .i64 x.2)) ∧ I64 x.1 ∧ I64 x.2) hex
    refine ⟨f, by omega, fun hn => ?_, fun i hi => (hf' i hi).2⟩
    obtain ⟨b, o, s⟩ := ad
    have hsp : s = none := by simpa [Addr.add] using World.cell?_spot (hf' 0 hn).1.1
    subst hsp
    refine ⟨b, o, rfl, fun i hi => ?_⟩
    have e : ∀ j, (⟨b, o, none⟩ : Addr).add j = ⟨b, o + j, none⟩ := fun j => by simp [Addr.add]
    have hx := (hf' i hi).1
    rw [e, e] at hx
    exact ⟨hx.1, hx.2⟩
end Go.Proofs.Ytifdeeaoaekokaa
