/- A command that came in, opened; its bytes are within the reach of a machine. -/
import Derived.Lib.SmallJoins
import Derived.SizedLaws
import Derived.Test.Ytifdeeaoaekokaa00Open
import Derived.Test.Ytifdeeaoaekokaa04Check
namespace Go.Proofs.Ytifdeeaoaekokaa
open Go.ChangeShapes Go.WideShapes Go.RowKit Go.Deep Go.Joins
set_option linter.unusedVariables false

theorem array5 {α : Type} {cs : Array α} (h : cs.size = 5) : ∃ c0 c1 c2 c3 c4, cs = #[c0, c1, c2, c3, c4] := by
  obtain ⟨l⟩ := cs
  match l, h with
  | [c0, c1, c2, c3, c4], _ => exact ⟨c0, c1, c2, c3, c4, rfl⟩
section
variable {H : Type} {enc : TypeId × Value → H} {P : Program} {w : World} {base : Nat} {spare : Nat → Bool} {held : Bool}
theorem trod_struct5 {t : TypeId} {f0 f1 f2 f3 f4 : Field} {fuel : Nat} {cs : List Value} {x : DataW H × List MemPlace} (ht : P.underlying t = some (.struct #[f0, f1, f2, f3, f4])) (h : DataW.trod enc P w base spare held fuel t cs = some x) :
    ∃ y0 y1 y2 y3 y4 n, x = (.agg [y0.1, y1.1, y2.1, y3.1, y4.1], y0.2 ++ (y1.2 ++ (y2.2 ++ (y3.2 ++ y4.2)))) ∧ cs.length = P.cellsOf t ∧ DataW.trod enc P w base spare held n f0.type ((cs.drop f0.offset).take (P.cellsOf f0.type)) = some y0 ∧
      DataW.trod enc P w base spare held n f1.type ((cs.drop f1.offset).take (P.cellsOf f1.type)) = some y1 ∧ DataW.trod enc P w base spare held n f2.type ((cs.drop f2.offset).take (P.cellsOf f2.type)) = some y2 ∧
      DataW.trod enc P w base spare held n f3.type ((cs.drop f3.offset).take (P.cellsOf f3.type)) = some y3 ∧ DataW.trod enc P w base spare held n f4.type ((cs.drop f4.offset).take (P.cellsOf f4.type)) = some y4 := by
  obtain ⟨xs, n, _, rfl, hl, hlen, hf⟩ := DataW.trod_struct ht h
  match xs, hlen with
  | [y0, y1, y2, y3, y4], _ => exact ⟨y0, y1, y2, y3, y4, n, by simp, hl, by simpa using hf 0 f0 rfl, by simpa using hf 1 f1 rfl, by simpa using hf 2 f2 rfl, by simpa using hf 3 f3 rfl, by simpa using hf 4 f4 rfl⟩
theorem open_agg5 {r : Reach} {b0 : Nat} {t : TypeId} {f0 f1 f2 f3 f4 : Field} {v : Value} {d : DataW H} {p : List MemPlace} (hs : P.underlying t = some (.struct #[f0, f1, f2, f3, f4])) (hone : oneCellFields P #[f0, f1, f2, f3, f4] = true) (hC : P.cellsOf t = 5)
    (hv : Value.okWide P w r b0 t v) (h : DataW.Trod enc P w base spare held t v d p) :
    ∃ (v0 v1 v2 v3 v4 : Value) (y0 y1 y2 y3 y4 : DataW H × List MemPlace) (n : Nat), v = .agg #[v0, v1, v2, v3, v4] ∧ d = .agg [y0.1, y1.1, y2.1, y3.1, y4.1] ∧
      DataW.trod enc P w base spare held n f0.type [v0] = some y0 ∧ DataW.trod enc P w base spare held n f1.type [v1] = some y1 ∧ DataW.trod enc P w base spare held n f2.type [v2] = some y2 ∧ DataW.trod enc P w base spare held n f3.type [v3] = some y3 ∧ DataW.trod enc P w base spare held n f4.type [v4] = some y4 := by
  obtain ⟨cs, rfl, hsz⟩ := okWide_struct hs hv
  obtain ⟨c0, c1, c2, c3, c4, rfl⟩ := array5 (hsz.trans hC)
  obtain ⟨fuel, hf⟩ := h
  obtain ⟨y0, y1, y2, y3, y4, n, hx, _, h0, h1, h2, h3, h4⟩ := trod_struct5 hs hf
  obtain ⟨o0, k0⟩ := hone_of hone 0 f0 rfl
  obtain ⟨o1, k1⟩ := hone_of hone 1 f1 rfl
  obtain ⟨o2, k2⟩ := hone_of hone 2 f2 rfl
  obtain ⟨o3, k3⟩ := hone_of hone 3 f3 rfl
  obtain ⟨o4, k4⟩ := hone_of hone 4 f4 rfl
  simp only [Prod.mk.injEq] at hx
  exact ⟨c0, c1, c2, c3, c4, y0, y1, y2, y3, y4, n, rfl, hx.1, by simpa [Value.cells, o0, k0] using h0, by simpa [Value.cells, o1, k1] using h1, by simpa [Value.cells, o2, k2] using h2, by simpa [Value.cells, o3, k3] using h3, by simpa [Value.cells, o4, k4] using h4⟩
end

/-- A datum of bytes: how many places it has. -/
def DatumOf {H : Type} (d : DataW H) (cap : Nat) : Prop := (d = .nil ∧ cap = 0) ∨ ∃ e s : List (DataW H), d = .slice e s ∧ e.length + s.length = cap
theorem datum_bytes {H : Type} {enc : TypeId × Value → H} {w : World} {base : Nat} {held : Bool} {a : Option Addr} {len cap : Nat} {d : DataW H} {p : List MemPlace}
    (h : DataW.Trod enc Try.prog w base (fun _ => true) held 40 (.slice a len cap) d p) : DatumOf d cap := by
  obtain ⟨fuel, hf⟩ := h
  rcases open_ints Try.underlying40 Try.underlying5 (by kernel_rfl) hf with ⟨hcs, hx⟩ | ⟨ad, len', cap', zs, hcs, _, hl, hm, hz, hx, hc, hwz⟩
  · simp [Value.cells] at hcs
    simp only [Prod.mk.injEq] at hx
    exact .inl ⟨hx.1, hcs.2.2⟩
  · simp [Value.cells] at hcs
    obtain ⟨rfl, rfl, rfl⟩ := hcs
    simp only [Prod.mk.injEq] at hx
    simp at hz
    refine .inr ⟨_, _, hx.1, ?_⟩
    simp [lits]
    omega

theorem open_cmd {H : Type} {enc : TypeId × Value → H} {w : World} {r : Reach} {b0 base : Nat} {held : Bool} {v : Value} {d : DataW H} {p : List MemPlace} (hv : Value.okWide Try.prog w r b0 42 v)
    (h : DataW.Trod enc Try.prog w base (fun _ => true) held 42 v d p) :
    ∃ (k t f n : Int) (a : Option Addr) (l : List Int) (cap : Nat), v = cmdV k t f n (.slice a l.length cap) ∧ (I64 k ∧ I64 t ∧ I64 f ∧ I64 n) ∧ BytesIn w a l cap ∧ OkB l ∧ ∃ y0 y1 y2 y3 y4, d = .agg [y0, y1, y2, y3, y4] ∧ DatumOf y4 cap := by
  obtain ⟨v0, v1, v2, v3, v4, y0, y1, y2, y3, y4, m, rfl, rfl, hy0, hy1, hy2, hy3, hy4⟩ := open_agg5 Try.underlying42 (by kernel_rfl) (by kernel_rfl) hv h
  obtain ⟨k, ek, _, wk⟩ := DataW.trod_int Try.underlying3 hy0
  obtain ⟨t, et, _, wt⟩ := DataW.trod_int Try.underlying3 hy1
  obtain ⟨f, ef, _, wf⟩ := DataW.trod_int Try.underlying3 hy2
  obtain ⟨n, en, _, wn⟩ := DataW.trod_int Try.underlying3 hy3
  obtain ⟨a, len, cap, e4⟩ := slice_form Try.underlying40 hy4
  simp only [List.cons.injEq, and_true] at ek et ef en e4
  subst ek et ef en e4
  have h4 : DataW.Trod enc Try.prog w base (fun _ => true) held 40 (.slice a len cap) y4.1 y4.2 := ⟨m, by simpa [Value.cells] using hy4⟩
  obtain ⟨l, rfl, hb, hok⟩ := open_bytes_wf h4
  exact ⟨k, t, f, n, a, l, cap, rfl, ⟨bounds_i64 wk, bounds_i64 wt, bounds_i64 wf, bounds_i64 wn⟩, hb, hok, y0.1, y1.1, y2.1, y3.1, y4.1, rfl, datum_bytes h4⟩

/-- What the reach says of a command's bytes. -/
theorem cmd_reach {H : Type} {ts : List TypeId} {ds : List (DataW H)} (h : (DataW.weightsEach Try.prog ts ds).all (· ≤ reachBytes) = true) {j : Nat} {y0 y1 y2 y3 y4 : DataW H} {cap : Nat} (ht : ts[j]? = some 42) (hd : ds[j]? = some (.agg [y0, y1, y2, y3, y4])) (h4 : DatumOf y4 cap) : cap ≤ reachBytes := by
  rcases h4 with ⟨_, rfl⟩ | ⟨e, s, rfl, hc⟩
  · omega
  · have hb : Try.prog.bytesOf 5 = 1 := by kernel_rfl
    have := List.all_eq_true.1 h _ (DataW.weights_mem_each ht hd ((e.length + s.length) * Try.prog.bytesOf 5) (by simp [DataW.weights, DataW.weightsEach, Try.underlying42, Try.underlying40]))
    simp only [decide_eq_true_eq] at this
    rw [hb] at this
    omega

end Go.Proofs.Ytifdeeaoaekokaa
