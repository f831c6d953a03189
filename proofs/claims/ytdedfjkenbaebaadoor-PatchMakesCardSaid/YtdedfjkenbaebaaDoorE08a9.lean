import Derived.Lib.SmallJoins
import Derived.SizedLaws
import Derived.Test.YtdedfjkenbaebaaDoorE08a2
import Derived.Test.YtdedfjkenbaebaaDoorE08a8
import Derived.ProofKit
import Derived.OpenShut
import Derived.Deep.Slices
import Derived.BigRegion
import Derived.Laws.StructEq
/- A command that came in, opened; its bytes are within the reach of a machine. -/
namespace Go.Proofs.YtdedfjkenbaebaaDoor
open Go.ChangeShapes Go.WideShapes Go.RowKit Go.Deep Go.Joins
set_option linter.unusedVariables false

theorem array5 {α : Type} {cs : Array α} (h : cs.size = 5) : ∃ c0 c1 c2 c3 c4, cs = #[c0, c1, c2, c3, c4] := by
  obtain ⟨l⟩ := cs
  match l, h with
  | [c0, c1, c2, c3, c4], _ => exact ⟨c0, c1, c2, c3, c4, rfl⟩
section
variable {H : Type} {enc : TypeId × Value → H} {P : Program} {w : World} {base : Nat} {spare : Nat → Bool} {held : Bool}
theorem trod_struct5 {t : TypeId} {f0 f1 f2 f3 f4 : Field} {fuel : Nat} {cs : List Value} {x : DataW H × List MemPlace} (ht : P.underlying t = some (.struct #[f0, f1, f2, f3, f4])) (h : DataW.trod enc P w base spare held fuel t cs = some x) :
    ∃ y0 y1 y2 y3 y4 n, x = (.agg [y0.1, y1.1, y2.1, y3.1, y4.1], y0.2 ++ (y1.2 ++ (y2.2 ++ (y3.2 ++ y4.2)))) ∧ cs.length = P.cellsOf t ∧ DataW.trod enc P w base spare held n f0.type ((cs.drop f0.offset).take (P.cellsOf f0.type)) = some y0 ∧
      DataW.trod enc P w base spare held n f1.type ((cs.drop f1.offset).take (P.cellsOf f1.type)) = some y1 ∧ DataW.trod enc P w base spare held n f2.type ((cs.drop f2.offset).take (P.cellsOf f2.type)) = some y2 ∧
      DataW.trod enc P w base spare held n f3.type ((cs.drop f3.offset).take (P.cellsOf f3.type)) = some y3 ∧ DataW.trod enc P w base spare held n f4.type ((cs.drop f4.offset).take (P.cellsOf f4.type)) = some y4 := by
  obtain ⟨xs, n, _, rfl, hl, hlen, hf⟩ := DataW.trod_struct ht h
  match xs, hlen with
  | [y0, y1, y2, y3, y4], _ => exact ⟨y0, y1, y2, y3, y4, n, by simp, hl, by simpa using hf 0 f0 rfl, by simpa using hf 1 f1 rfl, by simpa using hf 2 f2 rfl, by simpa using hf 3 f3 rfl, by simpa using hf 4 f4 rfl⟩
theorem open_agg5 {r : Reach} {b0 : Nat} {t : TypeId} {f0 f1 f2 f3 f4 : Field} {v : Value} {d : DataW H} {p : List MemPlace} (hs : P.underlying t = some (.struct #[f0, f1, f2, f3, f4])) (hone : oneCellFields P #[f0, f1, f2, f3, f4] = true) (hC : P.cellsOf t = 5)
    (hv : Value.okWide P w r b0 t v) (h : DataW.Trod enc P w base spare held t v d p) :
    ∃ (v0 v1 v2 v3 v4 : Value) (y0 y1 y2 y3 y4 : DataW H × List MemPlace) (n : Nat), v = .agg #[v0, v1, v2, v3, v4] ∧ d = .agg [y0.1, y1.1, y2.1, y3.1, y4.1] ∧
      DataW.trod enc P w base spare held n f0.type [v0] = some y0 ∧ DataW.trod enc P w base spare held n f1.type [v1] = some y1 ∧ DataW.trod enc P w base spare held n f2.type [v2] = some y2 ∧ DataW.trod enc P w base spare held n f3.type [v3] = some y3 ∧ DataW.trod enc P w base spare held n f4.type [v4] = some y4 := by
  obtain ⟨cs, rfl, hsz⟩ := okWide_struct hs hv
  obtain ⟨c0, c1, c2, c3, c4, rfl⟩ := array5 (hsz.trans hC)
  obtain ⟨fuel, hf⟩ := h
  obtain ⟨y0, y1, y2, y3, y4, n, hx, _, h0, h1, h2, h3, h4⟩ := trod_struct5 hs hf
  obtain ⟨o0, k0⟩ := hone_of hone 0 f0 rfl
  obtain ⟨o1, k1⟩ := hone_of hone 1 f1 rfl
  obtain ⟨o2, k2⟩ := hone_of hone 2 f2 rfl
  obtain ⟨o3, k3⟩ := hone_of hone 3 f3 rfl
  obtain ⟨o4, k4⟩ := hone_of hone 4 f4 rfl
  simp only [Prod.mk.injEq] at hx
  exact ⟨c0, c1, c2, c3, c4, y0, y1, y2, y3, y4, n, rfl, hx.1, by simpa [Value.cells, o0, k0] using h0, by simpa [Value.cells, o1, k1] using h1, by simpa [Value.cells, o2, k2] using h2, by simpa [Value.cells, o3, k3] using h3, by simpa [Value.cells, o4, k4] using h4⟩
end

/-- A datum of bytes: how many places it has. -/
def DatumOf {H : Type} (d : DataW H) (cap : Nat) : Prop := (d = .nil ∧ cap = 0) ∨ ∃ e s : List (DataW H), d = .slice e s ∧ e.length + s.length = cap
theorem datum_bytes {H : Type} {enc : TypeId × Value → H} {w : World} {base : Nat} {held : Bool} {a : Option Addr} {len cap : Nat} {d : DataW H} {p : List MemPlace}
    (h : DataW.Trod enc Tryd.prog w base (fun _ => true) held 22 (.slice a len cap) d p) : DatumOf d cap := by
  obtain ⟨fuel, hf⟩ := h
  rcases open_ints Tryd.underlying22 Tryd.underlying5 (by kernel_rfl) hf with ⟨hcs, hx⟩ | ⟨ad, len', cap', zs, hcs, _, hl, hm, hz, hx, hc, hwz⟩
  · simp [Value.cells] at hcs
    simp only [Prod.mk.injEq] at hx
    exact .inl ⟨hx.1, hcs.2.2⟩
  · simp [Value.cells] at hcs
    obtain ⟨rfl, rfl, rfl⟩ := hcs
    simp only [Prod.mk.injEq] at hx
    simp at hz
    refine .inr ⟨_, _, hx.1, ?_⟩
    simp [lits]
    omega

set_option maxRecDepth 100000 in
theorem open_cmd {H : Type} {enc : TypeId × Value → H} {w : World} {r : Reach} {b0 base : Nat} {held : Bool} {v : Value} {d : DataW H} {p : List MemPlace} (hv : Value.okWide Tryd.prog w r b0 46 v)
    (h : DataW.Trod enc Tryd.prog w base (fun _ => true) held 46 v d p) :
    ∃ (k t f n : Int) (a : Option Addr) (l : List Int) (cap : Nat), v = cmdV k t f n (.slice a l.length cap) ∧ (I64 k ∧ I64 t ∧ I64 f ∧ I64 n) ∧ BytesIn w a l cap ∧ OkB l ∧ ∃ y0 y1 y2 y3 y4, d = .agg [y0, y1, y2, y3, y4] ∧ DatumOf y4 cap := by
  obtain ⟨v0, v1, v2, v3, v4, y0, y1, y2, y3, y4, m, rfl, rfl, hy0, hy1, hy2, hy3, hy4⟩ := open_agg5 Tryd.underlying46 (by kernel_rfl) (by kernel_rfl) hv h
  obtain ⟨k, ek, _, wk⟩ := DataW.trod_int Tryd.underlying3 hy0
  obtain ⟨t, et, _, wt⟩ := DataW.trod_int Tryd.underlying3 hy1
  obtain ⟨f, ef, _, wf⟩ := DataW.trod_int Tryd.underlying3 hy2
  obtain ⟨n, en, _, wn⟩ := DataW.trod_int Tryd.underlying3 hy3
  obtain ⟨a, len, cap, e4⟩ := slice_form Tryd.underlying22 hy4
  simp only [List.cons.injEq, and_true] at ek et ef en e4
  subst ek et ef en e4
  have h4 : DataW.Trod enc Tryd.prog w base (fun _ => true) held 22 (.slice a len cap) y4.1 y4.2 := ⟨m, by simpa [Value.cells] using hy4⟩
  obtain ⟨l, rfl, hb, hok⟩ := open_bytes_wf h4
  exact ⟨k, t, f, n, a, l, cap, rfl, ⟨bounds_i64 wk, bounds_i64 wt, bounds_i64 wf, bounds_i64 wn⟩, hb, hok, y0.1, y1.1, y2.1, y3.1, y4.1, rfl, datum_bytes h4⟩

/-- What the reach says of a command's bytes. -/
theorem cmd_reach {H : Type} {ts : List TypeId} {ds : List (DataW H)} (h : (DataW.weightsEach Tryd.prog ts ds).all (· ≤ reachBytes) = true) {j : Nat} {y0 y1 y2 y3 y4 : DataW H} {cap : Nat} (ht : ts[j]? = some 46) (hd : ds[j]? = some (.agg [y0, y1, y2, y3, y4])) (h4 : DatumOf y4 cap) : cap ≤ reachBytes := by
  rcases h4 with ⟨_, rfl⟩ | ⟨e, s, rfl, hc⟩
  · omega
  · have hb : Tryd.prog.bytesOf 5 = 1 := by kernel_rfl
    have := List.all_eq_true.1 h _ (DataW.weights_mem_each ht hd ((e.length + s.length) * Tryd.prog.bytesOf 5) (by simp [DataW.weights, DataW.weightsEach, Tryd.underlying46, Tryd.underlying22]))
    simp only [decide_eq_true_eq] at this
    rw [hb] at this
    omega

end Go.Proofs.YtdedfjkenbaebaaDoor

/- A slice of extents that came in, opened. -/
namespace Go.Proofs.YtdedfjkenbaebaaDoor
open Go.ChangeShapes Go.WideShapes Go.RowKit Go.Deep

theorem open_exts {H : Type} {enc : TypeId × Value → H} {P : Program} {w : World} {base : Nat} {held : Bool} {t e : TypeId} {f0 f1 : Field} {a : Option Addr} {len cap : Nat} {d : DataW H} {p : List MemPlace}
    (ht : P.underlying t = some (.slice e)) (he : P.underlying e = some (.struct #[f0, f1])) (ho : f0.offset = 0 ∧ f1.offset = 1 ∧ P.cellsOf f0.type = 1 ∧ P.cellsOf f1.type = 1 ∧ P.cellsOf e = 2) (h0 : P.underlying f0.type = some (.int .i64)) (h1 : P.underlying f1.type = some (.int .i64))
    (h : DataW.Trod enc P w base (fun _ => true) held t (.slice a len cap) d p) :
    ∃ f : Nat → Int × Int, len ≤ maxLen ∧ ExtSlice w a len f ∧ ∀ i, i < len → I64 (f i).1 ∧ I64 (f i).2 := by
  obtain ⟨o0, o1, c0, c1, ce⟩ := ho
  obtain ⟨fuel, hf⟩ := h
  rcases open_slice ht hf with ⟨hcs, _⟩ | ⟨ad, len', cap', m, n, D, Pl, hcs, _, hl, hm, hmm, _, hi⟩
  · simp [Value.cells] at hcs
    obtain ⟨rfl, rfl, rfl⟩ := hcs
    exact ⟨fun _ => (0, 0), Nat.zero_le _, fun h => absurd h (by omega), fun i hi => absurd hi (by omega)⟩
  · simp [Value.cells] at hcs
    obtain ⟨rfl, rfl, rfl⟩ := hcs
    simp at hmm
    subst hmm
    have hex : ∀ i, i < len → ∃ x : Int × Int, (w.cell? (ad.add (i * 2)) = some (.int .i64 x.1) ∧ w.cell? (ad.add (i * 2 + 1)) = some (.int .i64 x.2)) ∧ I64 x.1 ∧ I64 x.2 := fun i hlt => by
      obtain ⟨cs', h1', h2⟩ := hi i (by omega)
      rw [ce] at h1'
      obtain ⟨_, hlen, hat⟩ := World.cells?_some h1'
      obtain ⟨y0, y1, n', _, _, t0, t1⟩ := trod_struct2 he h2
      rw [o0, c0] at t0
      rw [o1, c1] at t1
      match cs', hlen with
      | [u0, u1], _ =>
        obtain ⟨b0, e0, _, w0⟩ := DataW.trod_int h0 t0
        obtain ⟨b1, e1, _, w1⟩ := DataW.trod_int h1 t1
        simp at e0 e1
        subst e0 e1
        have a0 := hat 0 (by omega)
        have a1 := hat 1 (by omega)
        rw [add_add] at a0 a1
        exact ⟨(b0, b1), ⟨by simpa using a0, by simpa using a1⟩, bounds_i64 w0, bounds_i64 w1⟩
    obtain ⟨f, hf'⟩ := choose_lt (α := Int × Int) (p := fun i x => (w.cell? (ad.add (i * 2)) = some (.int .i64 x.1) ∧ w.cell? (ad.add (i * 2 + 1)) = some (.int .i64 x.2)) ∧ I64 x.1 ∧ I64 x.2) hex
    refine ⟨f, by omega, fun hn => ?_, fun i hi => (hf' i hi).2⟩
    obtain ⟨b, o, s⟩ := ad
    have hsp : s = none := by simpa [Addr.add] using World.cell?_spot (hf' 0 hn).1.1
    subst hsp
    refine ⟨b, o, rfl, fun i hi => ?_⟩
    have e : ∀ j, (⟨b, o, none⟩ : Addr).add j = ⟨b, o + j, none⟩ := fun j => by simp [Addr.add]
    have hx := (hf' i hi).1
    rw [e, e] at hx
    exact ⟨hx.1, hx.2⟩
end Go.Proofs.YtdedfjkenbaebaaDoor

/- Plain mathematics for package extent, of two extents. No Go text. -/
namespace Go.Proofs.YtdedfjkenbaebaaDoor.Plain01

/-- The extent of the bytes that two extents have. -/
def ovl (a b : Int × Int) : Int × Int := if min (a.1 + a.2) (b.1 + b.2) ≤ max a.1 b.1 then (0, 0) else (max a.1 b.1, min (a.1 + a.2) (b.1 + b.2) - max a.1 b.1)
def ovlB (a b : Int × Int) : Bool := decide (max a.1 b.1 < min (a.1 + a.2) (b.1 + b.2))
theorem ovl_no {a b : Int × Int} (h : min (a.1 + a.2) (b.1 + b.2) ≤ max a.1 b.1) : ovl a b = (0, 0) ∧ ovlB a b = false := by
  unfold ovl ovlB; rw [if_pos h]; simp; omega
theorem ovl_yes {a b : Int × Int} {lo hi : Int} (hlo : max a.1 b.1 = lo) (hhi : min (a.1 + a.2) (b.1 + b.2) = hi) (h : lo < hi) : ovl a b = (lo, hi - lo) ∧ ovlB a b = true := by
  subst hlo; subst hhi
  unfold ovl ovlB; rw [if_neg (by omega)]; simp; omega

/-- The extent from the smaller beginning to the greater end. -/
def jn (a b : Int × Int) : Int × Int := (min a.1 b.1, max (a.1 + a.2) (b.1 + b.2) - min a.1 b.1)
theorem jn_eq {a b : Int × Int} {lo hi : Int} (hlo : min a.1 b.1 = lo) (hhi : max (a.1 + a.2) (b.1 + b.2) = hi) : jn a b = (lo, hi - lo) := by subst hlo; subst hhi; rfl

end Go.Proofs.YtdedfjkenbaebaaDoor.Plain01

/- Overlap of package extent and of its reference: the same extent at every two valid extents. -/
namespace Go.Proofs.YtdedfjkenbaebaaDoor
open Go.RowKit Go.Shelf Go.Proofs.YtdedfjkenbaebaaDoor.Plain01

/-- Three new blocks. -/
theorem three_ext (w : World) (o0 o1 o2 : Obj) : (((w.alloc o0).alloc o1).alloc o2).heap[w.heap.size]? = some o0 ∧ (((w.alloc o0).alloc o1).alloc o2).heap[w.heap.size + 1]? = some o1 ∧ (((w.alloc o0).alloc o1).alloc o2).heap[w.heap.size + 1 + 1]? = some o2 ∧ Below w.heap.size w (((w.alloc o0).alloc o1).alloc o2) :=
  ⟨heap_old (heap_old (heap_new w o0 rfl) _) _, heap_old (heap_new _ o1 (by simp)) _, heap_new _ o2 (by simp), (((Below.refl _ w).alloc (Nat.le_refl _) _).alloc (by simp) _).alloc (by simp; omega) _⟩

/-- The blocks of a function of two extents: the two boxed arguments, the result. -/
abbrev args2 (w : World) (a b : Int × Int) : List (Nat × Obj) := [(w.heap.size, extO a), (w.heap.size + 1, extO b), (w.heap.size + 1 + 1, extO (0, 0))]

set_option maxRecDepth 100000 in
set_option maxHeartbeats 4000000 in
theorem roverlap_gives (a b : Int × Int) (ha : okE a = true) (hb : okE b = true) (w : World) : Calls Tryd.prog 72 #[extV a, extV b] w (Gives (extV (ovl a b)) w) := by
  obtain ⟨a0, a1, a2⟩ := okE_iff.1 ha
  obtain ⟨b0, b1, b2⟩ := okE_iff.1 hb
  clear ha hb
  by_cases c3 : min (a.1 + a.2) (b.1 + b.2) ≤ max a.1 b.1 <;> by_cases c1 : a.1 < b.1 <;> by_cases c2 : b.1 + b.2 < a.1 + a.2
  all_goals
    go_enter Tryd.func72, Tryd.ntmps72
    go_wp2
    first
      | (have hv := (ovl_no c3).1)
      | (have hv := (ovl_yes (a := a) (b := b) (lo := b.1) (hi := b.1 + b.2) (by omega) (by omega) (by omega)).1)
      | (have hv := (ovl_yes (a := a) (b := b) (lo := b.1) (hi := a.1 + a.2) (by omega) (by omega) (by omega)).1)
      | (have hv := (ovl_yes (a := a) (b := b) (lo := a.1) (hi := b.1 + b.2) (by omega) (by omega) (by omega)).1)
      | (have hv := (ovl_yes (a := a) (b := b) (lo := a.1) (hi := a.1 + a.2) (by omega) (by omega) (by omega)).1)
    rw [hv]
    clear hv
    refine bodyPost_ret (v := .agg #[.int .i64 _, .int .i64 _]) (by simp [results, Tryd.results72, go_sem]) rfl ⟨rfl, ?_⟩
    exact (((Below.refl _ w).alloc (Nat.le_refl _) _).alloc (by simp) _).alloc (by simp; omega) _
end Go.Proofs.YtdedfjkenbaebaaDoor

/- Target, Source and Overlaps of package command; Overlaps of its reference. -/
namespace Go.Proofs.YtdedfjkenbaebaaDoor
open Go.RowKit Go.Shelf Go.Proofs.YtdedfjkenbaebaaDoor.Plain01
set_option linter.unusedVariables false

theorem desc_target (x0 x1 x2 x3 x4 : Int) (b : Bool) (W : World) : (Instr.field 101 (.agg #[.int .i64 x0, .int .i64 x1, .int .i64 x2, .int .i64 x3, .int .i64 x4, .bool b]) 0).run Tryd.prog W = .ok (extV (x0, x1)) W := by kernel_rfl
theorem ext_len (y0 y1 : Int) (W : World) : (Instr.field 71 (.agg #[.int .i64 y0, .int .i64 y1]) 1).run Tryd.prog W = .ok (.int .i64 y1) W := by kernel_rfl

set_option maxRecDepth 100000 in
set_option maxHeartbeats 4000000 in
theorem target_of_desc (k t f n : Int) (v : Value) (x0 x1 x2 x3 x4 : Int) (b : Bool)
    (hd : ∀ w, Calls Tryd.prog 69 #[cmdV k t f n v] w (Gives (.agg #[.int .i64 x0, .int .i64 x1, .int .i64 x2, .int .i64 x3, .int .i64 x4, .bool b]) w)) (w : World) :
    Calls Tryd.prog 47 #[cmdV k t f n v] w (Gives (extV (x0, x1)) w) := by
  have hfl := desc_target x0 x1 x2 x3 x4 b
  go_enter Tryd.func47, Tryd.ntmps47
  go_wp2_with fail
  refine (HeldW.call (s := ((HeldW.start w).push (cmdO k t f n v)).push (extO (0, 0))) (hd _)).mono ?_
  rintro e _ ⟨rfl, s1, rfl⟩
  obtain ⟨r0, r1, r2⟩ := held_ext1 s1 (w.heap.size + 1) (0, 0) (by simp)
  go_wp2_with fail
  go_wp2
  refine bodyPost_ret (v := extV (x0, x1)) (by simp [results, Tryd.results47, go_sem, r0, r1]) rfl ⟨rfl, ?_⟩
  exact (s1.below.setCell (p := ⟨w.heap.size + 1, 0, none⟩) (by simp) _).setCell (p := ⟨w.heap.size + 1, 1, none⟩) (by simp) _

set_option maxRecDepth 100000 in
set_option maxHeartbeats 4000000 in
theorem source_of_desc (k t f n : Int) (v : Value) (x0 x1 x2 x3 x4 : Int) (b : Bool)
    (hd : ∀ w, Calls Tryd.prog 69 #[cmdV k t f n v] w (Gives (.agg #[.int .i64 x0, .int .i64 x1, .int .i64 x2, .int .i64 x3, .int .i64 x4, .bool b]) w)) (w : World) :
    Calls Tryd.prog 42 #[cmdV k t f n v] w (Gives (.tuple #[extV (x3, x4), .bool (x2 == 1)]) w) := by
  go_enter Tryd.func42, Tryd.ntmps42
  go_wp2_with fail
  obtain ⟨S0, hS0⟩ := start2 w (cmdO k t f n v) (extO (0, 0))
  rw [hS0]
  clear hS0
  refine (HeldW.call (s := S0) (hd _)).mono ?_
  rintro e _ ⟨rfl, s1, rfl⟩
  obtain ⟨r0, r1, r2⟩ := held_ext1 s1 (w.heap.size + 1) (0, 0) (by simp)
  go_wp2_with fail
  have hlt := (Array.getElem?_eq_some_iff.1 (s1.blocks (w.heap.size + 1, extO (0, 0)) (by simp))).1
  obtain ⟨B, S, hB, hB0, hS⟩ := s1.more (descO x0 x1 x2 x3 x4 b)
  have hne : B ≠ w.heap.size + 1 := by omega
  rw [hS, ← hB]
  clear hS hB hlt r0 r1 r2
  obtain ⟨r0, r1, r2⟩ := held_ext1 S (w.heap.size + 1) (0, 0) (by simp)
  obtain ⟨d0, d1, d2, d3, d4, d5, d6⟩ := held_desc S B x0 x1 x2 x3 x4 b (by simp)
  go_region
  go_wp2
  refine bodyPost_ret (v := .tuple #[extV (x3, x4), .bool (x2 == 1)]) (by simp [results, Tryd.results42, go_sem, r0, r1]) rfl ⟨rfl, ?_⟩
  exact ((S.below.setCell (p := ⟨w.heap.size + 1, 0, none⟩) (by simp) _).setCell (p := ⟨w.heap.size + 1, 1, none⟩) (by simp) _).drew

theorem mtarget_any (k t f n : Int) (hk : k = 1 ∨ k = 2) (a : Option Addr) (L cap : Nat) (w : World) : Calls Tryd.prog 47 #[cmdV k t f n (.slice a L cap)] w (Gives (extV (t, wlen k n L)) w) := by
  have hd := fun w => describe_any k t f n a L cap w
  rcases hk with rfl | rfl
  · simp only [descA_copy] at hd
    have he : wlen 1 n L = n := by unfold wlen; rw [if_pos rfl]
    rw [he]
    exact target_of_desc 1 t f n _ t n 1 f n _ hd w
  · simp only [descA_lit] at hd
    have he : wlen 2 n L = L := by unfold wlen; rw [if_neg (by omega)]
    rw [he]
    exact target_of_desc 2 t f n _ t L 2 0 0 _ hd w
theorem msource_copy (t f n : Int) (a : Option Addr) (L cap : Nat) (w : World) : Calls Tryd.prog 42 #[cmdV 1 t f n (.slice a L cap)] w (Gives (.tuple #[extV (f, n), .bool true]) w) := by
  have hd := fun w => describe_any 1 t f n a L cap w
  simp only [descA_copy] at hd
  exact source_of_desc 1 t f n _ t n 1 f n _ hd w
theorem msource_lit (t f n : Int) (a : Option Addr) (L cap : Nat) (w : World) : Calls Tryd.prog 42 #[cmdV 2 t f n (.slice a L cap)] w (Gives (.tuple #[extV (0, 0), .bool false]) w) := by
  have hd := fun w => describe_any 2 t f n a L cap w
  simp only [descA_lit] at hd
  exact source_of_desc 2 t f n _ t L 2 0 0 _ hd w

/-- Whether a command writes bytes that it reads. -/
def selfB (k t f n : Int) : Bool := decide (k = 1) && decide (0 < (ovl (f, n) (t, n)).2)
theorem ovlB_comm (t f n : Int) : ovlB (t, n) (f, n) = decide (0 < (ovl (f, n) (t, n)).2) := by
  unfold ovlB ovl
  simp only
  by_cases h : min (f + n) (t + n) ≤ max f t
  · rw [if_pos h]; simp; omega
  · rw [if_neg h]; simp; omega
end Go.Proofs.YtdedfjkenbaebaaDoor

/- Same of package command and of its reference; bytes.Equal; Copy. -/
namespace Go.Proofs.YtdedfjkenbaebaaDoor
open Go.RowKit Go.Shelf Go.Proofs.YtdedfjkenbaebaaDoor.Plain01
set_option linter.unusedVariables false

/-- Two commands have the same fields. -/
def sameB (k t f n : Int) (l : List Int) (k' t' f' n' : Int) (m : List Int) : Bool := decide (k = k' ∧ t = t' ∧ f = f' ∧ n = n' ∧ l = m)
theorem sameB_refl (k t f n : Int) (l : List Int) : sameB k t f n l k t f n l = true := by simp [sameB]

theorem mcopy_any (t f n : Int) (w : World) : Calls Tryd.prog 50 #[.int .i64 t, .int .i64 f, .int .i64 n] w (Gives (cmdV 1 t f n (.slice none 0 0)) w) := by
  go_enter Tryd.func50, Tryd.ntmps50
  go_wp2
  exact bodyPost_ret (v := cmdV 1 t f n (.slice none 0 0)) (by simp [results, Tryd.results50, go_sem]) rfl ⟨rfl, (Below.refl _ w).alloc (Nat.le_refl _) _⟩

set_option maxRecDepth 100000 in
set_option maxHeartbeats 4000000 in
theorem rsame_core (k t f n k' t' f' n' : Int) (l m : List Int) (a b : Option Addr) (cap cap' : Nat) (w : World) (hl : BytesIn w a l cap) (hm : BytesIn w b m cap') (hst : ((strOf l).toList == (strOf m).toList) = decide (l = m)) :
    Calls Tryd.prog 41 #[cmdV k t f n (.slice a l.length cap), cmdV k' t' f' n' (.slice b m.length cap')] w (Gives (.bool (sameB k t f n l k' t' f' n' m)) w) := by
  have hB := below2 w (cmdO k t f n (.slice a l.length cap)) (cmdO k' t' f' n' (.slice b m.length cap'))
  by_cases c1 : k = k'
  · by_cases c2 : t = t'
    · by_cases c3 : f = f'
      · by_cases c4 : n = n'
        · have hr : sameB k t f n l k' t' f' n' m = decide (l = m) := by simp [sameB, c1, c2, c3, c4]
          rw [hr]
          subst c1 c2 c3 c4
          have h1 := conv_str (hl.below hB)
          have h2 := conv_str (hm.below hB)
          have he := hst
          generalize decide (l = m) = d at he ⊢
          generalize strOf l = x at h1 he
          generalize strOf m = y at h2 he
          generalize l.length = L at h1 h2 hB ⊢
          generalize m.length = M at h1 h2 hB ⊢
          have HE := Lib.hid he
          have HB := Lib.hid hB
          clear hl hm hst he hr hB
          go_enter Tryd.func41, Tryd.ntmps41
          go_wp2
          go_ret
          exact ⟨by (rw [HE.out]; rfl), HB.out⟩
        · have hr : sameB k t f n l k' t' f' n' m = false := by simp [sameB, c4]
          rw [hr]
          have e4 : (n == n') = false := by simpa using c4
          subst c1 c2 c3
          generalize l.length = L at hB ⊢
          generalize m.length = M at hB ⊢
          have HB := Lib.hid hB
          clear hl hm hst hr hB c4
          go_enter Tryd.func41, Tryd.ntmps41
          go_wp2
          go_ret
          exact ⟨rfl, HB.out⟩
      · have hr : sameB k t f n l k' t' f' n' m = false := by simp [sameB, c3]
        rw [hr]
        have e3 : (f == f') = false := by simpa using c3
        subst c1 c2
        generalize l.length = L at hB ⊢
        generalize m.length = M at hB ⊢
        have HB := Lib.hid hB
        clear hl hm hst hr hB c3
        go_enter Tryd.func41, Tryd.ntmps41
        go_wp2
        go_ret
        exact ⟨rfl, HB.out⟩
    · have hr : sameB k t f n l k' t' f' n' m = false := by simp [sameB, c2]
      rw [hr]
      have e2 : (t == t') = false := by simpa using c2
      subst c1
      generalize l.length = L at hB ⊢
      generalize m.length = M at hB ⊢
      have HB := Lib.hid hB
      clear hl hm hst hr hB c2
      go_enter Tryd.func41, Tryd.ntmps41
      go_wp2
      go_ret
      exact ⟨rfl, HB.out⟩
  · have hr : sameB k t f n l k' t' f' n' m = false := by simp [sameB, c1]
    rw [hr]
    have e1 : (k == k') = false := by simpa using c1
    generalize l.length = L at hB ⊢
    generalize m.length = M at hB ⊢
    have HB := Lib.hid hB
    clear hl hm hst hr hB c1
    go_enter Tryd.func41, Tryd.ntmps41
    go_wp2
    go_ret
    exact ⟨rfl, HB.out⟩
theorem rsame_any (k t f n k' t' f' n' : Int) (l m : List Int) (a b : Option Addr) (cap cap' : Nat) (w : World) (hl : BytesIn w a l cap) (hm : BytesIn w b m cap') (okl : OkB l) (okm : OkB m) :
    Calls Tryd.prog 41 #[cmdV k t f n (.slice a l.length cap), cmdV k' t' f' n' (.slice b m.length cap')] w (Gives (.bool (sameB k t f n l k' t' f' n' m)) w) :=
  rsame_core k t f n k' t' f' n' l m a b cap cap' w hl hm (str_eq okl okm)
theorem rsame_refl (k t f n : Int) (l : List Int) (a b : Option Addr) (cap cap' : Nat) (w : World) (hl : BytesIn w a l cap) (hm : BytesIn w b l cap') :
    Calls Tryd.prog 41 #[cmdV k t f n (.slice a l.length cap), cmdV k t f n (.slice b l.length cap')] w (Gives (.bool true) w) := by
  have h := rsame_core k t f n k t f n l l a b cap cap' w hl hm (by simp)
  rwa [sameB_refl] at h

end Go.Proofs.YtdedfjkenbaebaaDoor

/- Part of package command: no part, and the part of a Copy. -/
namespace Go.Proofs.YtdedfjkenbaebaaDoor
open Go.RowKit Go.Shelf Go.Proofs.YtdedfjkenbaebaaDoor.Plain01
set_option linter.unusedVariables false

/-- Five cells of a new block are written. -/
theorem below_put5 {B : Nat} {a w : World} (h : Below B a w) {b : Nat} (hb : B ≤ b) (v0 v1 v2 v3 v4 : Value) : Below B a (((((w.setCell ⟨b, 0, none⟩ v0).setCell ⟨b, 1, none⟩ v1).setCell ⟨b, 2, none⟩ v2).setCell ⟨b, 3, none⟩ v3).setCell ⟨b, 4, none⟩ v4) :=
  ((((h.setCell (p := ⟨b, 0, none⟩) hb _).setCell (p := ⟨b, 1, none⟩) hb _).setCell (p := ⟨b, 2, none⟩) hb _).setCell (p := ⟨b, 3, none⟩) hb _).setCell (p := ⟨b, 4, none⟩) hb _

/-- The zero command and false. -/
abbrev noPart : Value := .tuple #[cmdV 0 0 0 0 (.slice none 0 0), .bool false]

end Go.Proofs.YtdedfjkenbaebaaDoor

/- The example of the chapter. -/
namespace Go.Proofs.YtdedfjkenbaebaaDoor
open Go.RowKit Go.Shelf Go.Proofs.YtdedfjkenbaebaaDoor.Plain01
set_option linter.unusedVariables false

theorem bytes_nil (w : World) : BytesIn w none [] 0 := ⟨by simp, by omega, fun h => absurd h (by simp), fun _ => rfl⟩
theorem okB_nil : OkB [] := fun x hx => absurd hx (by simp)
theorem rsame_nil (k t f n k' t' f' n' : Int) (w : World) : Calls Tryd.prog 41 #[cmdV k t f n (.slice none 0 0), cmdV k' t' f' n' (.slice none 0 0)] w (Gives (.bool (sameB k t f n [] k' t' f' n' [])) w) :=
  rsame_any k t f n k' t' f' n' [] [] none none 0 0 w (bytes_nil w) (bytes_nil w) okB_nil okB_nil
end Go.Proofs.YtdedfjkenbaebaaDoor

/- CommandExtents returns true for every command, and changes nothing that was there. -/
namespace Go.Proofs.YtdedfjkenbaebaaDoor
open Go.RowKit Go.Shelf Go.Proofs.YtdedfjkenbaebaaDoor.Plain01
set_option linter.unusedVariables false

/-- What a valid command is. -/
theorem chk_ok {k t f n : Int} {L : Nat} (h : chk k t f n L = 0) : (k = 1 ∧ L = 0 ∧ n ≠ 0 ∧ okE (t, n) = true ∧ okE (f, n) = true) ∨ (k = 2 ∧ f = 0 ∧ n = 0 ∧ 0 < L ∧ okE (t, (L : Int)) = true) := by
  unfold chk wlen at h
  by_cases h1 : k = 1
  · subst h1
    simp only [if_true] at h
    rw [if_neg (by omega)] at h
    left
    by_cases hn : n = 0
    · rw [if_pos hn] at h; omega
    rw [if_neg hn] at h
    cases o1 : okE (t, n) with
    | false => rw [o1, if_pos rfl] at h; omega
    | true =>
      rw [o1, if_neg (by simp)] at h
      cases o2 : okE (f, n) with
      | false => rw [if_pos ⟨trivial, .inr o2⟩] at h; omega
      | true =>
        by_cases hL : 0 < L
        · rw [if_pos ⟨trivial, .inl hL⟩] at h; omega
        · exact ⟨rfl, by omega, hn, rfl, rfl⟩
  · by_cases h2 : k = 2
    · subst h2
      simp only [show ¬ ((2 : Int) = 1) by omega, if_false] at h
      rw [if_neg (by omega)] at h
      right
      by_cases hn : (L : Int) = 0
      · rw [if_pos hn] at h; omega
      rw [if_neg hn] at h
      cases o1 : okE (t, (L : Int)) with
      | false => rw [o1, if_pos rfl] at h; omega
      | true =>
        rw [o1, if_neg (by simp), if_neg (by simp)] at h
        by_cases hf : f ≠ 0 ∨ n ≠ 0
        · rw [if_pos ⟨trivial, hf⟩] at h; omega
        · exact ⟨rfl, by omega, by omega, by omega, rfl⟩
    · rw [if_pos ⟨h1, h2⟩] at h; omega

end Go.Proofs.YtdedfjkenbaebaaDoor
