import Derived.Lib.SmallJoins
import Derived.SizedLaws
import Derived.Test.YtefonhnidkfbgaaE07d2
import Derived.ProofKit
import Derived.OpenShut
import Derived.Deep.Slices
import Derived.BigRegion
import Derived.Laws.BytesString
import Derived.Laws.StructEq
/- A command that came in, opened; its bytes are within the reach of a machine. -/
namespace Go.Proofs.Ytefonhnidkfbgaa
open Go.ChangeShapes Go.WideShapes Go.RowKit Go.Deep Go.Joins
set_option linter.unusedVariables false

theorem array5 {α : Type} {cs : Array α} (h : cs.size = 5) : ∃ c0 c1 c2 c3 c4, cs = #[c0, c1, c2, c3, c4] := by
  obtain ⟨l⟩ := cs
  match l, h with
  | [c0, c1, c2, c3, c4], _ => exact ⟨c0, c1, c2, c3, c4, rfl⟩
section
variable {H : Type} {enc : TypeId × Value → H} {P : Program} {w : World} {base : Nat} {spare : Nat → Bool} {held : Bool}
theorem trod_struct5 {t : TypeId} {f0 f1 f2 f3 f4 : Field} {fuel : Nat} {cs : List Value} {x : DataW H × List MemPlace} (ht : P.underlying t = some (.struct #[f0, f1, f2, f3, f4])) (h : DataW.trod enc P w base spare held fuel t cs = some x) :
    ∃ y0 y1 y2 y3 y4 n, x = (.agg [y0.1, y1.1, y2.1, y3.1, y4.1], y0.2 ++ (y1.2 ++ (y2.2 ++ (y3.2 ++ y4.2)))) ∧ cs.length = P.cellsOf t ∧ DataW.trod enc P w base spare held n f0.type ((cs.drop f0.offset).take (P.cellsOf f0.type)) = some y0 ∧
      DataW.trod enc P w base spare held n f1.type ((cs.drop f1.offset).take (P.cellsOf f1.type)) = some y1 ∧ DataW.trod enc P w base spare held n f2.type ((cs.drop f2.offset).take (P.cellsOf f2.type)) = some y2 ∧
      DataW.trod enc P w base spare held n f3.type ((cs.drop f3.offset).take (P.cellsOf f3.type)) = some y3 ∧ DataW.trod enc P w base spare held n f4.type ((cs.drop f4.offset).take (P.cellsOf f4.type)) = some y4 := by
  obtain ⟨xs, n, _, rfl, hl, hlen, hf⟩ := DataW.trod_struct ht h
  match xs, hlen with
  | [y0, y1, y2, y3, y4], _ => exact ⟨y0, y1, y2, y3, y4, n, by simp, hl, by simpa using hf 0 f0 rfl, by simpa using hf 1 f1 rfl, by simpa using hf 2 f2 rfl, by simpa using hf 3 f3 rfl, by simpa using hf 4 f4 rfl⟩
theorem open_agg5 {r : Reach} {b0 : Nat} {t : TypeId} {f0 f1 f2 f3 f4 : Field} {v : Value} {d : DataW H} {p : List MemPlace} (hs : P.underlying t = some (.struct #[f0, f1, f2, f3, f4])) (hone : oneCellFields P #[f0, f1, f2, f3, f4] = true) (hC : P.cellsOf t = 5)
    (hv : Value.okWide P w r b0 t v) (h : DataW.Trod enc P w base spare held t v d p) :
    ∃ (v0 v1 v2 v3 v4 : Value) (y0 y1 y2 y3 y4 : DataW H × List MemPlace) (n : Nat), v = .agg #[v0, v1, v2, v3, v4] ∧ d = .agg [y0.1, y1.1, y2.1, y3.1, y4.1] ∧
      DataW.trod enc P w base spare held n f0.type [v0] = some y0 ∧ DataW.trod enc P w base spare held n f1.type [v1] = some y1 ∧ DataW.trod enc P w base spare held n f2.type [v2] = some y2 ∧ DataW.trod enc P w base spare held n f3.type [v3] = some y3 ∧ DataW.trod enc P w base spare held n f4.type [v4] = some y4 := by
  obtain ⟨cs, rfl, hsz⟩ := okWide_struct hs hv
  obtain ⟨c0, c1, c2, c3, c4, rfl⟩ := array5 (hsz.trans hC)
  obtain ⟨fuel, hf⟩ := h
  obtain ⟨y0, y1, y2, y3, y4, n, hx, _, h0, h1, h2, h3, h4⟩ := trod_struct5 hs hf
  obtain ⟨o0, k0⟩ := hone_of hone 0 f0 rfl
  obtain ⟨o1, k1⟩ := hone_of hone 1 f1 rfl
  obtain ⟨o2, k2⟩ := hone_of hone 2 f2 rfl
  obtain ⟨o3, k3⟩ := hone_of hone 3 f3 rfl
  obtain ⟨o4, k4⟩ := hone_of hone 4 f4 rfl
  simp only [Prod.mk.injEq] at hx
  exact ⟨c0, c1, c2, c3, c4, y0, y1, y2, y3, y4, n, rfl, hx.1, by simpa [Value.cells, o0, k0] using h0, by simpa [Value.cells, o1, k1] using h1, by simpa [Value.cells, o2, k2] using h2, by simpa [Value.cells, o3, k3] using h3, by simpa [Value.cells, o4, k4] using h4⟩
end

/-- A datum of bytes: how many places it has. -/
def DatumOf {H : Type} (d : DataW H) (cap : Nat) : Prop := (d = .nil ∧ cap = 0) ∨ ∃ e s : List (DataW H), d = .slice e s ∧ e.length + s.length = cap
theorem datum_bytes {H : Type} {enc : TypeId × Value → H} {w : World} {base : Nat} {held : Bool} {a : Option Addr} {len cap : Nat} {d : DataW H} {p : List MemPlace}
    (h : DataW.Trod enc Try.prog w base (fun _ => true) held 22 (.slice a len cap) d p) : DatumOf d cap := by
  obtain ⟨fuel, hf⟩ := h
  rcases open_ints Try.underlying22 Try.underlying5 (by kernel_rfl) hf with ⟨hcs, hx⟩ | ⟨ad, len', cap', zs, hcs, _, hl, hm, hz, hx, hc, hwz⟩
  · simp [Value.cells] at hcs
    simp only [Prod.mk.injEq] at hx
    exact .inl ⟨hx.1, hcs.2.2⟩
  · simp [Value.cells] at hcs
    obtain ⟨rfl, rfl, rfl⟩ := hcs
    simp only [Prod.mk.injEq] at hx
    simp at hz
    refine .inr ⟨_, _, hx.1, ?_⟩
    simp [lits]
    omega

set_option maxRecDepth 100000 in
theorem open_cmd {H : Type} {enc : TypeId × Value → H} {w : World} {r : Reach} {b0 base : Nat} {held : Bool} {v : Value} {d : DataW H} {p : List MemPlace} (hv : Value.okWide Try.prog w r b0 58 v)
    (h : DataW.Trod enc Try.prog w base (fun _ => true) held 58 v d p) :
    ∃ (k t f n : Int) (a : Option Addr) (l : List Int) (cap : Nat), v = cmdV k t f n (.slice a l.length cap) ∧ (I64 k ∧ I64 t ∧ I64 f ∧ I64 n) ∧ BytesIn w a l cap ∧ OkB l ∧ ∃ y0 y1 y2 y3 y4, d = .agg [y0, y1, y2, y3, y4] ∧ DatumOf y4 cap := by
  obtain ⟨v0, v1, v2, v3, v4, y0, y1, y2, y3, y4, m, rfl, rfl, hy0, hy1, hy2, hy3, hy4⟩ := open_agg5 Try.underlying58 (by kernel_rfl) (by kernel_rfl) hv h
  obtain ⟨k, ek, _, wk⟩ := DataW.trod_int Try.underlying3 hy0
  obtain ⟨t, et, _, wt⟩ := DataW.trod_int Try.underlying3 hy1
  obtain ⟨f, ef, _, wf⟩ := DataW.trod_int Try.underlying3 hy2
  obtain ⟨n, en, _, wn⟩ := DataW.trod_int Try.underlying3 hy3
  obtain ⟨a, len, cap, e4⟩ := slice_form Try.underlying22 hy4
  simp only [List.cons.injEq, and_true] at ek et ef en e4
  subst ek et ef en e4
  have h4 : DataW.Trod enc Try.prog w base (fun _ => true) held 22 (.slice a len cap) y4.1 y4.2 := ⟨m, by simpa [Value.cells] using hy4⟩
  obtain ⟨l, rfl, hb, hok⟩ := open_bytes_wf h4
  exact ⟨k, t, f, n, a, l, cap, rfl, ⟨bounds_i64 wk, bounds_i64 wt, bounds_i64 wf, bounds_i64 wn⟩, hb, hok, y0.1, y1.1, y2.1, y3.1, y4.1, rfl, datum_bytes h4⟩

/-- What the reach says of a command's bytes. -/
theorem cmd_reach {H : Type} {ts : List TypeId} {ds : List (DataW H)} (h : (DataW.weightsEach Try.prog ts ds).all (· ≤ reachBytes) = true) {j : Nat} {y0 y1 y2 y3 y4 : DataW H} {cap : Nat} (ht : ts[j]? = some 58) (hd : ds[j]? = some (.agg [y0, y1, y2, y3, y4])) (h4 : DatumOf y4 cap) : cap ≤ reachBytes := by
  rcases h4 with ⟨_, rfl⟩ | ⟨e, s, rfl, hc⟩
  · omega
  · have hb : Try.prog.bytesOf 5 = 1 := by kernel_rfl
    have := List.all_eq_true.1 h _ (DataW.weights_mem_each ht hd ((e.length + s.length) * Try.prog.bytesOf 5) (by simp [DataW.weights, DataW.weightsEach, Try.underlying58, Try.underlying22]))
    simp only [decide_eq_true_eq] at this
    rw [hb] at this
    omega

end Go.Proofs.Ytefonhnidkfbgaa

/- A slice of extents that came in, opened. -/
namespace Go.Proofs.Ytefonhnidkfbgaa
open Go.ChangeShapes Go.WideShapes Go.RowKit Go.Deep

theorem open_exts {H : Type} {enc : TypeId × Value → H} {P : Program} {w : World} {base : Nat} {held : Bool} {t e : TypeId} {f0 f1 : Field} {a : Option Addr} {len cap : Nat} {d : DataW H} {p : List MemPlace}
    (ht : P.underlying t = some (.slice e)) (he : P.underlying e = some (.struct #[f0, f1])) (ho : f0.offset = 0 ∧ f1.offset = 1 ∧ P.cellsOf f0.type = 1 ∧ P.cellsOf f1.type = 1 ∧ P.cellsOf e = 2) (h0 : P.underlying f0.type = some (.int .i64)) (h1 : P.underlying f1.type = some (.int .i64))
    (h : DataW.Trod enc P w base (fun _ => true) held t (.slice a len cap) d p) :
    ∃ f : Nat → Int × Int, len ≤ maxLen ∧ ExtSlice w a len f ∧ ∀ i, i < len → I64 (f i).1 ∧ I64 (f i).2 := by
  obtain ⟨o0, o1, c0, c1, ce⟩ := ho
  obtain ⟨fuel, hf⟩ := h
  rcases open_slice ht hf with ⟨hcs, _⟩ | ⟨ad, len', cap', m, n, D, Pl, hcs, _, hl, hm, hmm, _, hi⟩
  · simp [Value.cells] at hcs
    obtain ⟨rfl, rfl, rfl⟩ := hcs
    exact ⟨fun _ => (0, 0), Nat.zero_le _, fun h => absurd h (by omega), fun i hi => absurd hi (by omega)⟩
  · simp [Value.cells] at hcs
    obtain ⟨rfl, rfl, rfl⟩ := hcs
    simp at hmm
    subst hmm
    have hex : ∀ i, i < len → ∃ x : Int × Int, (w.cell? (ad.add (i * 2)) = some (.int .i64 x.1) ∧ w.cell? (ad.add (i * 2 + 1)) = some (.int .i64 x.2)) ∧ I64 x.1 ∧ I64 x.2 := fun i hlt => by
      obtain ⟨cs', h1', h2⟩ := hi i (by omega)
      rw [ce] at h1'
      obtain ⟨_, hlen, hat⟩ := World.cells?_some h1'
      obtain ⟨y0, y1, n', _, _, t0, t1⟩ := trod_struct2 he h2
      rw [o0, c0] at t0
      rw [o1, c1] at t1
      match cs', hlen with
      | [u0, u1], _ =>
        obtain ⟨b0, e0, _, w0⟩ := DataW.trod_int h0 t0
        obtain ⟨b1, e1, _, w1⟩ := DataW.trod_int h1 t1
        simp at e0 e1
        subst e0 e1
        have a0 := hat 0 (by omega)
        have a1 := hat 1 (by omega)
        rw [add_add] at a0 a1
        exact ⟨(b0, b1), ⟨by simpa using a0, by simpa using a1⟩, bounds_i64 w0, bounds_i64 w1⟩
    obtain ⟨f, hf'⟩ := choose_lt (α := Int × Int) (p := fun i x => (w.cell? (ad.add (i * 2)) = some (.int .i64 x.1) ∧ w.cell? (ad.add (i * 2 + 1)) = some (.int .i64 x.2)) ∧ I64 x.1 ∧ I64 x.2) hex
    refine ⟨f, by omega, fun hn => ?_, fun i hi => (hf' i hi).2⟩
    obtain ⟨b, o, s⟩ := ad
    have hsp : s = none := by simpa [Addr.add] using World.cell?_spot (hf' 0 hn).1.1
    subst hsp
    refine ⟨b, o, rfl, fun i hi => ?_⟩
    have e : ∀ j, (⟨b, o, none⟩ : Addr).add j = ⟨b, o + j, none⟩ := fun j => by simp [Addr.add]
    have hx := (hf' i hi).1
    rw [e, e] at hx
    exact ⟨hx.1, hx.2⟩
end Go.Proofs.Ytefonhnidkfbgaa

/- Plain mathematics for package extent, of two extents. No Go text. -/
namespace Go.Proofs.Ytefonhnidkfbgaa.Plain01

/-- The extent of the bytes that two extents have. -/
def ovl (a b : Int × Int) : Int × Int := if min (a.1 + a.2) (b.1 + b.2) ≤ max a.1 b.1 then (0, 0) else (max a.1 b.1, min (a.1 + a.2) (b.1 + b.2) - max a.1 b.1)
def ovlB (a b : Int × Int) : Bool := decide (max a.1 b.1 < min (a.1 + a.2) (b.1 + b.2))
theorem ovl_no {a b : Int × Int} (h : min (a.1 + a.2) (b.1 + b.2) ≤ max a.1 b.1) : ovl a b = (0, 0) ∧ ovlB a b = false := by
  unfold ovl ovlB; rw [if_pos h]; simp; omega
theorem ovl_yes {a b : Int × Int} {lo hi : Int} (hlo : max a.1 b.1 = lo) (hhi : min (a.1 + a.2) (b.1 + b.2) = hi) (h : lo < hi) : ovl a b = (lo, hi - lo) ∧ ovlB a b = true := by
  subst hlo; subst hhi
  unfold ovl ovlB; rw [if_neg (by omega)]; simp; omega

/-- The extent from the smaller beginning to the greater end. -/
def jn (a b : Int × Int) : Int × Int := (min a.1 b.1, max (a.1 + a.2) (b.1 + b.2) - min a.1 b.1)
theorem jn_eq {a b : Int × Int} {lo hi : Int} (hlo : min a.1 b.1 = lo) (hhi : max (a.1 + a.2) (b.1 + b.2) = hi) : jn a b = (lo, hi - lo) := by subst hlo; subst hhi; rfl

end Go.Proofs.Ytefonhnidkfbgaa.Plain01

/- Overlap of package extent and of its reference: the same extent at every two valid extents. -/
namespace Go.Proofs.Ytefonhnidkfbgaa
open Go.RowKit Go.Shelf Go.Proofs.Ytefonhnidkfbgaa.Plain01

/-- Three new blocks. -/
theorem three_ext (w : World) (o0 o1 o2 : Obj) : (((w.alloc o0).alloc o1).alloc o2).heap[w.heap.size]? = some o0 ∧ (((w.alloc o0).alloc o1).alloc o2).heap[w.heap.size + 1]? = some o1 ∧ (((w.alloc o0).alloc o1).alloc o2).heap[w.heap.size + 1 + 1]? = some o2 ∧ Below w.heap.size w (((w.alloc o0).alloc o1).alloc o2) :=
  ⟨heap_old (heap_old (heap_new w o0 rfl) _) _, heap_old (heap_new _ o1 (by simp)) _, heap_new _ o2 (by simp), (((Below.refl _ w).alloc (Nat.le_refl _) _).alloc (by simp) _).alloc (by simp; omega) _⟩

end Go.Proofs.Ytefonhnidkfbgaa

/- Target, Source and Overlaps of package command; Overlaps of its reference. -/
namespace Go.Proofs.Ytefonhnidkfbgaa
open Go.RowKit Go.Shelf Go.Proofs.Ytefonhnidkfbgaa.Plain01
set_option linter.unusedVariables false

/-- Whether a command writes bytes that it reads. -/
def selfB (k t f n : Int) : Bool := decide (k = 1) && decide (0 < (ovl (f, n) (t, n)).2)
theorem ovlB_comm (t f n : Int) : ovlB (t, n) (f, n) = decide (0 < (ovl (f, n) (t, n)).2) := by
  unfold ovlB ovl
  simp only
  by_cases h : min (f + n) (t + n) ≤ max f t
  · rw [if_pos h]; simp; omega
  · rw [if_neg h]; simp; omega
end Go.Proofs.Ytefonhnidkfbgaa

/- Strings out of bytes. -/
namespace Go.Proofs.Ytefonhnidkfbgaa
open Go.RowKit
set_option linter.unusedVariables false

/-- A string out of its bytes. -/
def strOf (l : List Int) : ByteArray := l.foldl (fun r n => r.push (UInt8.ofNat n.toNat)) ByteArray.empty
theorem push_data (l : List Int) : ∀ r : ByteArray, (l.foldl (fun r n => r.push (UInt8.ofNat n.toNat)) r).data = r.data ++ (l.map (fun n => UInt8.ofNat n.toNat)).toArray := by
  induction l with
  | nil => intro r; simp
  | cons x l ih => intro r; rw [List.foldl_cons, ih]; simp [ByteArray.push]
theorem strOf_data (l : List Int) : (strOf l).data = (l.map (fun n => UInt8.ofNat n.toNat)).toArray := by
  unfold strOf; rw [push_data]; simp [ByteArray.empty, ByteArray.emptyWithCapacity]; rfl
theorem strOf_append (l m : List Int) : strOf (l ++ m) = strOf l ++ strOf m := by
  apply ByteArray.ext
  rw [ByteArray.data_append, strOf_data, strOf_data, strOf_data, List.map_append]
  simp
theorem strOf_size (l : List Int) : (strOf l).size = l.length := by
  have key : ∀ (l : List Int) (r : ByteArray), (l.foldl (fun r n => r.push (UInt8.ofNat n.toNat)) r).size = r.size + l.length := by
    intro l
    induction l with
    | nil => intro r; simp
    | cons x l ih => intro r; rw [List.foldl_cons, ih, ByteArray.size_push, List.length_cons]; omega
  unfold strOf
  rw [key]
  simp
theorem u8_inj {x y : Int} (hx : 0 ≤ x ∧ x < 256) (hy : 0 ≤ y ∧ y < 256) (h : UInt8.ofNat x.toNat = UInt8.ofNat y.toNat) : x = y := by
  have h2 := congrArg UInt8.toNat h
  simp only [UInt8.toNat_ofNat'] at h2
  omega
theorem strOf_inj {l m : List Int} (hl : OkB l) (hm : OkB m) (h : strOf l = strOf m) : l = m := by
  have h1 := congrArg ByteArray.data h
  rw [strOf_data, strOf_data] at h1
  have h2 : l.map (fun n => UInt8.ofNat n.toNat) = m.map (fun n => UInt8.ofNat n.toNat) := by simpa using h1
  clear h h1
  induction l generalizing m with
  | nil => cases m with
    | nil => rfl
    | cons y m => cases h2
  | cons x l ih => cases m with
    | nil => cases h2
    | cons y m =>
      simp only [List.map_cons, List.cons.injEq] at h2
      rw [u8_inj (hl x List.mem_cons_self) (hm y List.mem_cons_self) h2.1, ih (fun z hz => hl z (List.mem_cons_of_mem _ hz)) (fun z hz => hm z (List.mem_cons_of_mem _ hz)) h2.2]

/-- The walk's comparison of two strings. -/
theorem str_eq {l m : List Int} (hl : OkB l) (hm : OkB m) : ((strOf l).toList == (strOf m).toList) = decide (l = m) := by
  by_cases h : l = m
  · subst h
    rw [decide_eq_true rfl]
    exact beq_self_eq_true _
  · rw [decide_eq_false h]
    refine beq_eq_false_iff_ne.2 fun he => h (strOf_inj hl hm ?_)
    rw [ByteArray.toList_eq, ByteArray.toList_eq] at he
    exact ByteArray.ext (Array.toList_inj.1 he)

theorem conv_str {w : World} {a : Option Addr} {l : List Int} {cap : Nat} (h : BytesIn w a l cap) : (convert 22 9 (.slice a l.length cap)).run Try.prog w = .ok (.string (strOf l)) w := by
  rw [run_convert_bytes_string w 22 9 5 _ _ _ Try.underlying22 Try.underlying5 Try.underlying9]
  cases a with
  | none =>
    obtain rfl : l = [] := List.eq_nil_of_length_eq_zero (by have := h.nil rfl; have := h.len; omega)
    rfl
  | some ad =>
    refine run_bytesToString w ad l.length cap l ?_
    have hc := run_loadCells_list (P := Try.prog) w ad (l.map (Value.int .u8)) (fun j u hu => by
      have hj := (List.getElem?_eq_some_iff.1 hu).1
      rw [List.length_map] at hj
      obtain ⟨b, o, h1, hc⟩ := h.cells (by omega)
      obtain rfl := Option.some.inj h1
      rw [Addr.add_mid, hc j hj]
      rw [List.getElem?_map] at hu
      obtain ⟨x, hx, rfl⟩ := Option.map_eq_some_iff.1 hu
      rw [hx]; rfl)
    rwa [List.length_map] at hc
end Go.Proofs.Ytefonhnidkfbgaa

/- Same of package command and of its reference; bytes.Equal; Copy. -/
namespace Go.Proofs.Ytefonhnidkfbgaa
open Go.RowKit Go.Shelf Go.Proofs.Ytefonhnidkfbgaa.Plain01
set_option linter.unusedVariables false

/-- Two commands have the same fields. -/
def sameB (k t f n : Int) (l : List Int) (k' t' f' n' : Int) (m : List Int) : Bool := decide (k = k' ∧ t = t' ∧ f = f' ∧ n = n' ∧ l = m)
theorem sameB_refl (k t f n : Int) (l : List Int) : sameB k t f n l k t f n l = true := by simp [sameB]

set_option maxRecDepth 100000 in
theorem bequal_any (l m : List Int) (a b : Option Addr) (cap cap' : Nat) (w : World) (hl : BytesIn w a l cap) (hm : BytesIn w b m cap') (okl : OkB l) (okm : OkB m) :
    Calls Try.prog 43 #[.slice a l.length cap, .slice b m.length cap'] w (Gives (.bool (decide (l = m))) w) := by
  have h1 := conv_str hl
  have h2 := conv_str hm
  have he := str_eq okl okm
  generalize decide (l = m) = d at he ⊢
  generalize strOf l = x at h1 he
  generalize strOf m = y at h2 he
  have HE := Lib.hid he
  clear hl hm okl okm he
  go_enter Try.func43, Try.ntmps43
  go_wp2
  go_ret
  exact ⟨by (rw [HE.out]; rfl), Below.refl _ w⟩

set_option maxRecDepth 100000 in
set_option maxHeartbeats 4000000 in
theorem rsame_core (k t f n k' t' f' n' : Int) (l m : List Int) (a b : Option Addr) (cap cap' : Nat) (w : World) (hl : BytesIn w a l cap) (hm : BytesIn w b m cap') (hst : ((strOf l).toList == (strOf m).toList) = decide (l = m)) :
    Calls Try.prog 36 #[cmdV k t f n (.slice a l.length cap), cmdV k' t' f' n' (.slice b m.length cap')] w (Gives (.bool (sameB k t f n l k' t' f' n' m)) w) := by
  have hB := below2 w (cmdO k t f n (.slice a l.length cap)) (cmdO k' t' f' n' (.slice b m.length cap'))
  by_cases c1 : k = k'
  · by_cases c2 : t = t'
    · by_cases c3 : f = f'
      · by_cases c4 : n = n'
        · have hr : sameB k t f n l k' t' f' n' m = decide (l = m) := by simp [sameB, c1, c2, c3, c4]
          rw [hr]
          subst c1 c2 c3 c4
          have h1 := conv_str (hl.below hB)
          have h2 := conv_str (hm.below hB)
          have he := hst
          generalize decide (l = m) = d at he ⊢
          generalize strOf l = x at h1 he
          generalize strOf m = y at h2 he
          generalize l.length = L at h1 h2 hB ⊢
          generalize m.length = M at h1 h2 hB ⊢
          have HE := Lib.hid he
          have HB := Lib.hid hB
          clear hl hm hst he hr hB
          go_enter Try.func36, Try.ntmps36
          go_wp2
          go_ret
          exact ⟨by (rw [HE.out]; rfl), HB.out⟩
        · have hr : sameB k t f n l k' t' f' n' m = false := by simp [sameB, c4]
          rw [hr]
          have e4 : (n == n') = false := by simpa using c4
          subst c1 c2 c3
          generalize l.length = L at hB ⊢
          generalize m.length = M at hB ⊢
          have HB := Lib.hid hB
          clear hl hm hst hr hB c4
          go_enter Try.func36, Try.ntmps36
          go_wp2
          go_ret
          exact ⟨rfl, HB.out⟩
      · have hr : sameB k t f n l k' t' f' n' m = false := by simp [sameB, c3]
        rw [hr]
        have e3 : (f == f') = false := by simpa using c3
        subst c1 c2
        generalize l.length = L at hB ⊢
        generalize m.length = M at hB ⊢
        have HB := Lib.hid hB
        clear hl hm hst hr hB c3
        go_enter Try.func36, Try.ntmps36
        go_wp2
        go_ret
        exact ⟨rfl, HB.out⟩
    · have hr : sameB k t f n l k' t' f' n' m = false := by simp [sameB, c2]
      rw [hr]
      have e2 : (t == t') = false := by simpa using c2
      subst c1
      generalize l.length = L at hB ⊢
      generalize m.length = M at hB ⊢
      have HB := Lib.hid hB
      clear hl hm hst hr hB c2
      go_enter Try.func36, Try.ntmps36
      go_wp2
      go_ret
      exact ⟨rfl, HB.out⟩
  · have hr : sameB k t f n l k' t' f' n' m = false := by simp [sameB, c1]
    rw [hr]
    have e1 : (k == k') = false := by simpa using c1
    generalize l.length = L at hB ⊢
    generalize m.length = M at hB ⊢
    have HB := Lib.hid hB
    clear hl hm hst hr hB c1
    go_enter Try.func36, Try.ntmps36
    go_wp2
    go_ret
    exact ⟨rfl, HB.out⟩
theorem rsame_any (k t f n k' t' f' n' : Int) (l m : List Int) (a b : Option Addr) (cap cap' : Nat) (w : World) (hl : BytesIn w a l cap) (hm : BytesIn w b m cap') (okl : OkB l) (okm : OkB m) :
    Calls Try.prog 36 #[cmdV k t f n (.slice a l.length cap), cmdV k' t' f' n' (.slice b m.length cap')] w (Gives (.bool (sameB k t f n l k' t' f' n' m)) w) :=
  rsame_core k t f n k' t' f' n' l m a b cap cap' w hl hm (str_eq okl okm)
theorem rsame_refl (k t f n : Int) (l : List Int) (a b : Option Addr) (cap cap' : Nat) (w : World) (hl : BytesIn w a l cap) (hm : BytesIn w b l cap') :
    Calls Try.prog 36 #[cmdV k t f n (.slice a l.length cap), cmdV k t f n (.slice b l.length cap')] w (Gives (.bool true) w) := by
  have h := rsame_core k t f n k t f n l l a b cap cap' w hl hm (by simp)
  rwa [sameB_refl] at h

end Go.Proofs.Ytefonhnidkfbgaa

/- Part of package command: no part, and the part of a Copy. -/
namespace Go.Proofs.Ytefonhnidkfbgaa
open Go.RowKit Go.Shelf Go.Proofs.Ytefonhnidkfbgaa.Plain01
set_option linter.unusedVariables false

/-- Five cells of a new block are written. -/
theorem below_put5 {B : Nat} {a w : World} (h : Below B a w) {b : Nat} (hb : B ≤ b) (v0 v1 v2 v3 v4 : Value) : Below B a (((((w.setCell ⟨b, 0, none⟩ v0).setCell ⟨b, 1, none⟩ v1).setCell ⟨b, 2, none⟩ v2).setCell ⟨b, 3, none⟩ v3).setCell ⟨b, 4, none⟩ v4) :=
  ((((h.setCell (p := ⟨b, 0, none⟩) hb _).setCell (p := ⟨b, 1, none⟩) hb _).setCell (p := ⟨b, 2, none⟩) hb _).setCell (p := ⟨b, 3, none⟩) hb _).setCell (p := ⟨b, 4, none⟩) hb _

/-- The zero command and false. -/
abbrev noPart : Value := .tuple #[cmdV 0 0 0 0 (.slice none 0 0), .bool false]

end Go.Proofs.Ytefonhnidkfbgaa

/- The example of the chapter. -/
namespace Go.Proofs.Ytefonhnidkfbgaa
open Go.RowKit Go.Shelf Go.Proofs.Ytefonhnidkfbgaa.Plain01
set_option linter.unusedVariables false

theorem bytes_nil (w : World) : BytesIn w none [] 0 := ⟨by simp, by omega, fun h => absurd h (by simp), fun _ => rfl⟩
theorem okB_nil : OkB [] := fun x hx => absurd hx (by simp)
theorem rsame_nil (k t f n k' t' f' n' : Int) (w : World) : Calls Try.prog 36 #[cmdV k t f n (.slice none 0 0), cmdV k' t' f' n' (.slice none 0 0)] w (Gives (.bool (sameB k t f n [] k' t' f' n' [])) w) :=
  rsame_any k t f n k' t' f' n' [] [] none none 0 0 w (bytes_nil w) (bytes_nil w) okB_nil okB_nil
end Go.Proofs.Ytefonhnidkfbgaa

/- CommandExtents returns true for every command, and changes nothing that was there. -/
namespace Go.Proofs.Ytefonhnidkfbgaa
open Go.RowKit Go.Shelf Go.Proofs.Ytefonhnidkfbgaa.Plain01
set_option linter.unusedVariables false

/-- What a valid command is. -/
theorem chk_ok {k t f n : Int} {L : Nat} (h : chk k t f n L = 0) : (k = 1 ∧ L = 0 ∧ n ≠ 0 ∧ okE (t, n) = true ∧ okE (f, n) = true) ∨ (k = 2 ∧ f = 0 ∧ n = 0 ∧ 0 < L ∧ okE (t, (L : Int)) = true) := by
  unfold chk wlen at h
  by_cases h1 : k = 1
  · subst h1
    simp only [if_true] at h
    rw [if_neg (by omega)] at h
    left
    by_cases hn : n = 0
    · rw [if_pos hn] at h; omega
    rw [if_neg hn] at h
    cases o1 : okE (t, n) with
    | false => rw [o1, if_pos rfl] at h; omega
    | true =>
      rw [o1, if_neg (by simp)] at h
      cases o2 : okE (f, n) with
      | false => rw [if_pos ⟨trivial, .inr o2⟩] at h; omega
      | true =>
        by_cases hL : 0 < L
        · rw [if_pos ⟨trivial, .inl hL⟩] at h; omega
        · exact ⟨rfl, by omega, hn, rfl, rfl⟩
  · by_cases h2 : k = 2
    · subst h2
      simp only [show ¬ ((2 : Int) = 1) by omega, if_false] at h
      rw [if_neg (by omega)] at h
      right
      by_cases hn : (L : Int) = 0
      · rw [if_pos hn] at h; omega
      rw [if_neg hn] at h
      cases o1 : okE (t, (L : Int)) with
      | false => rw [o1, if_pos rfl] at h; omega
      | true =>
        rw [o1, if_neg (by simp), if_neg (by simp)] at h
        by_cases hf : f ≠ 0 ∨ n ≠ 0
        · rw [if_pos ⟨trivial, hf⟩] at h; omega
        · exact ⟨rfl, by omega, by omega, by omega, rfl⟩
    · rw [if_pos ⟨h1, h2⟩] at h; omega

end Go.Proofs.Ytefonhnidkfbgaa
