/- IndexNil returns true for every list of extents and every extent, and changes nothing that was there. -/
import Derived.Test.YtfomidjhmdmmcaaE10n1
import Derived.Test.YtfomidjhmdmmcaaE10o2
namespace Go.Proofs.Ytfomidjhmdmmcaa
open Go.RowKit Go.Shelf Go.Proofs.Ytfomidjhmdmmcaa.Plain01
set_option linter.unusedVariables false
set_option linter.unusedSimpArgs false

/-- A block of extents of one's own, whatever they are. -/
def Free10 (W : World) (g n : Nat) : Prop := ∃ cur : Array Value, W.heap[g]? = some (.cells cur 30 (0, 0)) ∧ ∀ i, i < n * 2 → ∃ z : Int, cur[i]? = some (.int .i64 z)
theorem Free10.set {W : World} {g n : Nat} (h : Free10 W g n) (j : Nat) (z : Int) : Free10 (W.setCell ⟨g, j, none⟩ (.int .i64 z)) g n := by
  obtain ⟨cur, hg, hc⟩ := h
  refine ⟨_, heap_setCell_same W g j cur _ _ hg, fun i hi => ?_⟩
  obtain ⟨y, hy⟩ := hc i hi
  by_cases e : i = j
  · subst e
    have hlt := (Array.getElem?_eq_some_iff.1 hy).1
    exact ⟨z, by simp [hlt]⟩
  · exact ⟨y, by rw [Array.getElem?_setIfInBounds_ne (by omega), hy]⟩
theorem Free10.cell {W : World} {g n i : Nat} (h : Free10 W g n) (hi : i < n * 2) : ∃ z : Int, W.cell? ⟨g, i, none⟩ = some (.int .i64 z) ∧ W.frozen? ⟨g, i, none⟩ = false := by
  obtain ⟨cur, hg, hc⟩ := h
  obtain ⟨z, hz⟩ := hc i hi
  exact ⟨z, by rw [cell_of hg]; exact hz, by simp [World.frozen?, hg]⟩
theorem Free10.below {W W' : World} {g n : Nat} (h : Free10 W g n) (hb : Below W.heap.size W W') : Free10 W' g n := by
  obtain ⟨cur, hg, hc⟩ := h
  exact ⟨cur, heap_below hg hb, hc⟩
theorem flat10_int (l : List (Int × Int)) : ∀ i, i < l.length * 2 → ∃ z : Int, (flat10 l)[i]? = some (.int .i64 z) := fun i hi => by
  have h2 : i / 2 < l.length := by omega
  obtain ⟨q1, q2⟩ := flat10_get l (i / 2) _ (at10_get h2)
  by_cases e : i % 2 = 0
  · exact ⟨_, by rw [show i = i / 2 * 2 by omega]; exact q1⟩
  · exact ⟨_, by rw [show i = i / 2 * 2 + 1 by omega]; exact q2⟩
/-- An own row: its block. -/
theorem free10 {W : World} {base : Nat} {v : Value} {l : List (Int × Int)} (h : W.ownsRow base 30 2 v l.length (flat10 l)) : ∃ (a : Option Addr) (cap g : Nat), v = .slice a l.length cap ∧ ExtSlice W a l.length (at10 l) ∧ (0 < l.length → a = some ⟨g, 0, none⟩ ∧ base ≤ g ∧ g < W.heap.size ∧ Free10 W g l.length) := by
  obtain ⟨a, cap, hv, hs, _⟩ := row10 h rfl
  rcases h.2 with ⟨hn, h0⟩ | ⟨g, cap', cur, hv', hb, hg, hc1, hc2, hsz, htk⟩
  · exact ⟨a, cap, 0, hv, hs, fun hp => by omega⟩
  · refine ⟨a, cap, g, hv, hs, fun hp => ?_⟩
    rw [hv] at hv'
    injection hv' with h1
    refine ⟨h1, hb, (Array.getElem?_eq_some_iff.1 hg).1, cur, hg, fun i hi => ?_⟩
    obtain ⟨z, hz⟩ := flat10_int l i hi
    rw [← htk, List.getElem?_take, if_pos hi] at hz
    exact ⟨z, by simpa using hz⟩
theorem Idx10.keepH {H : Nat → Prop} {w w' : World} {B cap g : Nat} {a : Option Addr} {es : List (Int × Int)} (h : Idx10 w B a cap g es) (h1 : ¬ H B) (h2 : ¬ H g) (h3 : ∀ ad, a = some ad → ¬ H ad.block) (hb : KeepH H w.heap.size w w') : Idx10 w' B a cap g es := by
  have key : ∀ {k : Nat} {o : Obj}, w.heap[k]? = some o → ¬ H k → w'.heap[k]? = some o := fun {k o} hk hh => (hb.block k (Array.getElem?_eq_some_iff.1 hk).1 hh).trans hk
  refine ⟨key h.box h1, fun hp => ?_, key h.pos h2, h.few, h.lcap, h.capb⟩
  obtain ⟨b, o, rfl, hr⟩ := h.row hp
  refine ⟨b, o, rfl, fun i hi => ?_⟩
  have hbk := hb.block b (hr.lt hp) (h3 _ rfl)
  exact ⟨(World.cell?_of_block hbk).trans (hr i hi).1, (World.cell?_of_block hbk).trans (hr i hi).2⟩
theorem KeepH.belowB {H : Nat → Prop} {base : Nat} {w0 w w' : World} (h0 : Below base w0 w) (h : KeepH H w.heap.size w w') (hH : ∀ k, H k → base ≤ k) (hb : base ≤ w.heap.size) : Below base w0 w' :=
  h0.trans ⟨h.os, h.tape, h.output, h.size, fun k hk => h.block k (by omega) (fun hk2 => by have := hH k hk2; omega)⟩

set_option maxRecDepth 100000 in
set_option maxHeartbeats 4000000 in
theorem indexNil_big (a : Option Addr) (es : List (Int × Int)) (cap : Nat) (e : Int × Int) (w : World) (hL : 60 < es.length) :
    Calls Try.prog 8 #[.slice a es.length cap, extV e] w (Gives (.bool true) w) := by
  have ha := alive10_any
  have e1 : decide ((60 : Int) < (es.length : Int)) = true := by simp; omega
  generalize es.length = L at *
  obtain ⟨W0, hW0⟩ : ∃ W0, w.alloc (.cells #[.int .i64 e.1, .int .i64 e.2] 30) = W0 := ⟨_, rfl⟩
  have HB0 : Hid (Below w.heap.size w W0) := Lib.hid (by rw [← hW0]; exact (Below.refl _ w).alloc (Nat.le_refl _) _)
  have HW0 := Lib.hid hW0
  clear hW0
  go_enter Try.func8, Try.ntmps8
  go_wp2_with fail
  rw [HW0.out]
  refine (ha _).mono ?_
  rintro e w2 ⟨rfl, hb2⟩
  have HB2 := Lib.hid (HB0.out.trans (hb2.mono HB0.out.size))
  clear hb2
  go_wp2
  go_ret
  exact ⟨rfl, HB2.out⟩
set_option maxRecDepth 100000 in
set_option maxHeartbeats 4000000 in
theorem indexNil_not (a : Option Addr) (es : List (Int × Int)) (cap : Nat) (e : Int × Int) (w : World) (h : ExtSlice w a es.length (at10 es)) (hi : ∀ x ∈ es, I64 x.1 ∧ I64 x.2) (hL : es.length ≤ 60) (hR : ¬ Right10 es) :
    Calls Try.prog 8 #[.slice a es.length cap, extV e] w (Gives (.bool true) w) := by
  have ha := alive10_any
  have HRR := Lib.hid (fun W (hW : Below w.heap.size w W) => rxright_any a es cap W (h.below hW) hi (by omega))
  rw [decide_eq_false hR] at HRR
  clear h hi hR
  generalize es.length = L at *
  obtain ⟨W0, hW0⟩ : ∃ W0, w.alloc (.cells #[.int .i64 e.1, .int .i64 e.2] 30) = W0 := ⟨_, rfl⟩
  have HB0 : Hid (Below w.heap.size w W0) := Lib.hid (by rw [← hW0]; exact (Below.refl _ w).alloc (Nat.le_refl _) _)
  have hr := HRR.out _ HB0.out
  have HW0 := Lib.hid hW0
  clear hW0
  go_enter Try.func8, Try.ntmps8
  go_wp2_with fail
  rw [HW0.out]
  go_wp2_with fail
  refine hr.mono ?_
  rintro e1 w1 ⟨rfl, hb1⟩
  have HB1 := Lib.hid (HB0.out.trans (hb1.mono HB0.out.size))
  clear hr hb1
  go_wp2_with fail
  refine (ha _).mono ?_
  rintro e2 w2 ⟨rfl, hb2⟩
  have HB2 := Lib.hid (HB1.out.trans (hb2.mono HB1.out.size))
  clear hb2
  go_wp2
  go_ret
  exact ⟨rfl, HB2.out⟩
set_option maxRecDepth 100000 in
set_option maxHeartbeats 4000000 in
theorem indexNil_bad (a : Option Addr) (es : List (Int × Int)) (cap : Nat) (e : Int × Int) (w : World) (h : ExtSlice w a es.length (at10 es)) (hi : ∀ x ∈ es, I64 x.1 ∧ I64 x.2) (hL : es.length ≤ 60) (hR : Right10 es) (hei : I64 e.1 ∧ I64 e.2) (he : okE e = false) :
    Calls Try.prog 8 #[.slice a es.length cap, extV e] w (Gives (.bool true) w) := by
  have ha := alive10_any
  have HRR := Lib.hid (fun W (hW : Below w.heap.size w W) => rxright_any a es cap W (h.below hW) hi (by omega))
  rw [decide_eq_true hR] at HRR
  have hv := rvalid_gives e hei.1 hei.2
  rw [he] at hv
  clear h hi hR hei he
  generalize es.length = L at *
  obtain ⟨W0, hW0⟩ : ∃ W0, w.alloc (.cells #[.int .i64 e.1, .int .i64 e.2] 30) = W0 := ⟨_, rfl⟩
  have HB0 : Hid (Below w.heap.size w W0) := Lib.hid (by rw [← hW0]; exact (Below.refl _ w).alloc (Nat.le_refl _) _)
  have HE0 : Hid (W0.heap[w.heap.size]? = some (.cells #[.int .i64 e.1, .int .i64 e.2] 30 (0, 0))) := Lib.hid (by rw [← hW0]; exact heap_new _ _ rfl)
  have hr := HRR.out _ HB0.out
  have HW0 := Lib.hid hW0
  clear hW0
  go_enter Try.func8, Try.ntmps8
  go_wp2_with fail
  rw [HW0.out]
  go_wp2_with fail
  refine hr.mono ?_
  rintro e1 w1 ⟨rfl, hb1⟩
  have HB1 := Lib.hid (HB0.out.trans (hb1.mono HB0.out.size))
  have hx := heap_below HE0.out hb1
  have x0 : w1.cell? ⟨w.heap.size, 0, none⟩ = some (.int .i64 e.1) := cell_of hx 0
  have x1 : w1.cell? ⟨w.heap.size, 1, none⟩ = some (.int .i64 e.2) := cell_of hx 1
  clear hr hb1 hx
  go_wp2_with fail
  refine (hv _).mono ?_
  rintro e2 w2 ⟨rfl, hb2⟩
  have HB2 := Lib.hid (HB1.out.trans (hb2.mono HB1.out.size))
  clear hb2 hv x0 x1
  go_wp2_with fail
  refine (ha _).mono ?_
  rintro e3 w3 ⟨rfl, hb3⟩
  have HB3 := Lib.hid (HB2.out.trans (hb3.mono HB2.out.size))
  clear hb3
  go_wp2
  go_ret
  exact ⟨rfl, HB3.out⟩
set_option maxRecDepth 100000 in
set_option maxHeartbeats 8000000 in
theorem indexNil_good (a : Option Addr) (es : List (Int × Int)) (cap : Nat) (e : Int × Int) (w : World) (h : ExtSlice w a es.length (at10 es)) (hi : ∀ x ∈ es, I64 x.1 ∧ I64 x.2) (hL : es.length ≤ 60) (hR : Right10 es) (hei : I64 e.1 ∧ I64 e.2) (he : okE e = true) :
    Calls Try.prog 8 #[.slice a es.length cap, extV e] w (Gives (.bool true) w) := by
  have ha := Lib.hid alive10_any
  have HRR := Lib.hid (fun W (hW : Below w.heap.size w W) => rxright_any a es cap W (h.below hW) hi (by omega))
  rw [decide_eq_true hR] at HRR
  have hv := rvalid_gives e hei.1 hei.2
  rw [he] at hv
  have HNEW := Lib.hid (fun W ab capb (hW : ExtSlice W ab es.length (at10 es)) => new10_any ab es capb W hW hi (by omega))
  have HRM := Lib.hid (fun W (hW : Below w.heap.size w W) => rmeet10_any a es cap e he W (h.below hW) hR (by omega))
  have HRC := Lib.hid (fun W (hW : Below w.heap.size w W) => rcovered10_any a es cap e he W (h.below hW) hR (by omega))
  have HC := Lib.hid h
  have HR := Lib.hid hR
  have HE := Lib.hid he
  have HML : Hid ((meet10 es e).length ≤ 1000000) := Lib.hid (by
    have : (meet10 es e).length ≤ es.length := by
      unfold meet10
      refine Nat.le_trans (List.length_filter_le _ _) ?_
      rw [(ord10_perm es).length_eq]
      simp
    omega)
  have HSL : Hid ((srt10 es).length = es.length) := Lib.hid (srt10_length es)
  obtain ⟨L, hLe⟩ : ∃ L, L = es.length := ⟨_, rfl⟩
  have HL := Lib.hid hLe
  rw [← hLe] at hL HRR HNEW HRM HRC HSL ⊢
  obtain ⟨W0, hW0⟩ : ∃ W0, w.alloc (.cells #[.int .i64 e.1, .int .i64 e.2] 30) = W0 := ⟨_, rfl⟩
  have HB0 : Hid (Below w.heap.size w W0) := Lib.hid (by rw [← hW0]; exact (Below.refl _ w).alloc (Nat.le_refl _) _)
  have HE0 : Hid (W0.heap[w.heap.size]? = some (.cells #[.int .i64 e.1, .int .i64 e.2] 30 (0, 0))) := Lib.hid (by rw [← hW0]; exact heap_new _ _ rfl)
  have hr := HRR.out _ HB0.out
  have HW0 := Lib.hid hW0
  clear h hi hR hei he hLe hW0
  go_enter Try.func8, Try.ntmps8
  go_wp2_with fail
  rw [HW0.out]
  go_wp2_with fail
  refine hr.mono ?_
  rintro e1 w1 ⟨rfl, hb1⟩
  have HB1 := Lib.hid (HB0.out.trans (hb1.mono HB0.out.size))
  have hx := heap_below HE0.out hb1
  have x0 : w1.cell? ⟨w.heap.size, 0, none⟩ = some (.int .i64 e.1) := cell_of hx 0
  have x1 : w1.cell? ⟨w.heap.size, 1, none⟩ = some (.int .i64 e.2) := cell_of hx 1
  have HX1 := Lib.hid hx
  clear hr hb1 hx
  go_wp2_with fail
  refine (hv _).mono ?_
  rintro e2 w2 ⟨rfl, hb2⟩
  have HB2 := Lib.hid (HB1.out.trans (hb2.mono HB1.out.size))
  have HX2 := Lib.hid (heap_below HX1.out hb2)
  have hsrc : ExtSlice w2 a es.length (at10 es) := HC.out.below HB2.out
  clear hb2 hv x0 x1 HX1
  go_wp2_with (refine wpList_copy10 rfl (.tmp 25) (.tmp 26) a es L cap HL.out rfl rfl rfl hsrc (by rw [← HL.out]; omega) ?_; intro v4 w4 hown4 hb4; clear hsrc)
  obtain ⟨a4, cap4, g4, rfl, hs4, hf4⟩ := free10 hown4
  rw [← HL.out] at hs4 hf4 ⊢
  have hnew := HNEW.out w4 a4 cap4 hs4
  have HB4 := Lib.hid (HB2.out.trans (hb4.mono HB2.out.size))
  have HX4 := Lib.hid (heap_below HX2.out hb4)
  have HF4 := Lib.hid hf4
  have HG4 : Hid (0 < L → w.heap.size < g4) := Lib.hid fun hp => Nat.lt_of_lt_of_le (Array.getElem?_eq_some_iff.1 HX2.out).1 (hf4 hp).2.1
  have HC4 := Lib.hid (fun (hp : 0 < L) => (HC.out.below HB2.out))
  have HG2 : Hid (0 < L → w2.heap.size ≤ g4) := Lib.hid fun hp => (hf4 hp).2.1
  clear hown4 hs4 hf4 hb4 HX2 HNEW
  go_wp2_with fail
  refine hnew.mono ?_
  rintro e5 w5 ⟨hy, _, hb5⟩
  obtain ⟨B, a', cap', g, rfl, hX, hn1, hn2, hn3⟩ := hy HR.out
  have HN := Lib.hid (And.intro hn1 (And.intro hn2 hn3))
  have HI5 := Lib.hid hX
  have HB5 := Lib.hid (HB4.out.trans (hb5.mono HB4.out.size))
  have HX5 := Lib.hid (heap_below HX4.out hb5)
  have HF5 : Hid (0 < L → Free10 w5 g4 L) := Lib.hid fun hp => (HF4.out hp).2.2.2.below hb5
  have e5 : ((some ⟨B, 0, none⟩ : Option Addr) == none) = false := rfl
  clear hy hX hb5 HX4 hn1 hn2 hn3 hnew
  go_wp2_with fail
  go_loopw [7, 34] (fun v7 vi wr => ∃ k : Nat, k ≤ L ∧ vi = .int .i64 k ∧ KeepH (fun q => 0 < L ∧ q = g4) w5.heap.size w5 wr ∧ Hid (0 < L → Free10 wr g4 L)) (fun _ vi _ => L - (intOf vi).toNat)
  case atStart => exact ⟨0, Nat.zero_le _, rfl, KeepH.of_below (Below.refl _ _) (Nat.le_refl _), HF5⟩
  case round =>
    obtain ⟨k, hk, rfl, hB, hFR⟩ := hrel
    by_cases hlt : k < L
    · obtain ⟨rfl, _⟩ := HF4.out (by omega)
      obtain ⟨z, c0, f0⟩ := (hFR.out (by omega)).cell (i := k * 2) (by omega)
      have HST := Lib.hid (fun (y : Int) (_ : 0 < L) => (hFR.out (by omega)).set (k * 2) y)
      have HKH : Hid (∀ y : Int, KeepH (fun q => 0 < L ∧ q = g4) w5.heap.size w5 (wr.setCell ⟨g4, k * 2, none⟩ (.int .i64 y))) := Lib.hid fun y => hB.trans ⟨rfl, rfl, rfl, by simp, fun q hq hn => heap_setCell_other _ _ _ _ (show q ≠ g4 from fun e => hn ⟨by omega, e⟩)⟩
      clear hB hFR
      go_wp2
      go_roundw
      case rel => exact ⟨k + 1, by omega, by go_num, HKH.out _, Lib.hid (HST.out _)⟩
      case measure => simp [intOf]; omega
    · obtain rfl : k = L := by omega
      have HIr : Hid (Idx10 wr B a' cap' g es) := Lib.hid (HI5.out.keepH (fun h => by have := (HF4.out h.1).2.2.1; have := HN.out.1; omega) (fun h => by have := (HF4.out h.1).2.2.1; have := HN.out.2.1; omega) (fun ad had h => by have := (HF4.out h.1).2.2.1; have := HN.out.2.2 ad had; omega) hB)
      have HXr : Hid (wr.heap[w.heap.size]? = some (.cells #[.int .i64 e.1, .int .i64 e.2] 30 (0, 0))) := Lib.hid ((hB.block _ (Array.getElem?_eq_some_iff.1 HX5.out).1 (fun h => by have := HG4.out h.1; omega)).trans HX5.out)
      have HBr : Hid (Below w.heap.size w wr) := Lib.hid (KeepH.belowB HB5.out hB (fun q h => by have := HG4.out h.1; omega) HB5.out.size)
      obtain ⟨WO, hWO⟩ : ∃ WO, WO = wr := ⟨_, rfl⟩
      subst hWO
      have hs := xsorted_any B cap' g a' es WO HIr.out
      clear hB hFR HF4 HF5 HI5 HX5 HN HG4 HG2 HC4
      go_wp2_with fail
      refine hs.mono ?_
      rintro e6 w6 ⟨v6, rfl, hrow6, hb6⟩
      obtain ⟨a6, cap6, g6, rfl, _, hf6⟩ := free10 hrow6
      rw [HSL.out] at hf6 ⊢
      have HF6 := Lib.hid hf6
      have HB6 := Lib.hid hb6
      clear hs hrow6 hf6 hb6
      go_wp2_with fail
      go_loopw [9, 50] (fun v9 vi wr => ∃ q : Nat, q ≤ k ∧ vi = .int .i64 q ∧ Below WO.heap.size WO wr ∧ Hid (0 < k → Free10 wr g6 k)) (fun _ vi _ => k - (intOf vi).toNat)
      case atStart => exact ⟨0, Nat.zero_le _, rfl, HB6.out, Lib.hid (fun hp => (HF6.out hp).2.2.2)⟩
      case round =>
        obtain ⟨q, hq, rfl, hB, hFR⟩ := hrel
        by_cases hlt2 : q < k
        · obtain ⟨rfl, hg6, _⟩ := HF6.out (by omega)
          obtain ⟨z, c0, f0⟩ := (hFR.out (by omega)).cell (i := q * 2 + 1) (by omega)
          have HST := Lib.hid (fun (y : Int) (_ : 0 < k) => (hFR.out (by omega)).set (q * 2 + 1) y)
          have HKH : Hid (∀ y : Int, Below WO.heap.size WO (World.setCell wr ⟨g6, q * 2 + 1, none⟩ (.int .i64 y))) := Lib.hid fun y => hB.setCell (p := ⟨g6, q * 2 + 1, none⟩) hg6 _
          clear hB hFR
          go_wp2
          go_roundw
          case rel => exact ⟨q + 1, by omega, by go_num, HKH.out _, Lib.hid (HST.out _)⟩
          case measure => simp [intOf]; omega
        · obtain rfl : q = k := by omega
          clear HF6 hFR
          have KA : Hid (∀ W, Below wr.heap.size wr W → W.cell? ⟨w.heap.size, 0, none⟩ = some (.int .i64 e.1) ∧ W.cell? ⟨w.heap.size, 1, none⟩ = some (.int .i64 e.2)) := Lib.hid fun W hW => by
            have h := heap_below HXr.out (hB.trans (hW.mono hB.size))
            exact ⟨cell_of h 0, cell_of h 1⟩
          have HBs := Lib.hid (HBr.out.trans (hB.mono HBr.out.size))
          have KI := Lib.hid (fun W (hW : Below wr.heap.size wr W) => HIr.out.below (hB.trans (hW.mono hB.size)))
          have KM := Lib.hid (fun W (hW : Below wr.heap.size wr W) => meet10_any B cap' g a' es HR.out e HE.out W (KI.out W hW))
          have KC := Lib.hid (fun W (hW : Below wr.heap.size wr W) => covered10_any B cap' g a' es HR.out e HE.out W (KI.out W hW))
          have KRM := Lib.hid (fun W (hW : Below wr.heap.size wr W) => HRM.out W (HBs.out.trans (hW.mono HBs.out.size)))
          have KRC := Lib.hid (fun W (hW : Below wr.heap.size wr W) => HRC.out W (HBs.out.trans (hW.mono HBs.out.size)))
          have KEQ := Lib.hid (fun (W : World) (p q : Option Addr) (c d : Nat) (h1 : IntsIn W p (meet10 es e)) (h2 : IntsIn W q (meet10 es e)) => eqint_any p q _ _ c d W h1 h2 HML.out HML.out)
          clear HRM HRC HR HE HML HIr HXr hB KI
          generalize meet10 es e = mm at KM KRM KEQ
          generalize cov10 es e = n at KC KRC
          go_wp2_with fail
          refine wp_region_loose
            [IsV (.bool true), IsV (.bool true), IsV (.pointer (some ⟨B, 0, none⟩)), IsV (extV e), IntsV mm, IsV (.slice a q cap), IsV (extV e), IntsV mm, IsV (.bool true), IsV (.bool true), IsV (.bool true), IsV (.pointer (some ⟨B, 0, none⟩)), IsV (extV e), IsV (.int .i64 n), IsV (.slice a q cap), IsV (extV e), IsV (.int .i64 n), IsV (.bool true), IsV (.bool true), IsV (.bool true), IsV (.pointer none), IsV (.int .i64 0), IsV (.bool true), IsV (.bool true), IsV (.bool true), IsV (.pointer none), IsV (.int .i64 (-1)), IsV (.bool true), IsV (.bool true), IsV (.bool true), IsV (.pointer none), IsV (extV e), IntsV [], IsV (.int .i64 0), IsV (.bool true), IsV (.bool true), IsV (.bool true), IsV (.pointer none), IsV (extV e), IsV (.int .i64 0), IsV (.bool true), IsV (.bool true), IsV (.bool true), IsV (.pointer none), IsV (extV e), ExtsV [], IsV (.int .i64 0), IsV (.bool true), IsV (.bool true), IsV (.bool true), IsV (.pointer none), IsV (.slice none 0 0), IsV (.int .i64 0), IsV (.bool true), IsV (.bool true), IsV (.bool true)]
            [⟨62, [], []⟩, ⟨63, [(0, 62)], []⟩, ⟨64, [(1, 63)], [6]⟩, ⟨65, [(1, 63)], [3]⟩, ⟨66, [(1, 63), (2, 64), (3, 65)], []⟩, ⟨67, [(1, 63)], [0]⟩, ⟨68, [(1, 63)], [3]⟩, ⟨69, [(1, 63), (5, 67), (6, 68)], []⟩, ⟨70, [(1, 63), (4, 66), (7, 69)], []⟩, ⟨71, [(1, 63), (8, 70)], []⟩, ⟨72, [(9, 71)], []⟩, ⟨73, [(10, 72)], [6]⟩, ⟨74, [(10, 72)], [3]⟩, ⟨75, [(10, 72), (11, 73), (12, 74)], []⟩, ⟨76, [(10, 72)], [0]⟩, ⟨77, [(10, 72)], [3]⟩, ⟨78, [(10, 72), (14, 76), (15, 77)], []⟩, ⟨79, [(10, 72), (13, 75), (16, 78)], []⟩, ⟨80, [(10, 72), (17, 79)], []⟩, ⟨81, [(18, 80)], []⟩, ⟨82, [(19, 81)], [10]⟩, ⟨83, [(19, 81), (20, 82)], []⟩, ⟨84, [(19, 81), (21, 83)], []⟩, ⟨85, [(19, 81), (22, 84)], []⟩, ⟨86, [(23, 85)], []⟩, ⟨87, [(24, 86)], [10]⟩, ⟨88, [(24, 86), (25, 87)], []⟩, ⟨89, [(24, 86), (26, 88)], []⟩, ⟨90, [(24, 86), (27, 89)], []⟩, ⟨91, [(28, 90)], []⟩, ⟨92, [(29, 91)], [10]⟩, ⟨93, [(29, 91)], [3]⟩, ⟨94, [(29, 91), (30, 92), (31, 93)], []⟩, ⟨95, [(29, 91), (32, 94)], []⟩, ⟨96, [(29, 91), (33, 95)], []⟩, ⟨97, [(29, 91), (34, 96)], []⟩, ⟨98, [(35, 97)], []⟩, ⟨99, [(36, 98)], [10]⟩, ⟨100, [(36, 98)], [3]⟩, ⟨101, [(36, 98), (37, 99), (38, 100)], []⟩, ⟨102, [(36, 98), (39, 101)], []⟩, ⟨103, [(36, 98), (40, 102)], []⟩, ⟨104, [(41, 103)], []⟩, ⟨105, [(42, 104)], [10]⟩, ⟨106, [(42, 104)], [3]⟩, ⟨107, [(42, 104), (43, 105), (44, 106)], []⟩, ⟨108, [(42, 104), (45, 107)], []⟩, ⟨109, [(42, 104), (46, 108)], []⟩, ⟨110, [(42, 104), (47, 109)], []⟩, ⟨111, [(48, 110)], []⟩, ⟨112, [(49, 111)], [10]⟩, ⟨113, [(49, 111), (50, 112)], []⟩, ⟨114, [(49, 111), (51, 113)], []⟩, ⟨115, [(49, 111), (52, 114)], []⟩, ⟨116, [(49, 111), (53, 115)], []⟩, ⟨4, [(54, 116)], []⟩]
            (fun W => Below wr.heap.size wr W) (fun W W' => Below W.heap.size W W') (by kernel_rfl) (by kernel_rfl) rfl rfl (Below.refl _ wr).drew ?_
            ⟨?_, ?_, ?_, ?_, ?_, ?_, ?_, ?_, ?_, ?_, ?_, ?_, ?_, ?_, ?_, ?_, ?_, ?_, ?_, ?_, ?_, ?_, ?_, ?_, ?_, ?_, ?_, ?_, ?_, ?_, ?_, ?_, ?_, ?_, ?_, ?_, ?_, ?_, ?_, ?_, ?_, ?_, ?_, ?_, ?_, ?_, ?_, ?_, ?_, ?_, ?_, ?_, ?_, ?_, ?_, ?_, trivial⟩ ?_
          · repeat (first | (intro _ h; cases h; done) | refine List.forall_mem_cons.2 ⟨stable_V _ _, ?_⟩ | refine List.forall_mem_cons.2 ⟨stable_exts10 _, ?_⟩ | refine List.forall_mem_cons.2 ⟨stable_ints _, ?_⟩)
          · intro A W hC hd hx
            refine ⟨fun g hg => (by cases hg), ?_⟩
            refine loose_call rfl Try.func9 (by kernel_rfl) (by kernel_rfl) ?_
            rw [show (#[] : Array Operand).map A.eval = #[] by simp]
            refine (ha.out W).mono ?_
            rintro e' W' ⟨rfl, h4⟩
            exact ⟨_, rfl, rfl, hC.trans (h4.mono hC.size), h4⟩
          · intro A W hC hd hx
            have hk : ∀ v, A.eval (.const v) = v := fun _ => rfl
            simp [factOf] at hd
            generalize A.eval = ρ at hd hk ⊢
            simp [go_sem, looseUpon, factOf, hd, hk]
            exact ⟨hC, Below.refl _ _⟩
          · intro A W hC hd hx
            have hk : ∀ v, A.eval (.const v) = v := fun _ => rfl
            have hy0 : A.eval (.tmp 6) = .pointer (some ⟨B, 0, none⟩) := hx 6 (by simp)
            simp [factOf] at hd
            generalize A.eval = ρ at hd hk hy0 ⊢
            simp [go_sem, looseUpon, factOf, hd, hk, hy0]
            exact ⟨hC, Below.refl _ _⟩
          · intro A W hC hd hx
            have hk : ∀ v, A.eval (.const v) = v := fun _ => rfl
            have hy0 : A.eval (.tmp 3) = .pointer (some ⟨w.heap.size, 0, none⟩) := hx 3 (by simp)
            have c0 := (KA.out W hC).1
            have c1 := (KA.out W hC).2
            simp [factOf] at hd
            generalize A.eval = ρ at hd hk hy0 ⊢
            simp [go_sem, looseUpon, factOf, hd, hk, hy0, c0, c1]
            exact ⟨hC, Below.refl _ _⟩
          · intro A W hC hd hx
            have hk : ∀ v, A.eval (.const v) = v := fun _ => rfl
            simp [factOf] at hd
            obtain ⟨hd0, hd1, hd2⟩ := hd
            refine ⟨fun g hg q hq hq1 => (by cases hg; simp at hq; rcases hq with rfl | rfl | rfl <;> first | exact hd0 | simp at hq1), ?_⟩
            refine loose_call rfl Try.func19 (by kernel_rfl) (by kernel_rfl) ?_
            simp only [List.map_toArray, List.map_cons, List.map_nil, hk, hd1, hd2]
            refine (KM.out W hC).mono ?_
            rintro e' W' h4
            obtain ⟨v, rfl, h5, h6⟩ := MeetPost.intsV h4
            exact ⟨_, rfl, h5, hC.trans (h6.mono hC.size), h6⟩
          · intro A W hC hd hx
            have hk : ∀ v, A.eval (.const v) = v := fun _ => rfl
            have hy0 : A.eval (.tmp 0) = .slice a q cap := hx 0 (by simp)
            simp [factOf] at hd
            generalize A.eval = ρ at hd hk hy0 ⊢
            simp [go_sem, looseUpon, factOf, hd, hk, hy0]
            exact ⟨hC, Below.refl _ _⟩
          · intro A W hC hd hx
            have hk : ∀ v, A.eval (.const v) = v := fun _ => rfl
            have hy0 : A.eval (.tmp 3) = .pointer (some ⟨w.heap.size, 0, none⟩) := hx 3 (by simp)
            have c0 := (KA.out W hC).1
            have c1 := (KA.out W hC).2
            simp [factOf] at hd
            generalize A.eval = ρ at hd hk hy0 ⊢
            simp [go_sem, looseUpon, factOf, hd, hk, hy0, c0, c1]
            exact ⟨hC, Below.refl _ _⟩
          · intro A W hC hd hx
            have hk : ∀ v, A.eval (.const v) = v := fun _ => rfl
            simp [factOf] at hd
            obtain ⟨hd0, hd1, hd2⟩ := hd
            refine ⟨fun g hg q hq hq1 => (by cases hg; simp at hq; rcases hq with rfl | rfl | rfl <;> first | exact hd0 | simp at hq1), ?_⟩
            refine loose_call rfl Try.func20 (by kernel_rfl) (by kernel_rfl) ?_
            simp only [List.map_toArray, List.map_cons, List.map_nil, hk, hd1, hd2]
            refine (KRM.out W hC).mono ?_
            rintro e' W' h4
            obtain ⟨v, rfl, h5, h6⟩ := MeetPost.intsV h4
            exact ⟨_, rfl, h5, hC.trans (h6.mono hC.size), h6⟩
          · intro A W hC hd hx
            simp [factOf] at hd
            obtain ⟨hd0, ⟨p, c, hd1, hi1⟩, ⟨p2, d, hd2, hi2⟩⟩ := hd
            refine ⟨fun g hg q hq hq1 => (by cases hg; simp at hq; rcases hq with rfl | rfl | rfl <;> first | exact hd0 | simp at hq1), ?_⟩
            refine loose_call rfl Try.func18 (by kernel_rfl) (by kernel_rfl) ?_
            simp only [List.map_toArray, List.map_cons, List.map_nil, hd1, hd2]
            refine (KEQ.out W p p2 c d hi1 hi2).mono ?_
            rintro e' W' ⟨rfl, h4⟩
            exact ⟨_, rfl, by simp [factOf, IsV], hC.trans (h4.mono hC.size), h4⟩
          · intro A W hC hd hx
            have hk : ∀ v, A.eval (.const v) = v := fun _ => rfl
            simp [factOf] at hd
            generalize A.eval = ρ at hd hk ⊢
            simp [go_sem, looseUpon, factOf, hd, hk]
            exact ⟨hC, Below.refl _ _⟩
          · intro A W hC hd hx
            have hk : ∀ v, A.eval (.const v) = v := fun _ => rfl
            simp [factOf] at hd
            generalize A.eval = ρ at hd hk ⊢
            simp [go_sem, looseUpon, factOf, hd, hk]
            exact ⟨hC, Below.refl _ _⟩
          · intro A W hC hd hx
            have hk : ∀ v, A.eval (.const v) = v := fun _ => rfl
            have hy0 : A.eval (.tmp 6) = .pointer (some ⟨B, 0, none⟩) := hx 6 (by simp)
            simp [factOf] at hd
            generalize A.eval = ρ at hd hk hy0 ⊢
            simp [go_sem, looseUpon, factOf, hd, hk, hy0]
            exact ⟨hC, Below.refl _ _⟩
          · intro A W hC hd hx
            have hk : ∀ v, A.eval (.const v) = v := fun _ => rfl
            have hy0 : A.eval (.tmp 3) = .pointer (some ⟨w.heap.size, 0, none⟩) := hx 3 (by simp)
            have c0 := (KA.out W hC).1
            have c1 := (KA.out W hC).2
            simp [factOf] at hd
            generalize A.eval = ρ at hd hk hy0 ⊢
            simp [go_sem, looseUpon, factOf, hd, hk, hy0, c0, c1]
            exact ⟨hC, Below.refl _ _⟩
          · intro A W hC hd hx
            have hk : ∀ v, A.eval (.const v) = v := fun _ => rfl
            simp [factOf] at hd
            obtain ⟨hd0, hd1, hd2⟩ := hd
            refine ⟨fun g hg q hq hq1 => (by cases hg; simp at hq; rcases hq with rfl | rfl | rfl <;> first | exact hd0 | simp at hq1), ?_⟩
            refine loose_call rfl Try.func21 (by kernel_rfl) (by kernel_rfl) ?_
            simp only [List.map_toArray, List.map_cons, List.map_nil, hk, hd1, hd2]
            refine (KC.out W hC).mono ?_
            rintro e' W' ⟨rfl, h4⟩
            exact ⟨_, rfl, rfl, hC.trans (h4.mono hC.size), h4⟩
          · intro A W hC hd hx
            have hk : ∀ v, A.eval (.const v) = v := fun _ => rfl
            have hy0 : A.eval (.tmp 0) = .slice a q cap := hx 0 (by simp)
            simp [factOf] at hd
            generalize A.eval = ρ at hd hk hy0 ⊢
            simp [go_sem, looseUpon, factOf, hd, hk, hy0]
            exact ⟨hC, Below.refl _ _⟩
          · intro A W hC hd hx
            have hk : ∀ v, A.eval (.const v) = v := fun _ => rfl
            have hy0 : A.eval (.tmp 3) = .pointer (some ⟨w.heap.size, 0, none⟩) := hx 3 (by simp)
            have c0 := (KA.out W hC).1
            have c1 := (KA.out W hC).2
            simp [factOf] at hd
            generalize A.eval = ρ at hd hk hy0 ⊢
            simp [go_sem, looseUpon, factOf, hd, hk, hy0, c0, c1]
            exact ⟨hC, Below.refl _ _⟩
          · intro A W hC hd hx
            have hk : ∀ v, A.eval (.const v) = v := fun _ => rfl
            simp [factOf] at hd
            obtain ⟨hd0, hd1, hd2⟩ := hd
            refine ⟨fun g hg q hq hq1 => (by cases hg; simp at hq; rcases hq with rfl | rfl | rfl <;> first | exact hd0 | simp at hq1), ?_⟩
            refine loose_call rfl Try.func22 (by kernel_rfl) (by kernel_rfl) ?_
            simp only [List.map_toArray, List.map_cons, List.map_nil, hk, hd1, hd2]
            refine (KRC.out W hC).mono ?_
            rintro e' W' ⟨rfl, h4⟩
            exact ⟨_, rfl, rfl, hC.trans (h4.mono hC.size), h4⟩
          · intro A W hC hd hx
            have hk : ∀ v, A.eval (.const v) = v := fun _ => rfl
            simp [factOf] at hd
            generalize A.eval = ρ at hd hk ⊢
            simp [go_sem, looseUpon, factOf, hd, hk]
            exact ⟨hC, Below.refl _ _⟩
          · intro A W hC hd hx
            have hk : ∀ v, A.eval (.const v) = v := fun _ => rfl
            simp [factOf] at hd
            generalize A.eval = ρ at hd hk ⊢
            simp [go_sem, looseUpon, factOf, hd, hk]
            exact ⟨hC, Below.refl _ _⟩
          · intro A W hC hd hx
            have hk : ∀ v, A.eval (.const v) = v := fun _ => rfl
            simp [factOf] at hd
            generalize A.eval = ρ at hd hk ⊢
            simp [go_sem, looseUpon, factOf, hd, hk]
            exact ⟨hC, Below.refl _ _⟩
          · intro A W hC hd hx
            have hk : ∀ v, A.eval (.const v) = v := fun _ => rfl
            have hy0 : A.eval (.tmp 10) = .pointer none := hx 10 (by simp)
            simp [factOf] at hd
            generalize A.eval = ρ at hd hk hy0 ⊢
            simp [go_sem, looseUpon, factOf, hd, hk, hy0]
            exact ⟨hC, Below.refl _ _⟩
          · intro A W hC hd hx
            have hk : ∀ v, A.eval (.const v) = v := fun _ => rfl
            simp [factOf] at hd
            obtain ⟨hd0, hd1⟩ := hd
            refine ⟨fun g hg q hq hq1 => (by cases hg; simp at hq; rcases hq with rfl | rfl <;> first | exact hd0 | simp at hq1), ?_⟩
            refine loose_call rfl Try.func12 (by kernel_rfl) (by kernel_rfl) ?_
            simp only [List.map_toArray, List.map_cons, List.map_nil, hk, hd1]
            refine (xlen_nil W).mono ?_
            rintro e' W' ⟨rfl, rfl⟩
            exact ⟨_, rfl, rfl, hC, Below.refl _ _⟩
          · intro A W hC hd hx
            have hk : ∀ v, A.eval (.const v) = v := fun _ => rfl
            simp [factOf] at hd
            generalize A.eval = ρ at hd hk ⊢
            simp [go_sem, looseUpon, factOf, hd, hk]
            exact ⟨hC, Below.refl _ _⟩
          · intro A W hC hd hx
            have hk : ∀ v, A.eval (.const v) = v := fun _ => rfl
            simp [factOf] at hd
            generalize A.eval = ρ at hd hk ⊢
            simp [go_sem, looseUpon, factOf, hd, hk]
            exact ⟨hC, Below.refl _ _⟩
          · intro A W hC hd hx
            have hk : ∀ v, A.eval (.const v) = v := fun _ => rfl
            simp [factOf] at hd
            generalize A.eval = ρ at hd hk ⊢
            simp [go_sem, looseUpon, factOf, hd, hk]
            exact ⟨hC, Below.refl _ _⟩
          · intro A W hC hd hx
            have hk : ∀ v, A.eval (.const v) = v := fun _ => rfl
            have hy0 : A.eval (.tmp 10) = .pointer none := hx 10 (by simp)
            simp [factOf] at hd
            generalize A.eval = ρ at hd hk hy0 ⊢
            simp [go_sem, looseUpon, factOf, hd, hk, hy0]
            exact ⟨hC, Below.refl _ _⟩
          · intro A W hC hd hx
            have hk : ∀ v, A.eval (.const v) = v := fun _ => rfl
            simp [factOf] at hd
            obtain ⟨hd0, hd1⟩ := hd
            refine ⟨fun g hg q hq hq1 => (by cases hg; simp at hq; rcases hq with rfl | rfl <;> first | exact hd0 | simp at hq1), ?_⟩
            refine loose_call rfl Try.func15 (by kernel_rfl) (by kernel_rfl) ?_
            simp only [List.map_toArray, List.map_cons, List.map_nil, hk, hd1]
            refine (find10_nil 0 W).mono ?_
            rintro e' W' ⟨rfl, h4⟩
            exact ⟨_, rfl, rfl, hC.trans (h4.mono hC.size), h4⟩
          · intro A W hC hd hx
            have hk : ∀ v, A.eval (.const v) = v := fun _ => rfl
            simp [factOf] at hd
            generalize A.eval = ρ at hd hk ⊢
            simp [go_sem, looseUpon, factOf, hd, hk]
            exact ⟨hC, Below.refl _ _⟩
          · intro A W hC hd hx
            have hk : ∀ v, A.eval (.const v) = v := fun _ => rfl
            simp [factOf] at hd
            generalize A.eval = ρ at hd hk ⊢
            simp [go_sem, looseUpon, factOf, hd, hk]
            exact ⟨hC, Below.refl _ _⟩
          · intro A W hC hd hx
            have hk : ∀ v, A.eval (.const v) = v := fun _ => rfl
            simp [factOf] at hd
            generalize A.eval = ρ at hd hk ⊢
            simp [go_sem, looseUpon, factOf, hd, hk]
            exact ⟨hC, Below.refl _ _⟩
          · intro A W hC hd hx
            have hk : ∀ v, A.eval (.const v) = v := fun _ => rfl
            have hy0 : A.eval (.tmp 10) = .pointer none := hx 10 (by simp)
            simp [factOf] at hd
            generalize A.eval = ρ at hd hk hy0 ⊢
            simp [go_sem, looseUpon, factOf, hd, hk, hy0]
            exact ⟨hC, Below.refl _ _⟩
          · intro A W hC hd hx
            have hk : ∀ v, A.eval (.const v) = v := fun _ => rfl
            have hy0 : A.eval (.tmp 3) = .pointer (some ⟨w.heap.size, 0, none⟩) := hx 3 (by simp)
            have c0 := (KA.out W hC).1
            have c1 := (KA.out W hC).2
            simp [factOf] at hd
            generalize A.eval = ρ at hd hk hy0 ⊢
            simp [go_sem, looseUpon, factOf, hd, hk, hy0, c0, c1]
            exact ⟨hC, Below.refl _ _⟩
          · intro A W hC hd hx
            have hk : ∀ v, A.eval (.const v) = v := fun _ => rfl
            simp [factOf] at hd
            obtain ⟨hd0, hd1, hd2⟩ := hd
            refine ⟨fun g hg q hq hq1 => (by cases hg; simp at hq; rcases hq with rfl | rfl | rfl <;> first | exact hd0 | simp at hq1), ?_⟩
            refine loose_call rfl Try.func19 (by kernel_rfl) (by kernel_rfl) ?_
            simp only [List.map_toArray, List.map_cons, List.map_nil, hk, hd1, hd2]
            refine (meet10_nil e W).mono ?_
            rintro e' W' h4
            obtain ⟨v, rfl, h5, h6⟩ := MeetPost.intsV h4
            exact ⟨_, rfl, h5, hC.trans (h6.mono hC.size), h6⟩
          · intro A W hC hd hx
            simp [factOf] at hd
            obtain ⟨hd0, p, c, hd1, _⟩ := hd
            generalize A.eval = ρ at hd0 hd1 ⊢
            simp [go_sem, looseUpon, factOf, hd0, hd1]
            exact ⟨hC, Below.refl _ _⟩
          · intro A W hC hd hx
            have hk : ∀ v, A.eval (.const v) = v := fun _ => rfl
            simp [factOf] at hd
            generalize A.eval = ρ at hd hk ⊢
            simp [go_sem, looseUpon, factOf, hd, hk]
            exact ⟨hC, Below.refl _ _⟩
          · intro A W hC hd hx
            have hk : ∀ v, A.eval (.const v) = v := fun _ => rfl
            simp [factOf] at hd
            generalize A.eval = ρ at hd hk ⊢
            simp [go_sem, looseUpon, factOf, hd, hk]
            exact ⟨hC, Below.refl _ _⟩
          · intro A W hC hd hx
            have hk : ∀ v, A.eval (.const v) = v := fun _ => rfl
            simp [factOf] at hd
            generalize A.eval = ρ at hd hk ⊢
            simp [go_sem, looseUpon, factOf, hd, hk]
            exact ⟨hC, Below.refl _ _⟩
          · intro A W hC hd hx
            have hk : ∀ v, A.eval (.const v) = v := fun _ => rfl
            have hy0 : A.eval (.tmp 10) = .pointer none := hx 10 (by simp)
            simp [factOf] at hd
            generalize A.eval = ρ at hd hk hy0 ⊢
            simp [go_sem, looseUpon, factOf, hd, hk, hy0]
            exact ⟨hC, Below.refl _ _⟩
          · intro A W hC hd hx
            have hk : ∀ v, A.eval (.const v) = v := fun _ => rfl
            have hy0 : A.eval (.tmp 3) = .pointer (some ⟨w.heap.size, 0, none⟩) := hx 3 (by simp)
            have c0 := (KA.out W hC).1
            have c1 := (KA.out W hC).2
            simp [factOf] at hd
            generalize A.eval = ρ at hd hk hy0 ⊢
            simp [go_sem, looseUpon, factOf, hd, hk, hy0, c0, c1]
            exact ⟨hC, Below.refl _ _⟩
          · intro A W hC hd hx
            have hk : ∀ v, A.eval (.const v) = v := fun _ => rfl
            simp [factOf] at hd
            obtain ⟨hd0, hd1, hd2⟩ := hd
            refine ⟨fun g hg q hq hq1 => (by cases hg; simp at hq; rcases hq with rfl | rfl | rfl <;> first | exact hd0 | simp at hq1), ?_⟩
            refine loose_call rfl Try.func21 (by kernel_rfl) (by kernel_rfl) ?_
            simp only [List.map_toArray, List.map_cons, List.map_nil, hk, hd1, hd2]
            refine (covered10_nil e W).mono ?_
            rintro e' W' ⟨rfl, h4⟩
            exact ⟨_, rfl, rfl, hC.trans (h4.mono hC.size), h4⟩
          · intro A W hC hd hx
            have hk : ∀ v, A.eval (.const v) = v := fun _ => rfl
            simp [factOf] at hd
            generalize A.eval = ρ at hd hk ⊢
            simp [go_sem, looseUpon, factOf, hd, hk]
            exact ⟨hC, Below.refl _ _⟩
          · intro A W hC hd hx
            have hk : ∀ v, A.eval (.const v) = v := fun _ => rfl
            simp [factOf] at hd
            generalize A.eval = ρ at hd hk ⊢
            simp [go_sem, looseUpon, factOf, hd, hk]
            exact ⟨hC, Below.refl _ _⟩
          · intro A W hC hd hx
            have hk : ∀ v, A.eval (.const v) = v := fun _ => rfl
            simp [factOf] at hd
            generalize A.eval = ρ at hd hk ⊢
            simp [go_sem, looseUpon, factOf, hd, hk]
            exact ⟨hC, Below.refl _ _⟩
          · intro A W hC hd hx
            have hk : ∀ v, A.eval (.const v) = v := fun _ => rfl
            have hy0 : A.eval (.tmp 10) = .pointer none := hx 10 (by simp)
            simp [factOf] at hd
            generalize A.eval = ρ at hd hk hy0 ⊢
            simp [go_sem, looseUpon, factOf, hd, hk, hy0]
            exact ⟨hC, Below.refl _ _⟩
          · intro A W hC hd hx
            have hk : ∀ v, A.eval (.const v) = v := fun _ => rfl
            have hy0 : A.eval (.tmp 3) = .pointer (some ⟨w.heap.size, 0, none⟩) := hx 3 (by simp)
            have c0 := (KA.out W hC).1
            have c1 := (KA.out W hC).2
            simp [factOf] at hd
            generalize A.eval = ρ at hd hk hy0 ⊢
            simp [go_sem, looseUpon, factOf, hd, hk, hy0, c0, c1]
            exact ⟨hC, Below.refl _ _⟩
          · intro A W hC hd hx
            have hk : ∀ v, A.eval (.const v) = v := fun _ => rfl
            simp [factOf] at hd
            obtain ⟨hd0, hd1, hd2⟩ := hd
            refine ⟨fun g hg q hq hq1 => (by cases hg; simp at hq; rcases hq with rfl | rfl | rfl <;> first | exact hd0 | simp at hq1), ?_⟩
            refine loose_call rfl Try.func23 (by kernel_rfl) (by kernel_rfl) ?_
            simp only [List.map_toArray, List.map_cons, List.map_nil, hk, hd1, hd2]
            refine (gaps10_nil e W).mono ?_
            rintro e' W' h4
            obtain ⟨v, rfl, h5, h6⟩ := GapsPost.extsV h4
            exact ⟨_, rfl, h5, hC.trans (h6.mono hC.size), h6⟩
          · intro A W hC hd hx
            simp [factOf] at hd
            obtain ⟨hd0, p, c, hd1, _⟩ := hd
            generalize A.eval = ρ at hd0 hd1 ⊢
            simp [go_sem, looseUpon, factOf, hd0, hd1]
            exact ⟨hC, Below.refl _ _⟩
          · intro A W hC hd hx
            have hk : ∀ v, A.eval (.const v) = v := fun _ => rfl
            simp [factOf] at hd
            generalize A.eval = ρ at hd hk ⊢
            simp [go_sem, looseUpon, factOf, hd, hk]
            exact ⟨hC, Below.refl _ _⟩
          · intro A W hC hd hx
            have hk : ∀ v, A.eval (.const v) = v := fun _ => rfl
            simp [factOf] at hd
            generalize A.eval = ρ at hd hk ⊢
            simp [go_sem, looseUpon, factOf, hd, hk]
            exact ⟨hC, Below.refl _ _⟩
          · intro A W hC hd hx
            have hk : ∀ v, A.eval (.const v) = v := fun _ => rfl
            simp [factOf] at hd
            generalize A.eval = ρ at hd hk ⊢
            simp [go_sem, looseUpon, factOf, hd, hk]
            exact ⟨hC, Below.refl _ _⟩
          · intro A W hC hd hx
            have hk : ∀ v, A.eval (.const v) = v := fun _ => rfl
            have hy0 : A.eval (.tmp 10) = .pointer none := hx 10 (by simp)
            simp [factOf] at hd
            generalize A.eval = ρ at hd hk hy0 ⊢
            simp [go_sem, looseUpon, factOf, hd, hk, hy0]
            exact ⟨hC, Below.refl _ _⟩
          · intro A W hC hd hx
            have hk : ∀ v, A.eval (.const v) = v := fun _ => rfl
            simp [factOf] at hd
            obtain ⟨hd0, hd1⟩ := hd
            refine ⟨fun g hg q hq hq1 => (by cases hg; simp at hq; rcases hq with rfl | rfl <;> first | exact hd0 | simp at hq1), ?_⟩
            refine loose_call rfl Try.func13 (by kernel_rfl) (by kernel_rfl) ?_
            simp only [List.map_toArray, List.map_cons, List.map_nil, hk, hd1]
            refine (xsorted_nil W).mono ?_
            rintro e' W' ⟨rfl, rfl⟩
            exact ⟨_, rfl, rfl, hC, Below.refl _ _⟩
          · intro A W hC hd hx
            have hk : ∀ v, A.eval (.const v) = v := fun _ => rfl
            simp [factOf] at hd
            generalize A.eval = ρ at hd hk ⊢
            simp [go_sem, looseUpon, factOf, hd, hk]
            exact ⟨hC, Below.refl _ _⟩
          · intro A W hC hd hx
            have hk : ∀ v, A.eval (.const v) = v := fun _ => rfl
            simp [factOf] at hd
            generalize A.eval = ρ at hd hk ⊢
            simp [go_sem, looseUpon, factOf, hd, hk]
            exact ⟨hC, Below.refl _ _⟩
          · intro A W hC hd hx
            have hk : ∀ v, A.eval (.const v) = v := fun _ => rfl
            simp [factOf] at hd
            generalize A.eval = ρ at hd hk ⊢
            simp [go_sem, looseUpon, factOf, hd, hk]
            exact ⟨hC, Below.refl _ _⟩
          · intro A W hC hd hx
            have hk : ∀ v, A.eval (.const v) = v := fun _ => rfl
            simp [factOf] at hd
            generalize A.eval = ρ at hd hk ⊢
            simp [go_sem, looseUpon, factOf, hd, hk]
            exact ⟨hC, Below.refl _ _⟩
          intro W hC
          have HBE := Lib.hid (HBs.out.trans (hC.mono HBs.out.size))
          clear hC KA KC KM KRM KRC KEQ
          simp only [ends]
          rintro _ rfl _ rfl _ rfl _ rfl _ - _ rfl _ rfl _ - _ rfl _ rfl _ rfl _ rfl _ rfl _ rfl _ rfl _ rfl _ rfl _ rfl _ rfl _ rfl _ rfl _ rfl _ rfl _ rfl _ rfl _ rfl _ rfl _ rfl _ rfl _ rfl _ rfl _ rfl _ - _ rfl _ rfl _ rfl _ rfl _ rfl _ rfl _ rfl _ rfl _ rfl _ rfl _ rfl _ rfl _ - _ rfl _ rfl _ rfl _ rfl _ rfl _ rfl _ rfl _ rfl _ rfl _ rfl
          simp only [putAll, List.zip_cons_cons, List.zip_nil_left, List.foldl_cons, List.foldl_nil, Act.put, List.setIfInBounds_toArray, List.set_cons_succ, List.set_cons_zero]
          go_wp2
          first | exact ⟨by simp, HBE.out⟩ | (go_ret; exact ⟨by simp, HBE.out⟩)
theorem indexNil_walk (a : Option Addr) (n cap : Nat) (f : Nat → Int × Int) (e : Int × Int) {w : World} (hn : n ≤ 9223372036854775807) (hs : ExtSlice w a n f) (hf : ∀ i, i < n → I64 (f i).1 ∧ I64 (f i).2) (hp : I64 e.1) (hq : I64 e.2) :
    Calls Try.prog 8 #[.slice a n cap, extV e] w (Gives (.bool true) w) := by
  obtain ⟨es, rfl, h, hi⟩ := list10 hs hf
  by_cases hL : es.length ≤ 60
  · by_cases hR : Right10 es
    · cases he : okE e with
      | true => exact indexNil_good a es cap e w h hi hL hR ⟨hp, hq⟩ he
      | false => exact indexNil_bad a es cap e w h hi hL hR ⟨hp, hq⟩ he
    · exact indexNil_not a es cap e w h hi hL hR
  · exact indexNil_big a es cap e w (by omega)
end Go.Proofs.Ytfomidjhmdmmcaa
