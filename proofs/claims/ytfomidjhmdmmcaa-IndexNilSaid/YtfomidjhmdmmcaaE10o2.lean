/- IndexOrder returns true for every list of extents and every extent, and changes nothing that was there. -/
import Derived.Test.YtfomidjhmdmmcaaE10o1
import Derived.Test.YtfomidjhmdmmcaaE10g2
namespace Go.Proofs.Ytfomidjhmdmmcaa
open Go.RowKit Go.Shelf Go.Proofs.Ytfomidjhmdmmcaa.Plain01
set_option linter.unusedVariables false
set_option linter.unusedSimpArgs false

theorem RowPost10.extsV {l : List (Int × Int)} {w w' : World} {e : Ending} (h : RowPost10 l w e w') : ∃ v, e = .returned v ∧ ExtsV l v w' ∧ Below w.heap.size w w' := GapsPost.extsV h
/-- A row of ints, the first k turned round. -/
def Turn10 (W : World) (gm L k : Nat) (ms : List Nat) : Prop := ∃ cur : Array Value, W.heap[gm]? = some (.cells cur 3 (0, 0)) ∧ ∀ i x, ms[i]? = some x → cur[i]? = some (Value.int .i64 ((if i < k then L - 1 - x else x : Nat) : Int))
theorem turn10_start {W : World} {base : Nat} {v : Value} {ms : List Nat} (L : Nat) (h : W.ownsRow base 3 1 v ms.length (intC ms)) : ∃ (a : Option Addr) (cap gm : Nat), v = .slice a ms.length cap ∧ (0 < ms.length → a = some ⟨gm, 0, none⟩ ∧ base ≤ gm ∧ Turn10 W gm L 0 ms) := by
  rcases h.2 with ⟨rfl, h0⟩ | ⟨g, cap, cur, rfl, hb, hg, hc1, hc2, hsz, htk⟩
  · exact ⟨none, 0, 0, by rw [h0], fun hp => by omega⟩
  · refine ⟨_, cap, g, rfl, fun hp => ⟨rfl, hb, cur, hg, fun i x hi => ?_⟩⟩
    have h1 : (intC ms)[i]? = some (.int .i64 x) := by unfold intC; rw [List.getElem?_map, hi]; rfl
    rw [← htk, List.getElem?_take] at h1
    rw [if_neg (by omega)]
    split at h1
    · simpa using h1
    · cases h1
theorem Turn10.step {W : World} {gm L k x : Nat} {ms : List Nat} (h : Turn10 W gm L k ms) (hx : ms[k]? = some x) : Turn10 (W.setCell ⟨gm, k, none⟩ (.int .i64 ((L - 1 - x : Nat) : Int))) gm L (k + 1) ms := by
  obtain ⟨cur, hg, hc⟩ := h
  refine ⟨_, heap_setCell_same W gm k cur _ _ hg, fun i y hi => ?_⟩
  have h1 := hc i y hi
  by_cases e : i = k
  · subst e
    rw [hx] at hi
    cases hi
    rw [if_pos (by omega)]
    have hlt := (Array.getElem?_eq_some_iff.1 h1).1
    simp [hlt]
  · rw [Array.getElem?_setIfInBounds_ne (by omega), h1]
    congr 3
    by_cases h2 : i < k
    · rw [if_pos h2, if_pos (by omega)]
    · rw [if_neg h2, if_neg (by omega)]
theorem Turn10.done {W : World} {gm L : Nat} {ms : List Nat} (h : Turn10 W gm L ms.length ms) : IntsIn W (some ⟨gm, 0, none⟩) (ms.map fun i => L - 1 - i) := fun _ => by
  obtain ⟨cur, hg, hc⟩ := h
  refine ⟨gm, 0, rfl, fun i x hi => ?_⟩
  rw [List.getElem?_map] at hi
  obtain ⟨y, hy, rfl⟩ := Option.map_eq_some_iff.1 hi
  have h1 := hc i y hy
  rw [if_pos (List.getElem?_eq_some_iff.1 hy).1] at h1
  rw [Nat.zero_add, cell_of hg]
  simpa using h1

set_option maxRecDepth 100000 in
set_option maxHeartbeats 4000000 in
theorem indexOrder_big (a : Option Addr) (es : List (Int × Int)) (cap : Nat) (e : Int × Int) (w : World) (hL : 60 < es.length) :
    Calls Try.prog 7 #[.slice a es.length cap, extV e] w (Gives (.bool true) w) := by
  have ha := alive10_any
  have e1 : decide ((60 : Int) < (es.length : Int)) = true := by simp; omega
  generalize es.length = L at *
  obtain ⟨W0, hW0⟩ : ∃ W0, w.alloc (.cells #[.int .i64 e.1, .int .i64 e.2] 30) = W0 := ⟨_, rfl⟩
  have HB0 : Hid (Below w.heap.size w W0) := Lib.hid (by rw [← hW0]; exact (Below.refl _ w).alloc (Nat.le_refl _) _)
  have HW0 := Lib.hid hW0
  clear hW0
  go_enter Try.func7, Try.ntmps7
  go_wp2_with fail
  rw [HW0.out]
  refine (ha _).mono ?_
  rintro e w2 ⟨rfl, hb2⟩
  have HB2 := Lib.hid (HB0.out.trans (hb2.mono HB0.out.size))
  clear hb2
  go_wp2
  go_ret
  exact ⟨rfl, HB2.out⟩
set_option maxRecDepth 100000 in
set_option maxHeartbeats 4000000 in
theorem indexOrder_not (a : Option Addr) (es : List (Int × Int)) (cap : Nat) (e : Int × Int) (w : World) (h : ExtSlice w a es.length (at10 es)) (hi : ∀ x ∈ es, I64 x.1 ∧ I64 x.2) (hL : es.length ≤ 60) (hR : ¬ Right10 es) :
    Calls Try.prog 7 #[.slice a es.length cap, extV e] w (Gives (.bool true) w) := by
  have ha := alive10_any
  have HRR := Lib.hid (fun W (hW : Below w.heap.size w W) => rxright_any a es cap W (h.below hW) hi (by omega))
  rw [decide_eq_false hR] at HRR
  clear h hi hR
  generalize es.length = L at *
  obtain ⟨W0, hW0⟩ : ∃ W0, w.alloc (.cells #[.int .i64 e.1, .int .i64 e.2] 30) = W0 := ⟨_, rfl⟩
  have HB0 : Hid (Below w.heap.size w W0) := Lib.hid (by rw [← hW0]; exact (Below.refl _ w).alloc (Nat.le_refl _) _)
  have hr := HRR.out _ HB0.out
  have HW0 := Lib.hid hW0
  clear hW0
  go_enter Try.func7, Try.ntmps7
  go_wp2_with fail
  rw [HW0.out]
  go_wp2_with fail
  refine hr.mono ?_
  rintro e1 w1 ⟨rfl, hb1⟩
  have HB1 := Lib.hid (HB0.out.trans (hb1.mono HB0.out.size))
  clear hr hb1
  go_wp2_with fail
  refine (ha _).mono ?_
  rintro e2 w2 ⟨rfl, hb2⟩
  have HB2 := Lib.hid (HB1.out.trans (hb2.mono HB1.out.size))
  clear hb2
  go_wp2
  go_ret
  exact ⟨rfl, HB2.out⟩
set_option maxRecDepth 100000 in
set_option maxHeartbeats 4000000 in
theorem indexOrder_bad (a : Option Addr) (es : List (Int × Int)) (cap : Nat) (e : Int × Int) (w : World) (h : ExtSlice w a es.length (at10 es)) (hi : ∀ x ∈ es, I64 x.1 ∧ I64 x.2) (hL : es.length ≤ 60) (hR : Right10 es) (hei : I64 e.1 ∧ I64 e.2) (he : okE e = false) :
    Calls Try.prog 7 #[.slice a es.length cap, extV e] w (Gives (.bool true) w) := by
  have ha := alive10_any
  have HRR := Lib.hid (fun W (hW : Below w.heap.size w W) => rxright_any a es cap W (h.below hW) hi (by omega))
  rw [decide_eq_true hR] at HRR
  have hv := rvalid_gives e hei.1 hei.2
  rw [he] at hv
  clear h hi hR hei he
  generalize es.length = L at *
  obtain ⟨W0, hW0⟩ : ∃ W0, w.alloc (.cells #[.int .i64 e.1, .int .i64 e.2] 30) = W0 := ⟨_, rfl⟩
  have HB0 : Hid (Below w.heap.size w W0) := Lib.hid (by rw [← hW0]; exact (Below.refl _ w).alloc (Nat.le_refl _) _)
  have HE0 : Hid (W0.heap[w.heap.size]? = some (.cells #[.int .i64 e.1, .int .i64 e.2] 30 (0, 0))) := Lib.hid (by rw [← hW0]; exact heap_new _ _ rfl)
  have hr := HRR.out _ HB0.out
  have HW0 := Lib.hid hW0
  clear hW0
  go_enter Try.func7, Try.ntmps7
  go_wp2_with fail
  rw [HW0.out]
  go_wp2_with fail
  refine hr.mono ?_
  rintro e1 w1 ⟨rfl, hb1⟩
  have HB1 := Lib.hid (HB0.out.trans (hb1.mono HB0.out.size))
  have hx := heap_below HE0.out hb1
  have x0 : w1.cell? ⟨w.heap.size, 0, none⟩ = some (.int .i64 e.1) := cell_of hx 0
  have x1 : w1.cell? ⟨w.heap.size, 1, none⟩ = some (.int .i64 e.2) := cell_of hx 1
  clear hr hb1 hx
  go_wp2_with fail
  refine (hv _).mono ?_
  rintro e2 w2 ⟨rfl, hb2⟩
  have HB2 := Lib.hid (HB1.out.trans (hb2.mono HB1.out.size))
  clear hb2 hv x0 x1
  go_wp2_with fail
  refine (ha _).mono ?_
  rintro e3 w3 ⟨rfl, hb3⟩
  have HB3 := Lib.hid (HB2.out.trans (hb3.mono HB2.out.size))
  clear hb3
  go_wp2
  go_ret
  exact ⟨rfl, HB3.out⟩
set_option maxRecDepth 100000 in
set_option maxHeartbeats 8000000 in
theorem indexOrder_good (a : Option Addr) (es : List (Int × Int)) (cap : Nat) (e : Int × Int) (w : World) (h : ExtSlice w a es.length (at10 es)) (hi : ∀ x ∈ es, I64 x.1 ∧ I64 x.2) (hL : es.length ≤ 60) (hR : Right10 es) (hei : I64 e.1 ∧ I64 e.2) (he : okE e = true) :
    Calls Try.prog 7 #[.slice a es.length cap, extV e] w (Gives (.bool true) w) := by
  have ha := Lib.hid alive10_any
  have HRR := Lib.hid (fun W (hW : Below w.heap.size w W) => rxright_any a es cap W (h.below hW) hi (by omega))
  rw [decide_eq_true hR] at HRR
  have hv := rvalid_gives e hei.1 hei.2
  rw [he] at hv
  have HNEW := Lib.hid (fun W (hW : Below w.heap.size w W) => new10_any a es cap W (h.below hW) hi (by omega))
  have HNEW2 := Lib.hid (fun W ab capb (hW : ExtSlice W ab es.length (at10 es.reverse)) => new10_any ab es.reverse capb W (by rw [List.length_reverse]; exact hW) (fun x hx => hi x (List.mem_reverse.1 hx)) (by rw [List.length_reverse]; omega))
  simp only [List.length_reverse] at HNEW2
  have HC := Lib.hid h
  have HR := Lib.hid hR
  have HRB := Lib.hid (right_rev hR)
  have HE := Lib.hid he
  have hmr := meet_rev hR e
  have hmb := meet_back hR e
  have hgr := gaps_rev hR e
  have hsr := srt_rev hR
  have hcr := cov_rev es e
  have HMI : Hid (∀ c ∈ meet10 es.reverse e, c < es.length) := Lib.hid fun c hc => by
    have := ord_mem (List.mem_filter.1 hc).1
    rwa [List.length_reverse] at this
  have HGL : Hid ((gaps10 es e).length ≤ 1000000 ∧ (meet10 es e).length ≤ 1000000 ∧ (srt10 es).length ≤ 1000000 ∧ (meet10 es.reverse e).length = (meet10 es e).length) := Lib.hid (by
    have h1 : (meet10 es e).length ≤ es.length := by
      unfold meet10
      refine Nat.le_trans (List.length_filter_le _ _) ?_
      rw [(ord10_perm es).length_eq]
      simp
    refine ⟨?_, by omega, by rw [srt10_length]; omega, by rw [hmr, List.length_map]⟩
    rw [← gaps10_end, List.length_append]
    have h2 := gapA_length (pts10 es e (meet10 es e)) e.1
    have h3 := gapOne_length (gapA e.1 (pts10 es e (meet10 es e))).2 (e.1 + e.2)
    have h4 : (pts10 es e (meet10 es e)).length = (meet10 es e).length := by unfold pts10; simp
    omega)
  obtain ⟨L, hLe⟩ : ∃ L, L = es.length := ⟨_, rfl⟩
  have HL := Lib.hid hLe
  rw [← hLe] at hL HRR HNEW HNEW2 HMI hmb ⊢
  obtain ⟨W0, hW0⟩ : ∃ W0, w.alloc (.cells #[.int .i64 e.1, .int .i64 e.2] 30) = W0 := ⟨_, rfl⟩
  have HB0 : Hid (Below w.heap.size w W0) := Lib.hid (by rw [← hW0]; exact (Below.refl _ w).alloc (Nat.le_refl _) _)
  have HE0 : Hid (W0.heap[w.heap.size]? = some (.cells #[.int .i64 e.1, .int .i64 e.2] 30 (0, 0))) := Lib.hid (by rw [← hW0]; exact heap_new _ _ rfl)
  have hr := HRR.out _ HB0.out
  have HW0 := Lib.hid hW0
  have HMB := Lib.hid hmb
  have HGR := Lib.hid hgr
  have HSR := Lib.hid hsr
  have HCR := Lib.hid hcr
  clear h hi hR hei he hLe hW0 hmr hmb hgr hsr hcr
  go_enter Try.func7, Try.ntmps7
  go_wp2_with fail
  rw [HW0.out]
  go_wp2_with fail
  refine hr.mono ?_
  rintro e1 w1 ⟨rfl, hb1⟩
  have HB1 := Lib.hid (HB0.out.trans (hb1.mono HB0.out.size))
  have hx := heap_below HE0.out hb1
  have x0 : w1.cell? ⟨w.heap.size, 0, none⟩ = some (.int .i64 e.1) := cell_of hx 0
  have x1 : w1.cell? ⟨w.heap.size, 1, none⟩ = some (.int .i64 e.2) := cell_of hx 1
  have HX1 := Lib.hid hx
  clear hr hb1 hx
  go_wp2_with fail
  refine (hv _).mono ?_
  rintro e2 w2 ⟨rfl, hb2⟩
  have HB2 := Lib.hid (HB1.out.trans (hb2.mono HB1.out.size))
  have HX2 := Lib.hid (heap_below HX1.out hb2)
  have hsrc : ExtSlice w2 a es.length (at10 es) := HC.out.below HB2.out
  clear hb2 hv x0 x1 HX1
  go_wp2_with (refine wpList_copy10 rfl (.tmp 24) (.tmp 25) a es L cap HL.out rfl rfl rfl hsrc (by rw [← HL.out]; omega) ?_; intro v4 w4 hown4 hb4; clear hsrc)
  have hrev := rev_own10 hown4 (by rw [← HL.out]; omega) hb4.size
  have HB4 := Lib.hid (HB2.out.trans (hb4.mono HB2.out.size))
  have HX4 := Lib.hid (heap_below HX2.out hb4)
  have hxl : w.heap.size < w2.heap.size := (Array.getElem?_eq_some_iff.1 HX2.out).1
  clear hown4
  refine hrev.mono ?_
  rintro e5 w5 ⟨rfl, hb5, ab, capb, rfl, hrow5⟩
  have HB5 := Lib.hid (HB4.out.trans (hb5.mono HB2.out.size))
  have HX5 : Hid (w5.heap[w.heap.size]? = some (.cells #[.int .i64 e.1, .int .i64 e.2] 30 (0, 0))) := Lib.hid ((hb5.block _ hxl).trans HX4.out)
  rw [← HL.out] at hrow5 ⊢
  have HROW5 := Lib.hid hrow5
  clear hrev hb5 hb4 hrow5 HX2 HX4 hxl
  go_wp2_with fail
  refine (HNEW.out _ HB5.out).mono ?_
  rintro e6 w6 ⟨hy, _, hb6⟩
  obtain ⟨B, a', cap', g, rfl, hX, _⟩ := hy HR.out
  have hnew2 := HNEW2.out w6 ab capb (HROW5.out.below hb6)
  have HX6 := Lib.hid (heap_below HX5.out hb6)
  have HI6 := Lib.hid hX
  have HB6 := Lib.hid (HB5.out.trans (hb6.mono HB5.out.size))
  clear hy hX hb6 HX5 HROW5 HNEW HNEW2
  go_wp2_with fail
  refine hnew2.mono ?_
  rintro e7 w7 ⟨hy, _, hb7⟩
  obtain ⟨B2, a2, cap2, g2, rfl, hX2, _⟩ := hy HRB.out
  have hx7 := heap_below HX6.out hb7
  have HX7 := Lib.hid hx7
  have HI7 := Lib.hid (HI6.out.below hb7)
  have HJ7 := Lib.hid hX2
  have HB7 := Lib.hid (HB6.out.trans (hb7.mono HB6.out.size))
  have hm := meet10_any B2 cap2 g2 a2 es.reverse HRB.out e HE.out w7 hX2
  have e5 : ((some ⟨B, 0, none⟩ : Option Addr) == none) = false := rfl
  have e6 : ((some ⟨B2, 0, none⟩ : Option Addr) == none) = false := rfl
  have x0 : w7.cell? ⟨w.heap.size, 0, none⟩ = some (.int .i64 e.1) := cell_of hx7 0
  have x1 : w7.cell? ⟨w.heap.size, 1, none⟩ = some (.int .i64 e.2) := cell_of hx7 1
  clear hy hX2 hb7 HX6 HI6 hx7 hnew2
  go_wp2_with fail
  refine hm.mono ?_
  rintro e8 w8 ⟨v8, rfl, hrow8, hb8⟩
  obtain ⟨am, capm, gm, rfl, hT⟩ := turn10_start L hrow8
  obtain ⟨ms, hms⟩ : ∃ ms, ms = meet10 es.reverse e := ⟨_, rfl⟩
  rw [← hms] at hT HMI HMB HGL ⊢
  obtain ⟨M, hM⟩ : ∃ M, M = ms.length := ⟨_, rfl⟩
  rw [← hM] at hT HGL ⊢
  have HM := Lib.hid hM
  have HT := Lib.hid hT
  have HB8 := Lib.hid hb8
  have hMle : M ≤ 1000000 := by rw [HGL.out.2.2.2]; exact HGL.out.2.1
  clear hrow8 hms hM hT hb8 x0 x1 hm
  go_wp2_with fail
  go_loopw [9, 44] (fun v9 vi wr => ∃ k : Nat, k ≤ M ∧ vi = .int .i64 k ∧ Below w7.heap.size w7 wr ∧ Hid (0 < M → Turn10 wr gm L k ms)) (fun _ vi _ => M - (intOf vi).toNat)
  case atStart => exact ⟨0, Nat.zero_le _, rfl, HB8.out, Lib.hid (fun hp => (HT.out hp).2.2)⟩
  case round =>
    obtain ⟨k, hk, rfl, hB, hTU⟩ := hrel
    by_cases hlt : k < M
    · obtain ⟨rfl, hgm, _⟩ := HT.out (by omega)
      obtain ⟨x, hx⟩ : ∃ x, ms[k]? = some x := ⟨_, List.getElem?_eq_getElem (by rw [← HM.out]; exact hlt)⟩
      have hxL := HMI.out x (List.mem_of_getElem? hx)
      have HST := Lib.hid (fun _ : 0 < M => (hTU.out (by omega)).step hx)
      obtain ⟨cur, hg, hcur⟩ := hTU.out (by omega)
      have hcx := hcur k x hx
      rw [if_neg (by omega)] at hcx
      have c0 : wr.cell? ⟨gm, k, none⟩ = some (.int .i64 (x : Int)) := by rw [cell_of hg]; exact hcx
      have f0 : wr.frozen? ⟨gm, k, none⟩ = false := by simp [World.frozen?, hg]
      have hcast : ((L - 1 - x : Nat) : Int) = (L : Int) - 1 - (x : Int) := by omega
      have HB9 := Lib.hid (hB.setCell (p := ⟨gm, k, none⟩) hgm (.int .i64 ((L - 1 - x : Nat) : Int)))
      rw [hcast] at HB9 HST
      clear hx hg hcur hcx hTU hB hcast
      go_wp2
      go_roundw
      case rel => exact ⟨k + 1, by omega, by go_num, HB9.out, HST⟩
      case measure => simp [intOf]; omega
    · obtain rfl : k = M := by omega
      have KA : Hid (∀ W, Below wr.heap.size wr W → W.cell? ⟨w.heap.size, 0, none⟩ = some (.int .i64 e.1) ∧ W.cell? ⟨w.heap.size, 1, none⟩ = some (.int .i64 e.2)) := Lib.hid fun W hW => by
        have h := heap_below HX7.out (hB.trans (hW.mono hB.size))
        exact ⟨cell_of h 0, cell_of h 1⟩
      have KI := Lib.hid (fun W (hW : Below wr.heap.size wr W) => HI7.out.below (hB.trans (hW.mono hB.size)))
      have KJ := Lib.hid (fun W (hW : Below wr.heap.size wr W) => HJ7.out.below (hB.trans (hW.mono hB.size)))
      have KC1 := Lib.hid (fun W (hW : Below wr.heap.size wr W) => covered10_any B cap' g a' es HR.out e HE.out W (KI.out W hW))
      have KC2 := Lib.hid (fun W (hW : Below wr.heap.size wr W) => covered10_any B2 cap2 g2 a2 es.reverse HRB.out e HE.out W (KJ.out W hW))
      have KG1 := Lib.hid (fun W (hW : Below wr.heap.size wr W) => gaps10_any B cap' g a' es HR.out e HE.out W (KI.out W hW))
      have KG2 := Lib.hid (fun W (hW : Below wr.heap.size wr W) => gaps10_any B2 cap2 g2 a2 es.reverse HRB.out e HE.out W (KJ.out W hW))
      have KS1 := Lib.hid (fun W (hW : Below wr.heap.size wr W) => xsorted_any B cap' g a' es W (KI.out W hW))
      have KS2 := Lib.hid (fun W (hW : Below wr.heap.size wr W) => xsorted_any B2 cap2 g2 a2 es.reverse W (KJ.out W hW))
      have KM := Lib.hid (fun W (hW : Below wr.heap.size wr W) => meet10_any B cap' g a' es HR.out e HE.out W (KI.out W hW))
      rw [HCR.out] at KC2
      rw [HGR.out] at KG2
      rw [HSR.out] at KS2
      have HBr := Lib.hid (HB7.out.trans (hB.mono HB7.out.size))
      have hMI : IntsIn wr am (meet10 es e) := by
        rw [← HMB.out]
        intro hp
        rw [List.length_map, ← HM.out] at hp
        obtain ⟨rfl, _⟩ := HT.out hp
        have hd := hTU.out hp
        rw [HM.out] at hd
        exact hd.done (by rw [List.length_map, ← HM.out]; exact hp)
      have HMI2 := Lib.hid hMI
      have HML : Hid (k = (meet10 es e).length) := Lib.hid HGL.out.2.2.2
      have KEI := Lib.hid (fun (W : World) (p q : Option Addr) (c d : Nat) (h1 : IntsIn W p (meet10 es e)) (h2 : IntsIn W q (meet10 es e)) => eqint_any p q _ _ c d W h1 h2 HGL.out.2.1 HGL.out.2.1)
      have KEG := Lib.hid (fun (W : World) (p q : Option Addr) (c d : Nat) (h1 : ExtsIn W p (gaps10 es e)) (h2 : ExtsIn W q (gaps10 es e)) => eqext10_any p q _ _ c d W h1 h2 (by have := HGL.out.1; omega) (by have := HGL.out.1; omega))
      have KES := Lib.hid (fun (W : World) (p q : Option Addr) (c d : Nat) (h1 : ExtsIn W p (srt10 es)) (h2 : ExtsIn W q (srt10 es)) => eqext10_any p q _ _ c d W h1 h2 (by have := HGL.out.2.2.1; omega) (by have := HGL.out.2.2.1; omega))
      clear HGL HMB HMI HT hTU hMI
      generalize gaps10 es e = G at KG1 KG2 KEG
      generalize meet10 es e = mm at KM KEI HMI2 HML
      generalize srt10 es = S at KS1 KS2 KES
      generalize cov10 es e = n at KC1 KC2
      clear HR HE HRB HI7 HJ7 KI KJ HX7 hB HCR HGR HSR HM
      go_wp2_with fail
      refine wp_region_loose
        [IsV (.bool true), IsV (.bool true), IsV (.pointer (some ⟨B, 0, none⟩)), IsV (extV e), IsV (.int .i64 n), IsV (.pointer (some ⟨B2, 0, none⟩)), IsV (extV e), IsV (.int .i64 n), IsV (.bool true), IsV (.bool true), IsV (.bool true), IsV (.pointer (some ⟨B, 0, none⟩)), IsV (extV e), ExtsV G, IsV (.pointer (some ⟨B2, 0, none⟩)), IsV (extV e), ExtsV G, IsV (.bool true), IsV (.bool true), IsV (.bool true), IsV (.pointer (some ⟨B, 0, none⟩)), IsV (extV e), IntsV mm, IsV (.slice am k capm), IsV (.bool true), IsV (.bool true), IsV (.bool true), IsV (.pointer (some ⟨B, 0, none⟩)), ExtsV S, IsV (.pointer (some ⟨B2, 0, none⟩)), ExtsV S, IsV (.bool true), IsV (.bool true), IsV (.bool true)]
        [⟨59, [], []⟩, ⟨60, [(0, 59)], []⟩, ⟨61, [(1, 60)], [6]⟩, ⟨62, [(1, 60)], [3]⟩, ⟨63, [(1, 60), (2, 61), (3, 62)], []⟩, ⟨64, [(1, 60)], [7]⟩, ⟨65, [(1, 60)], [3]⟩, ⟨66, [(1, 60), (5, 64), (6, 65)], []⟩, ⟨67, [(1, 60), (4, 63), (7, 66)], []⟩, ⟨68, [(1, 60), (8, 67)], []⟩, ⟨69, [(9, 68)], []⟩, ⟨70, [(10, 69)], [6]⟩, ⟨71, [(10, 69)], [3]⟩, ⟨72, [(10, 69), (11, 70), (12, 71)], []⟩, ⟨73, [(10, 69)], [7]⟩, ⟨74, [(10, 69)], [3]⟩, ⟨75, [(10, 69), (14, 73), (15, 74)], []⟩, ⟨76, [(10, 69), (13, 72), (16, 75)], []⟩, ⟨77, [(10, 69), (17, 76)], []⟩, ⟨78, [(18, 77)], []⟩, ⟨79, [(19, 78)], [6]⟩, ⟨80, [(19, 78)], [3]⟩, ⟨81, [(19, 78), (20, 79), (21, 80)], []⟩, ⟨82, [(19, 78)], [8]⟩, ⟨83, [(19, 78), (22, 81), (23, 82)], []⟩, ⟨84, [(19, 78), (24, 83)], []⟩, ⟨85, [(25, 84)], []⟩, ⟨86, [(26, 85)], [6]⟩, ⟨87, [(26, 85), (27, 86)], []⟩, ⟨88, [(26, 85)], [7]⟩, ⟨89, [(26, 85), (29, 88)], []⟩, ⟨90, [(26, 85), (28, 87), (30, 89)], []⟩, ⟨91, [(26, 85), (31, 90)], []⟩, ⟨4, [(32, 91)], []⟩]
        (fun W => Below wr.heap.size wr W) (fun W W' => Below W.heap.size W W') (by kernel_rfl) (by kernel_rfl) rfl rfl (Below.refl _ wr).drew ?_
        ⟨?_, ?_, ?_, ?_, ?_, ?_, ?_, ?_, ?_, ?_, ?_, ?_, ?_, ?_, ?_, ?_, ?_, ?_, ?_, ?_, ?_, ?_, ?_, ?_, ?_, ?_, ?_, ?_, ?_, ?_, ?_, ?_, ?_, ?_, trivial⟩ ?_
      · repeat (first | (intro _ h; cases h; done) | refine List.forall_mem_cons.2 ⟨stable_V _ _, ?_⟩ | refine List.forall_mem_cons.2 ⟨stable_exts10 _, ?_⟩ | refine List.forall_mem_cons.2 ⟨stable_ints _, ?_⟩)
      · intro A W hC hd hx
        refine ⟨fun g hg => (by cases hg), ?_⟩
        refine loose_call rfl Try.func9 (by kernel_rfl) (by kernel_rfl) ?_
        rw [show (#[] : Array Operand).map A.eval = #[] by simp]
        refine (ha.out W).mono ?_
        rintro e' W' ⟨rfl, h4⟩
        exact ⟨_, rfl, rfl, hC.trans (h4.mono hC.size), h4⟩
      · intro A W hC hd hx
        have hk : ∀ v, A.eval (.const v) = v := fun _ => rfl
        simp [factOf] at hd
        generalize A.eval = ρ at hd hk ⊢
        simp [go_sem, looseUpon, factOf, hd, hk]
        exact ⟨hC, Below.refl _ _⟩
      · intro A W hC hd hx
        have hk : ∀ v, A.eval (.const v) = v := fun _ => rfl
        have hy0 : A.eval (.tmp 6) = .pointer (some ⟨B, 0, none⟩) := hx 6 (by simp)
        simp [factOf] at hd
        generalize A.eval = ρ at hd hk hy0 ⊢
        simp [go_sem, looseUpon, factOf, hd, hk, hy0]
        exact ⟨hC, Below.refl _ _⟩
      · intro A W hC hd hx
        have hk : ∀ v, A.eval (.const v) = v := fun _ => rfl
        have hy0 : A.eval (.tmp 3) = .pointer (some ⟨w.heap.size, 0, none⟩) := hx 3 (by simp)
        have c0 := (KA.out W hC).1
        have c1 := (KA.out W hC).2
        simp [factOf] at hd
        generalize A.eval = ρ at hd hk hy0 ⊢
        simp [go_sem, looseUpon, factOf, hd, hk, hy0, c0, c1]
        exact ⟨hC, Below.refl _ _⟩
      · intro A W hC hd hx
        simp [factOf] at hd
        obtain ⟨hd0, hd1, hd2⟩ := hd
        refine ⟨fun g hg q hq hq1 => (by cases hg; simp at hq; rcases hq with rfl | rfl | rfl <;> first | exact hd0 | simp at hq1), ?_⟩
        refine loose_call rfl Try.func21 (by kernel_rfl) (by kernel_rfl) ?_
        simp only [List.map_toArray, List.map_cons, List.map_nil, hd1, hd2]
        refine (KC1.out W hC).mono ?_
        rintro e' W' ⟨rfl, h4⟩
        exact ⟨_, rfl, rfl, hC.trans (h4.mono hC.size), h4⟩
      · intro A W hC hd hx
        have hk : ∀ v, A.eval (.const v) = v := fun _ => rfl
        have hy0 : A.eval (.tmp 7) = .pointer (some ⟨B2, 0, none⟩) := hx 7 (by simp)
        simp [factOf] at hd
        generalize A.eval = ρ at hd hk hy0 ⊢
        simp [go_sem, looseUpon, factOf, hd, hk, hy0]
        exact ⟨hC, Below.refl _ _⟩
      · intro A W hC hd hx
        have hk : ∀ v, A.eval (.const v) = v := fun _ => rfl
        have hy0 : A.eval (.tmp 3) = .pointer (some ⟨w.heap.size, 0, none⟩) := hx 3 (by simp)
        have c0 := (KA.out W hC).1
        have c1 := (KA.out W hC).2
        simp [factOf] at hd
        generalize A.eval = ρ at hd hk hy0 ⊢
        simp [go_sem, looseUpon, factOf, hd, hk, hy0, c0, c1]
        exact ⟨hC, Below.refl _ _⟩
      · intro A W hC hd hx
        simp [factOf] at hd
        obtain ⟨hd0, hd1, hd2⟩ := hd
        refine ⟨fun g hg q hq hq1 => (by cases hg; simp at hq; rcases hq with rfl | rfl | rfl <;> first | exact hd0 | simp at hq1), ?_⟩
        refine loose_call rfl Try.func21 (by kernel_rfl) (by kernel_rfl) ?_
        simp only [List.map_toArray, List.map_cons, List.map_nil, hd1, hd2]
        refine (KC2.out W hC).mono ?_
        rintro e' W' ⟨rfl, h4⟩
        exact ⟨_, rfl, rfl, hC.trans (h4.mono hC.size), h4⟩
      · intro A W hC hd hx
        have hk : ∀ v, A.eval (.const v) = v := fun _ => rfl
        simp [factOf] at hd
        generalize A.eval = ρ at hd hk ⊢
        simp [go_sem, looseUpon, factOf, hd, hk]
        exact ⟨hC, Below.refl _ _⟩
      · intro A W hC hd hx
        have hk : ∀ v, A.eval (.const v) = v := fun _ => rfl
        simp [factOf] at hd
        generalize A.eval = ρ at hd hk ⊢
        simp [go_sem, looseUpon, factOf, hd, hk]
        exact ⟨hC, Below.refl _ _⟩
      · intro A W hC hd hx
        have hk : ∀ v, A.eval (.const v) = v := fun _ => rfl
        simp [factOf] at hd
        generalize A.eval = ρ at hd hk ⊢
        simp [go_sem, looseUpon, factOf, hd, hk]
        exact ⟨hC, Below.refl _ _⟩
      · intro A W hC hd hx
        have hk : ∀ v, A.eval (.const v) = v := fun _ => rfl
        have hy0 : A.eval (.tmp 6) = .pointer (some ⟨B, 0, none⟩) := hx 6 (by simp)
        simp [factOf] at hd
        generalize A.eval = ρ at hd hk hy0 ⊢
        simp [go_sem, looseUpon, factOf, hd, hk, hy0]
        exact ⟨hC, Below.refl _ _⟩
      · intro A W hC hd hx
        have hk : ∀ v, A.eval (.const v) = v := fun _ => rfl
        have hy0 : A.eval (.tmp 3) = .pointer (some ⟨w.heap.size, 0, none⟩) := hx 3 (by simp)
        have c0 := (KA.out W hC).1
        have c1 := (KA.out W hC).2
        simp [factOf] at hd
        generalize A.eval = ρ at hd hk hy0 ⊢
        simp [go_sem, looseUpon, factOf, hd, hk, hy0, c0, c1]
        exact ⟨hC, Below.refl _ _⟩
      · intro A W hC hd hx
        simp [factOf] at hd
        obtain ⟨hd0, hd1, hd2⟩ := hd
        refine ⟨fun g hg q hq hq1 => (by cases hg; simp at hq; rcases hq with rfl | rfl | rfl <;> first | exact hd0 | simp at hq1), ?_⟩
        refine loose_call rfl Try.func23 (by kernel_rfl) (by kernel_rfl) ?_
        simp only [List.map_toArray, List.map_cons, List.map_nil, hd1, hd2]
        refine (KG1.out W hC).mono ?_
        rintro e' W' h4
        obtain ⟨v, rfl, h5, h6⟩ := GapsPost.extsV h4
        exact ⟨_, rfl, h5, hC.trans (h6.mono hC.size), h6⟩
      · intro A W hC hd hx
        have hk : ∀ v, A.eval (.const v) = v := fun _ => rfl
        have hy0 : A.eval (.tmp 7) = .pointer (some ⟨B2, 0, none⟩) := hx 7 (by simp)
        simp [factOf] at hd
        generalize A.eval = ρ at hd hk hy0 ⊢
        simp [go_sem, looseUpon, factOf, hd, hk, hy0]
        exact ⟨hC, Below.refl _ _⟩
      · intro A W hC hd hx
        have hk : ∀ v, A.eval (.const v) = v := fun _ => rfl
        have hy0 : A.eval (.tmp 3) = .pointer (some ⟨w.heap.size, 0, none⟩) := hx 3 (by simp)
        have c0 := (KA.out W hC).1
        have c1 := (KA.out W hC).2
        simp [factOf] at hd
        generalize A.eval = ρ at hd hk hy0 ⊢
        simp [go_sem, looseUpon, factOf, hd, hk, hy0, c0, c1]
        exact ⟨hC, Below.refl _ _⟩
      · intro A W hC hd hx
        simp [factOf] at hd
        obtain ⟨hd0, hd1, hd2⟩ := hd
        refine ⟨fun g hg q hq hq1 => (by cases hg; simp at hq; rcases hq with rfl | rfl | rfl <;> first | exact hd0 | simp at hq1), ?_⟩
        refine loose_call rfl Try.func23 (by kernel_rfl) (by kernel_rfl) ?_
        simp only [List.map_toArray, List.map_cons, List.map_nil, hd1, hd2]
        refine (KG2.out W hC).mono ?_
        rintro e' W' h4
        obtain ⟨v, rfl, h5, h6⟩ := GapsPost.extsV h4
        exact ⟨_, rfl, h5, hC.trans (h6.mono hC.size), h6⟩
      · intro A W hC hd hx
        simp [factOf] at hd
        obtain ⟨hd0, ⟨p, c, hd1, hi1⟩, ⟨q, d, hd2, hi2⟩⟩ := hd
        refine ⟨fun g hg q hq hq1 => (by cases hg; simp at hq; rcases hq with rfl | rfl | rfl <;> first | exact hd0 | simp at hq1), ?_⟩
        refine loose_call rfl Try.func25 (by kernel_rfl) (by kernel_rfl) ?_
        simp only [List.map_toArray, List.map_cons, List.map_nil, hd1, hd2]
        refine (KEG.out W p q c d hi1 hi2).mono ?_
        rintro e' W' ⟨rfl, h4⟩
        exact ⟨_, rfl, by simp [factOf, IsV], hC.trans (h4.mono hC.size), h4⟩
      · intro A W hC hd hx
        have hk : ∀ v, A.eval (.const v) = v := fun _ => rfl
        simp [factOf] at hd
        generalize A.eval = ρ at hd hk ⊢
        simp [go_sem, looseUpon, factOf, hd, hk]
        exact ⟨hC, Below.refl _ _⟩
      · intro A W hC hd hx
        have hk : ∀ v, A.eval (.const v) = v := fun _ => rfl
        simp [factOf] at hd
        generalize A.eval = ρ at hd hk ⊢
        simp [go_sem, looseUpon, factOf, hd, hk]
        exact ⟨hC, Below.refl _ _⟩
      · intro A W hC hd hx
        have hk : ∀ v, A.eval (.const v) = v := fun _ => rfl
        have hy0 : A.eval (.tmp 6) = .pointer (some ⟨B, 0, none⟩) := hx 6 (by simp)
        simp [factOf] at hd
        generalize A.eval = ρ at hd hk hy0 ⊢
        simp [go_sem, looseUpon, factOf, hd, hk, hy0]
        exact ⟨hC, Below.refl _ _⟩
      · intro A W hC hd hx
        have hk : ∀ v, A.eval (.const v) = v := fun _ => rfl
        have hy0 : A.eval (.tmp 3) = .pointer (some ⟨w.heap.size, 0, none⟩) := hx 3 (by simp)
        have c0 := (KA.out W hC).1
        have c1 := (KA.out W hC).2
        simp [factOf] at hd
        generalize A.eval = ρ at hd hk hy0 ⊢
        simp [go_sem, looseUpon, factOf, hd, hk, hy0, c0, c1]
        exact ⟨hC, Below.refl _ _⟩
      · intro A W hC hd hx
        simp [factOf] at hd
        obtain ⟨hd0, hd1, hd2⟩ := hd
        refine ⟨fun g hg q hq hq1 => (by cases hg; simp at hq; rcases hq with rfl | rfl | rfl <;> first | exact hd0 | simp at hq1), ?_⟩
        refine loose_call rfl Try.func19 (by kernel_rfl) (by kernel_rfl) ?_
        simp only [List.map_toArray, List.map_cons, List.map_nil, hd1, hd2]
        refine (KM.out W hC).mono ?_
        rintro e' W' h4
        obtain ⟨v, rfl, h5, h6⟩ := MeetPost.intsV h4
        exact ⟨_, rfl, h5, hC.trans (h6.mono hC.size), h6⟩
      · intro A W hC hd hx
        have hk : ∀ v, A.eval (.const v) = v := fun _ => rfl
        have hy0 : A.eval (.tmp 8) = .slice am k capm := hx 8 (by simp)
        simp [factOf] at hd
        generalize A.eval = ρ at hd hk hy0 ⊢
        simp [go_sem, looseUpon, factOf, hd, hk, hy0]
        exact ⟨hC, Below.refl _ _⟩
      · intro A W hC hd hx
        simp [factOf] at hd
        obtain ⟨hd0, ⟨p, c, hd1, hi1⟩, hd2⟩ := hd
        refine ⟨fun g hg q hq hq1 => (by cases hg; simp at hq; rcases hq with rfl | rfl | rfl <;> first | exact hd0 | simp at hq1), ?_⟩
        refine loose_call rfl Try.func18 (by kernel_rfl) (by kernel_rfl) ?_
        rw [HML.out] at hd2
        simp only [List.map_toArray, List.map_cons, List.map_nil, hd1, hd2]
        refine (KEI.out W p am c capm hi1 (HMI2.out.below hC)).mono ?_
        rintro e' W' ⟨rfl, h4⟩
        exact ⟨_, rfl, by simp [factOf, IsV], hC.trans (h4.mono hC.size), h4⟩
      · intro A W hC hd hx
        have hk : ∀ v, A.eval (.const v) = v := fun _ => rfl
        simp [factOf] at hd
        generalize A.eval = ρ at hd hk ⊢
        simp [go_sem, looseUpon, factOf, hd, hk]
        exact ⟨hC, Below.refl _ _⟩
      · intro A W hC hd hx
        have hk : ∀ v, A.eval (.const v) = v := fun _ => rfl
        simp [factOf] at hd
        generalize A.eval = ρ at hd hk ⊢
        simp [go_sem, looseUpon, factOf, hd, hk]
        exact ⟨hC, Below.refl _ _⟩
      · intro A W hC hd hx
        have hk : ∀ v, A.eval (.const v) = v := fun _ => rfl
        have hy0 : A.eval (.tmp 6) = .pointer (some ⟨B, 0, none⟩) := hx 6 (by simp)
        simp [factOf] at hd
        generalize A.eval = ρ at hd hk hy0 ⊢
        simp [go_sem, looseUpon, factOf, hd, hk, hy0]
        exact ⟨hC, Below.refl _ _⟩
      · intro A W hC hd hx
        simp [factOf] at hd
        obtain ⟨hd0, hd1⟩ := hd
        refine ⟨fun g hg q hq hq1 => (by cases hg; simp at hq; rcases hq with rfl | rfl <;> first | exact hd0 | simp at hq1), ?_⟩
        refine loose_call rfl Try.func13 (by kernel_rfl) (by kernel_rfl) ?_
        simp only [List.map_toArray, List.map_cons, List.map_nil, hd1]
        refine (KS1.out W hC).mono ?_
        rintro e' W' h4
        obtain ⟨v, rfl, h5, h6⟩ := RowPost10.extsV h4
        exact ⟨_, rfl, h5, hC.trans (h6.mono hC.size), h6⟩
      · intro A W hC hd hx
        have hk : ∀ v, A.eval (.const v) = v := fun _ => rfl
        have hy0 : A.eval (.tmp 7) = .pointer (some ⟨B2, 0, none⟩) := hx 7 (by simp)
        simp [factOf] at hd
        generalize A.eval = ρ at hd hk hy0 ⊢
        simp [go_sem, looseUpon, factOf, hd, hk, hy0]
        exact ⟨hC, Below.refl _ _⟩
      · intro A W hC hd hx
        simp [factOf] at hd
        obtain ⟨hd0, hd1⟩ := hd
        refine ⟨fun g hg q hq hq1 => (by cases hg; simp at hq; rcases hq with rfl | rfl <;> first | exact hd0 | simp at hq1), ?_⟩
        refine loose_call rfl Try.func13 (by kernel_rfl) (by kernel_rfl) ?_
        simp only [List.map_toArray, List.map_cons, List.map_nil, hd1]
        refine (KS2.out W hC).mono ?_
        rintro e' W' h4
        obtain ⟨v, rfl, h5, h6⟩ := RowPost10.extsV h4
        exact ⟨_, rfl, h5, hC.trans (h6.mono hC.size), h6⟩
      · intro A W hC hd hx
        simp [factOf] at hd
        obtain ⟨hd0, ⟨p, c, hd1, hi1⟩, ⟨q, d, hd2, hi2⟩⟩ := hd
        refine ⟨fun g hg q hq hq1 => (by cases hg; simp at hq; rcases hq with rfl | rfl | rfl <;> first | exact hd0 | simp at hq1), ?_⟩
        refine loose_call rfl Try.func25 (by kernel_rfl) (by kernel_rfl) ?_
        simp only [List.map_toArray, List.map_cons, List.map_nil, hd1, hd2]
        refine (KES.out W p q c d hi1 hi2).mono ?_
        rintro e' W' ⟨rfl, h4⟩
        exact ⟨_, rfl, by simp [factOf, IsV], hC.trans (h4.mono hC.size), h4⟩
      · intro A W hC hd hx
        have hk : ∀ v, A.eval (.const v) = v := fun _ => rfl
        simp [factOf] at hd
        generalize A.eval = ρ at hd hk ⊢
        simp [go_sem, looseUpon, factOf, hd, hk]
        exact ⟨hC, Below.refl _ _⟩
      · intro A W hC hd hx
        have hk : ∀ v, A.eval (.const v) = v := fun _ => rfl
        simp [factOf] at hd
        generalize A.eval = ρ at hd hk ⊢
        simp [go_sem, looseUpon, factOf, hd, hk]
        exact ⟨hC, Below.refl _ _⟩
      intro W hC
      have HBE := Lib.hid (HBr.out.trans (hC.mono HBr.out.size))
      clear hC KA KC1 KC2 KG1 KG2 KS1 KS2 KM KEI KEG KES
      simp only [ends]
      rintro _ rfl _ rfl _ rfl _ rfl _ rfl _ rfl _ rfl _ rfl _ rfl _ rfl _ rfl _ rfl _ rfl _ - _ rfl _ rfl _ - _ rfl _ rfl _ rfl _ rfl _ rfl _ - _ rfl _ rfl _ rfl _ rfl _ rfl _ - _ rfl _ - _ rfl _ rfl _ rfl
      simp only [putAll, List.zip_cons_cons, List.zip_nil_left, List.foldl_cons, List.foldl_nil, Act.put, List.setIfInBounds_toArray, List.set_cons_succ, List.set_cons_zero]
      go_wp2
      first | exact ⟨by simp, HBE.out⟩ | (go_ret; exact ⟨by simp, HBE.out⟩)
theorem indexOrder_walk (a : Option Addr) (n cap : Nat) (f : Nat → Int × Int) (e : Int × Int) {w : World} (hn : n ≤ 9223372036854775807) (hs : ExtSlice w a n f) (hf : ∀ i, i < n → I64 (f i).1 ∧ I64 (f i).2) (hp : I64 e.1) (hq : I64 e.2) :
    Calls Try.prog 7 #[.slice a n cap, extV e] w (Gives (.bool true) w) := by
  obtain ⟨es, rfl, h, hi⟩ := list10 hs hf
  by_cases hL : es.length ≤ 60
  · by_cases hR : Right10 es
    · cases he : okE e with
      | true => exact indexOrder_good a es cap e w h hi hL hR ⟨hp, hq⟩ he
      | false => exact indexOrder_bad a es cap e w h hi hL hR ⟨hp, hq⟩ he
    · exact indexOrder_not a es cap e w h hi hL hR
  · exact indexOrder_big a es cap e w (by omega)
end Go.Proofs.Ytfomidjhmdmmcaa
