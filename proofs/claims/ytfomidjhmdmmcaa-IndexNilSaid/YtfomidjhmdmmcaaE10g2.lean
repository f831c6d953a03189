/- IndexGaps returns true for every list of extents and every extent, and changes nothing that was there. -/
import Derived.Test.YtfomidjhmdmmcaaE10g1
namespace Go.Proofs.Ytfomidjhmdmmcaa
open Go.RowKit Go.Shelf Go.Proofs.Ytfomidjhmdmmcaa.Plain01
set_option linter.unusedVariables false
set_option linter.unusedSimpArgs false

theorem extSum_at10 (G : List (Int × Int)) : ∀ k, k ≤ G.length → extSum (at10 G) k = ((G.take k).map (·.2)).sum := by
  intro k
  induction k with
  | zero => intro _; simp [extSum]
  | succ k ih =>
    intro hk
    rw [List.take_add_one, at10_get (by omega), Option.toList_some, List.map_append, List.sum_append]
    simp only [extSum, ih (by omega)]
    simp
/-- A slice of extents, as a value. -/
def ExtsV (l : List (Int × Int)) (v : Value) (w : World) : Prop := ∃ a cap, v = .slice a l.length cap ∧ ExtsIn w a l
theorem stable_exts10 (l : List (Int × Int)) : Stable (fun W W' => Below W.heap.size W W') (ExtsV l) := fun v w w' h hE => by
  obtain ⟨a, cap, rfl, hI⟩ := h
  exact ⟨a, cap, rfl, ExtSlice.below hI hE⟩
theorem GapsPost.extsV {l : List (Int × Int)} {w w' : World} {e : Ending} (h : GapsPost l w e w') : ∃ v, e = .returned v ∧ ExtsV l v w' ∧ Below w.heap.size w w' := by
  obtain ⟨v, rfl, hr, hb⟩ := h
  obtain ⟨a, cap, rfl, hI, _⟩ := row10 hr rfl
  exact ⟨_, rfl, ⟨a, cap, rfl, hI⟩, hb⟩
/-- What the gaps are, for this law. -/
theorem gaps_law {es : List (Int × Int)} (hR : Right10 es) {e : Int × Int} (he : okE e = true) : ∃ s : Int, totV (gaps10 es e).length (at10 (gaps10 es e)) = .tuple #[.int .i64 s, .bool true] ∧ s + cov10 es e = e.2 ∧ insB e (gaps10 es e).length (at10 (gaps10 es e)) = true ∧ (∀ i, i < (gaps10 es e).length → okE (at10 (gaps10 es e) i) = true ∧ meet10 es (at10 (gaps10 es e) i) = []) := by
  have hin := gaps_in hR he
  have hs := gaps_sum hR he
  have hc := cov10_le hR he
  have heo := okE_iff.1 he
  have hsum := extSum_at10 (gaps10 es e) _ (Nat.le_refl _)
  rw [List.take_length] at hsum
  refine ⟨((gaps10 es e).map (·.2)).sum, ?_, hs, insB_yes fun i hi => ?_, fun i hi => ?_⟩
  · rw [totV_yes (by rw [hsum]; omega), hsum]
  · have := hin _ (at10_mem hi)
    unfold insE
    omega
  · have := hin _ (at10_mem hi)
    exact ⟨this.1, this.2.2.2.2⟩

set_option maxRecDepth 100000 in
set_option maxHeartbeats 4000000 in
theorem indexGaps_big (a : Option Addr) (es : List (Int × Int)) (cap : Nat) (e : Int × Int) (w : World) (hL : 60 < es.length) :
    Calls Try.prog 6 #[.slice a es.length cap, extV e] w (Gives (.bool true) w) := by
  have ha := alive10_any
  have e1 : decide ((60 : Int) < (es.length : Int)) = true := by simp; omega
  generalize es.length = L at *
  obtain ⟨W0, hW0⟩ : ∃ W0, w.alloc (.cells #[.int .i64 e.1, .int .i64 e.2] 30) = W0 := ⟨_, rfl⟩
  have HB0 : Hid (Below w.heap.size w W0) := Lib.hid (by rw [← hW0]; exact (Below.refl _ w).alloc (Nat.le_refl _) _)
  have HW0 := Lib.hid hW0
  clear hW0
  go_enter Try.func6, Try.ntmps6
  go_wp2_with fail
  rw [HW0.out]
  refine (ha _).mono ?_
  rintro e w2 ⟨rfl, hb2⟩
  have HB2 := Lib.hid (HB0.out.trans (hb2.mono HB0.out.size))
  clear hb2
  go_wp2
  go_ret
  exact ⟨rfl, HB2.out⟩
set_option maxRecDepth 100000 in
set_option maxHeartbeats 4000000 in
theorem indexGaps_not (a : Option Addr) (es : List (Int × Int)) (cap : Nat) (e : Int × Int) (w : World) (h : ExtSlice w a es.length (at10 es)) (hi : ∀ x ∈ es, I64 x.1 ∧ I64 x.2) (hL : es.length ≤ 60) (hR : ¬ Right10 es) :
    Calls Try.prog 6 #[.slice a es.length cap, extV e] w (Gives (.bool true) w) := by
  have ha := alive10_any
  have HRR := Lib.hid (fun W (hW : Below w.heap.size w W) => rxright_any a es cap W (h.below hW) hi (by omega))
  rw [decide_eq_false hR] at HRR
  clear h hi hR
  generalize es.length = L at *
  obtain ⟨W0, hW0⟩ : ∃ W0, w.alloc (.cells #[.int .i64 e.1, .int .i64 e.2] 30) = W0 := ⟨_, rfl⟩
  have HB0 : Hid (Below w.heap.size w W0) := Lib.hid (by rw [← hW0]; exact (Below.refl _ w).alloc (Nat.le_refl _) _)
  have hr := HRR.out _ HB0.out
  have HW0 := Lib.hid hW0
  clear hW0
  go_enter Try.func6, Try.ntmps6
  go_wp2_with fail
  rw [HW0.out]
  go_wp2_with fail
  refine hr.mono ?_
  rintro e1 w1 ⟨rfl, hb1⟩
  have HB1 := Lib.hid (HB0.out.trans (hb1.mono HB0.out.size))
  clear hr hb1
  go_wp2_with fail
  refine (ha _).mono ?_
  rintro e2 w2 ⟨rfl, hb2⟩
  have HB2 := Lib.hid (HB1.out.trans (hb2.mono HB1.out.size))
  clear hb2
  go_wp2
  go_ret
  exact ⟨rfl, HB2.out⟩
set_option maxRecDepth 100000 in
set_option maxHeartbeats 4000000 in
theorem indexGaps_bad (a : Option Addr) (es : List (Int × Int)) (cap : Nat) (e : Int × Int) (w : World) (h : ExtSlice w a es.length (at10 es)) (hi : ∀ x ∈ es, I64 x.1 ∧ I64 x.2) (hL : es.length ≤ 60) (hR : Right10 es) (hei : I64 e.1 ∧ I64 e.2) (he : okE e = false) :
    Calls Try.prog 6 #[.slice a es.length cap, extV e] w (Gives (.bool true) w) := by
  have ha := alive10_any
  have HRR := Lib.hid (fun W (hW : Below w.heap.size w W) => rxright_any a es cap W (h.below hW) hi (by omega))
  rw [decide_eq_true hR] at HRR
  have hv := rvalid_gives e hei.1 hei.2
  rw [he] at hv
  clear h hi hR hei he
  generalize es.length = L at *
  obtain ⟨W0, hW0⟩ : ∃ W0, w.alloc (.cells #[.int .i64 e.1, .int .i64 e.2] 30) = W0 := ⟨_, rfl⟩
  have HB0 : Hid (Below w.heap.size w W0) := Lib.hid (by rw [← hW0]; exact (Below.refl _ w).alloc (Nat.le_refl _) _)
  have HE0 : Hid (W0.heap[w.heap.size]? = some (.cells #[.int .i64 e.1, .int .i64 e.2] 30 (0, 0))) := Lib.hid (by rw [← hW0]; exact heap_new _ _ rfl)
  have hr := HRR.out _ HB0.out
  have HW0 := Lib.hid hW0
  clear hW0
  go_enter Try.func6, Try.ntmps6
  go_wp2_with fail
  rw [HW0.out]
  go_wp2_with fail
  refine hr.mono ?_
  rintro e1 w1 ⟨rfl, hb1⟩
  have HB1 := Lib.hid (HB0.out.trans (hb1.mono HB0.out.size))
  have hx := heap_below HE0.out hb1
  have x0 : w1.cell? ⟨w.heap.size, 0, none⟩ = some (.int .i64 e.1) := cell_of hx 0
  have x1 : w1.cell? ⟨w.heap.size, 1, none⟩ = some (.int .i64 e.2) := cell_of hx 1
  clear hr hb1 hx
  go_wp2_with fail
  refine (hv _).mono ?_
  rintro e2 w2 ⟨rfl, hb2⟩
  have HB2 := Lib.hid (HB1.out.trans (hb2.mono HB1.out.size))
  clear hb2 hv x0 x1
  go_wp2_with fail
  refine (ha _).mono ?_
  rintro e3 w3 ⟨rfl, hb3⟩
  have HB3 := Lib.hid (HB2.out.trans (hb3.mono HB2.out.size))
  clear hb3
  go_wp2
  go_ret
  exact ⟨rfl, HB3.out⟩
set_option maxRecDepth 100000 in
set_option maxHeartbeats 8000000 in
theorem indexGaps_good (a : Option Addr) (es : List (Int × Int)) (cap : Nat) (e : Int × Int) (w : World) (h : ExtSlice w a es.length (at10 es)) (hi : ∀ x ∈ es, I64 x.1 ∧ I64 x.2) (hL : es.length ≤ 60) (hR : Right10 es) (hei : I64 e.1 ∧ I64 e.2) (he : okE e = true) :
    Calls Try.prog 6 #[.slice a es.length cap, extV e] w (Gives (.bool true) w) := by
  have ha := Lib.hid alive10_any
  have HRR := Lib.hid (fun W (hW : Below w.heap.size w W) => rxright_any a es cap W (h.below hW) hi (by omega))
  rw [decide_eq_true hR] at HRR
  have hv := rvalid_gives e hei.1 hei.2
  rw [he] at hv
  have HNEW := Lib.hid (fun W (hW : Below w.heap.size w W) => new10_any a es cap W (h.below hW) hi (by omega))
  have HRG := Lib.hid (fun W (hW : Below w.heap.size w W) => rgaps10_any a es cap e he W (h.below hW) hR (by omega))
  have HR := Lib.hid hR
  have HE := Lib.hid he
  obtain ⟨s, hs1, hs2, hs3, hs4⟩ := gaps_law hR he
  have heo := okE_iff.1 he
  have hcov := cov10_le hR he
  have HGL : Hid ((gaps10 es e).length ≤ 1000000) := Lib.hid (by
    have h1 : (meet10 es e).length ≤ es.length := by
      unfold meet10
      refine Nat.le_trans (List.length_filter_le _ _) ?_
      rw [(ord10_perm es).length_eq]
      simp
    rw [← gaps10_end, List.length_append]
    have h2 := gapA_length (pts10 es e (meet10 es e)) e.1
    have h3 := gapOne_length (gapA e.1 (pts10 es e (meet10 es e))).2 (e.1 + e.2)
    have h4 : (pts10 es e (meet10 es e)).length = (meet10 es e).length := by unfold pts10; simp
    omega)
  obtain ⟨L, hLe⟩ : ∃ L, L = es.length := ⟨_, rfl⟩
  rw [← hLe] at hL HRR HNEW HRG ⊢
  obtain ⟨W0, hW0⟩ : ∃ W0, w.alloc (.cells #[.int .i64 e.1, .int .i64 e.2] 30) = W0 := ⟨_, rfl⟩
  have HB0 : Hid (Below w.heap.size w W0) := Lib.hid (by rw [← hW0]; exact (Below.refl _ w).alloc (Nat.le_refl _) _)
  have HE0 : Hid (W0.heap[w.heap.size]? = some (.cells #[.int .i64 e.1, .int .i64 e.2] 30 (0, 0))) := Lib.hid (by rw [← hW0]; exact heap_new _ _ rfl)
  have hr := HRR.out _ HB0.out
  have HW0 := Lib.hid hW0
  have HS1 := Lib.hid hs1
  have HS3 := Lib.hid hs3
  have HS4 := Lib.hid hs4
  clear h hi hR hei he hLe hW0 hs1 hs3 hs4
  go_enter Try.func6, Try.ntmps6
  go_wp2_with fail
  rw [HW0.out]
  go_wp2_with fail
  refine hr.mono ?_
  rintro e1 w1 ⟨rfl, hb1⟩
  have HB1 := Lib.hid (HB0.out.trans (hb1.mono HB0.out.size))
  have hx := heap_below HE0.out hb1
  have x0 : w1.cell? ⟨w.heap.size, 0, none⟩ = some (.int .i64 e.1) := cell_of hx 0
  have x1 : w1.cell? ⟨w.heap.size, 1, none⟩ = some (.int .i64 e.2) := cell_of hx 1
  have HX1 := Lib.hid hx
  clear hr hb1 hx
  go_wp2_with fail
  refine (hv _).mono ?_
  rintro e2 w2 ⟨rfl, hb2⟩
  have HB2 := Lib.hid (HB1.out.trans (hb2.mono HB1.out.size))
  have HX2 := Lib.hid (heap_below HX1.out hb2)
  clear hb2 hv x0 x1 HX1
  go_wp2_with fail
  refine (HNEW.out _ HB2.out).mono ?_
  rintro e3 w3 ⟨hy, _, hb3⟩
  obtain ⟨B, a', cap', g, rfl, hX, _, _, _⟩ := hy HR.out
  have hx3 := heap_below HX2.out hb3
  have HX := Lib.hid hX
  have HX3 := Lib.hid hx3
  have HB3 := Lib.hid (HB2.out.trans (hb3.mono HB2.out.size))
  have e5 : ((some ⟨B, 0, none⟩ : Option Addr) == none) = false := rfl
  have x0 : w3.cell? ⟨w.heap.size, 0, none⟩ = some (.int .i64 e.1) := cell_of hx3 0
  have x1 : w3.cell? ⟨w.heap.size, 1, none⟩ = some (.int .i64 e.2) := cell_of hx3 1
  have hgp := gaps10_any B cap' g a' es HR.out e HE.out w3 hX
  clear hy hX hb3 HX2 HNEW HRR hx3
  go_wp2_with fail
  refine hgp.mono ?_
  rintro e4 w4 h4
  obtain ⟨v4, rfl, ⟨ag, capg, rfl, hG⟩, hb4⟩ := GapsPost.extsV h4
  have htot := total_gives ag (gaps10 es e).length capg (at10 (gaps10 es e)) (by have := HGL.out; omega) w4 hG (fun i hi => (HS4.out i hi).1)
  rw [HS1.out] at htot
  have HB4 := Lib.hid (HB3.out.trans (hb4.mono HB3.out.size))
  have HX4 := Lib.hid (heap_below HX3.out hb4)
  have HI4 := Lib.hid (HX.out.below hb4)
  have HG := Lib.hid hG
  obtain ⟨N, hN⟩ : ∃ N, N = (gaps10 es e).length := ⟨_, rfl⟩
  have HN := Lib.hid hN
  have hNle : N ≤ 1000000 := by rw [hN]; exact HGL.out
  rw [← hN] at htot ⊢
  clear hgp h4 hb4 x0 x1 hG hN HX3 HX HS1
  go_wp2_with fail
  refine htot.mono ?_
  rintro e5 w5 ⟨rfl, hb5⟩
  have HB5 := Lib.hid (HB4.out.trans (hb5.mono HB4.out.size))
  have HX5 := Lib.hid (heap_below HX4.out hb5)
  have HI5 := Lib.hid (HI4.out.below hb5)
  have HG5 : Hid (ExtsIn w5 ag (gaps10 es e)) := Lib.hid (ExtSlice.below HG.out hb5)
  clear htot hb5 HX4 HI4 HG
  go_wp2_with fail
  go_loopw [10, 39] (fun vy vi wr => ∃ k : Nat, k ≤ N ∧ vi = .int .i64 k ∧ Below w5.heap.size w5 wr) (fun _ vi _ => N - (intOf vi).toNat)
  case atStart => exact ⟨0, Nat.zero_le _, rfl, Below.refl _ _⟩
  case round =>
    obtain ⟨k, hk, rfl, hB⟩ := hrel
    by_cases hlt : k < N
    · have hkN : k < (gaps10 es e).length := by rw [← HN.out]; exact hlt
      obtain ⟨b, o, rfl, hrow⟩ := HG5.out (by omega)
      have hbl := hrow.lt (by omega)
      obtain ⟨x0, x1⟩ := hrow.below hB hbl k hkN
      obtain ⟨hok, hme⟩ := HS4.out k hkN
      obtain ⟨y, hy⟩ : ∃ y, y = at10 (gaps10 es e) k := ⟨_, rfl⟩
      rw [← hy] at x0 x1 hok hme
      obtain ⟨W3, hW3⟩ : ∃ W3, wr.alloc (.cells #[.int .i64 y.1, .int .i64 y.2] 30) = W3 := ⟨_, rfl⟩
      have hb3 : Below wr.heap.size wr W3 := by rw [← hW3]; exact (Below.refl _ _).alloc (Nat.le_refl _) _
      have bE : W3.heap[wr.heap.size]? = some (.cells #[.int .i64 y.1, .int .i64 y.2] 30 (0, 0)) := by rw [← hW3]; exact heap_new _ _ rfl
      have hB3 := hB.trans (hb3.mono hB.size)
      have hM := meet10_any B cap' g a' es HR.out y hok W3 (HI5.out.below hB3)
      rw [hme] at hM
      have y0 : W3.cell? ⟨wr.heap.size, 0, none⟩ = some (.int .i64 y.1) := cell_of bE 0
      have y1 : W3.cell? ⟨wr.heap.size, 1, none⟩ = some (.int .i64 y.2) := cell_of bE 1
      have HW3 := Lib.hid hW3
      have HB3' := Lib.hid hB3
      clear hrow hbl hok hme hy hb3 bE hW3 hB3 hkN hB
      go_wp2_with fail
      rw [HW3.out]
      go_wp2_with fail
      refine hM.mono ?_
      rintro e6 w6 ⟨v6, rfl, hrow6, hb6⟩
      obtain ⟨a6, cap6, rfl⟩ := slice_own10 hrow6
      have HB6 := Lib.hid (HB3'.out.trans (hb6.mono HB3'.out.size))
      clear hM hrow6 hb6 x0 x1 y0 y1
      go_wp2
      go_roundw
      case rel => exact ⟨k + 1, by omega, by go_num, HB6.out⟩
      case measure => simp [intOf]; omega
    · obtain rfl : k = N := by omega
      have hcov2 : s + cov10 es e = e.2 := hs2
      have KA : Hid (∀ W, Below wr.heap.size wr W → W.cell? ⟨w.heap.size, 0, none⟩ = some (.int .i64 e.1) ∧ W.cell? ⟨w.heap.size, 1, none⟩ = some (.int .i64 e.2)) := Lib.hid fun W hW => by
        have h := heap_below HX5.out (hB.trans (hW.mono hB.size))
        exact ⟨cell_of h 0, cell_of h 1⟩
      have KC := Lib.hid (fun W (hW : Below wr.heap.size wr W) => covered10_any B cap' g a' es HR.out e HE.out W (HI5.out.below (hB.trans (hW.mono hB.size))))
      have HBr := Lib.hid (HB5.out.trans (hB.mono HB5.out.size))
      have KRG := Lib.hid (fun W (hW : Below wr.heap.size wr W) => HRG.out W (HBr.out.trans (hW.mono HBr.out.size)))
      have KG : Hid (∀ W, Below wr.heap.size wr W → ExtsIn W ag (gaps10 es e)) := Lib.hid fun W hW => ExtSlice.below HG5.out (hB.trans (hW.mono hB.size))
      have KEQ := Lib.hid (fun (W : World) (p q : Option Addr) (c d : Nat) (h1 : ExtsIn W p (gaps10 es e)) (h2 : ExtsIn W q (gaps10 es e)) => eqext10_any p q _ _ c d W h1 h2 (by have := HGL.out; omega) (by have := HGL.out; omega))
      have KCT := Lib.hid (fun W (hW : Below wr.heap.size wr W) => contains_gives e ag (gaps10 es e).length capg (at10 (gaps10 es e)) HE.out (by have := HGL.out; omega) W (KG.out W hW) (fun i hi => (HS4.out i hi).1))
      rw [HS3.out] at KCT
      rw [← HN.out] at KCT
      have HNL : Hid (k = (gaps10 es e).length) := HN
      generalize gaps10 es e = G at KRG KG KEQ HNL
      rw [← HNL.out] at KEQ
      generalize cov10 es e = n at KC hcov hcov2
      clear HRG HR HE HI5 HG5 HX5 hB HS3 HS4 HGL hs2 HN
      go_wp2_with fail
      have hw64 : IntKind.i64.wrap (s + n) = e.2 := by rw [IntKind.wrap_i64] <;> omega
      refine wp_region_loose
        [IsV (.bool true), IsV (.bool true), IsV (.slice ag k capg), IsV (.slice a L cap), IsV (extV e), ExtsV G, IsV (.bool true), IsV (.bool true), IsV (.bool true), IsV (.bool true), IsV (.bool true), IsV (.bool true), IsV (.int .i64 s), IsV (.pointer (some ⟨B, 0, none⟩)), IsV (extV e), IsV (.int .i64 n), IsV (.int .i64 e.2), IsV (.pointer (some ⟨w.heap.size, 1, none⟩)), IsV (.int .i64 e.2), IsV (.bool true), IsV (.bool true), IsV (.bool true), IsV (extV e), IsV (.slice ag k capg), IsV (.bool true), IsV (.bool true), IsV (.bool true)]
        [⟨49, [], []⟩, ⟨50, [(0, 49)], []⟩, ⟨51, [(1, 50)], [6]⟩, ⟨52, [(1, 50)], [0]⟩, ⟨53, [(1, 50)], [3]⟩, ⟨54, [(1, 50), (3, 52), (4, 53)], []⟩, ⟨55, [(1, 50), (2, 51), (5, 54)], []⟩, ⟨56, [(1, 50), (6, 55)], []⟩, ⟨57, [(7, 56)], []⟩, ⟨58, [(8, 57)], [8]⟩, ⟨59, [(8, 57), (9, 58)], []⟩, ⟨60, [(10, 59)], []⟩, ⟨61, [(11, 60)], [7]⟩, ⟨62, [(11, 60)], [5]⟩, ⟨63, [(11, 60)], [3]⟩, ⟨64, [(11, 60), (13, 62), (14, 63)], []⟩, ⟨65, [(11, 60), (12, 61), (15, 64)], []⟩, ⟨66, [(11, 60)], [3]⟩, ⟨67, [(11, 60), (17, 66)], []⟩, ⟨68, [(11, 60), (16, 65), (18, 67)], []⟩, ⟨69, [(11, 60), (19, 68)], []⟩, ⟨70, [(20, 69)], []⟩, ⟨71, [(21, 70)], [3]⟩, ⟨72, [(21, 70)], [6]⟩, ⟨73, [(21, 70), (22, 71), (23, 72)], []⟩, ⟨74, [(21, 70), (24, 73)], []⟩, ⟨4, [(25, 74)], []⟩]
        (fun W => Below wr.heap.size wr W) (fun W W' => Below W.heap.size W W') (by kernel_rfl) (by kernel_rfl) rfl rfl (Below.refl _ wr).drew ?_
        ⟨?_, ?_, ?_, ?_, ?_, ?_, ?_, ?_, ?_, ?_, ?_, ?_, ?_, ?_, ?_, ?_, ?_, ?_, ?_, ?_, ?_, ?_, ?_, ?_, ?_, ?_, ?_, trivial⟩ ?_
      · repeat (first | (intro _ h; cases h; done) | refine List.forall_mem_cons.2 ⟨stable_V _ _, ?_⟩ | refine List.forall_mem_cons.2 ⟨stable_exts10 _, ?_⟩)
      · intro A W hC hd hx
        refine ⟨fun g hg => (by cases hg), ?_⟩
        refine loose_call rfl Try.func9 (by kernel_rfl) (by kernel_rfl) ?_
        rw [show (#[] : Array Operand).map A.eval = #[] by simp]
        refine (ha.out W).mono ?_
        rintro e' W' ⟨rfl, h4⟩
        exact ⟨_, rfl, rfl, hC.trans (h4.mono hC.size), h4⟩
      · intro A W hC hd hx
        have hk : ∀ v, A.eval (.const v) = v := fun _ => rfl
        simp [factOf] at hd
        generalize A.eval = ρ at hd hk ⊢
        simp [go_sem, looseUpon, factOf, hd, hk]
        exact ⟨hC, Below.refl _ _⟩
      · intro A W hC hd hx
        have hk : ∀ v, A.eval (.const v) = v := fun _ => rfl
        have hy0 : A.eval (.tmp 6) = .slice ag k capg := hx 6 (by simp)
        simp [factOf] at hd
        generalize A.eval = ρ at hd hk hy0 ⊢
        simp [go_sem, looseUpon, factOf, hd, hk, hy0]
        exact ⟨hC, Below.refl _ _⟩
      · intro A W hC hd hx
        have hk : ∀ v, A.eval (.const v) = v := fun _ => rfl
        have hy0 : A.eval (.tmp 0) = .slice a L cap := hx 0 (by simp)
        simp [factOf] at hd
        generalize A.eval = ρ at hd hk hy0 ⊢
        simp [go_sem, looseUpon, factOf, hd, hk, hy0]
        exact ⟨hC, Below.refl _ _⟩
      · intro A W hC hd hx
        have hk : ∀ v, A.eval (.const v) = v := fun _ => rfl
        have hy0 : A.eval (.tmp 3) = .pointer (some ⟨w.heap.size, 0, none⟩) := hx 3 (by simp)
        have c0 := (KA.out W hC).1
        have c1 := (KA.out W hC).2
        simp [factOf] at hd
        generalize A.eval = ρ at hd hk hy0 ⊢
        simp [go_sem, looseUpon, factOf, hd, hk, hy0, c0, c1]
        exact ⟨hC, Below.refl _ _⟩
      · intro A W hC hd hx
        simp [factOf] at hd
        obtain ⟨hd0, hd1, hd2⟩ := hd
        refine ⟨fun g hg q hq hq1 => (by cases hg; simp at hq; rcases hq with rfl | rfl | rfl <;> first | exact hd0 | simp at hq1), ?_⟩
        refine loose_call rfl Try.func26 (by kernel_rfl) (by kernel_rfl) ?_
        simp only [List.map_toArray, List.map_cons, List.map_nil, hd1, hd2]
        refine (KRG.out W hC).mono ?_
        rintro e' W' h4
        obtain ⟨v, rfl, h5, h6⟩ := GapsPost.extsV h4
        exact ⟨_, rfl, h5, hC.trans (h6.mono hC.size), h6⟩
      · intro A W hC hd hx
        simp [factOf] at hd
        obtain ⟨hd0, hd1, ⟨q, d, hd2, hi2⟩⟩ := hd
        refine ⟨fun g hg q hq hq1 => (by cases hg; simp at hq; rcases hq with rfl | rfl | rfl <;> first | exact hd0 | simp at hq1), ?_⟩
        refine loose_call rfl Try.func25 (by kernel_rfl) (by kernel_rfl) ?_
        rw [← HNL.out] at hd2
        simp only [List.map_toArray, List.map_cons, List.map_nil, hd1, hd2]
        refine (KEQ.out W ag q capg d (KG.out W hC) hi2).mono ?_
        rintro e' W' ⟨rfl, h4⟩
        exact ⟨_, rfl, by simp [factOf, IsV], hC.trans (h4.mono hC.size), h4⟩
      · intro A W hC hd hx
        have hk : ∀ v, A.eval (.const v) = v := fun _ => rfl
        simp [factOf] at hd
        generalize A.eval = ρ at hd hk ⊢
        simp [go_sem, looseUpon, factOf, hd, hk]
        exact ⟨hC, Below.refl _ _⟩
      · intro A W hC hd hx
        have hk : ∀ v, A.eval (.const v) = v := fun _ => rfl
        simp [factOf] at hd
        generalize A.eval = ρ at hd hk ⊢
        simp [go_sem, looseUpon, factOf, hd, hk]
        exact ⟨hC, Below.refl _ _⟩
      · intro A W hC hd hx
        have hk : ∀ v, A.eval (.const v) = v := fun _ => rfl
        have hy0 : A.eval (.tmp 8) = .bool true := hx 8 (by simp)
        simp [factOf] at hd
        generalize A.eval = ρ at hd hk hy0 ⊢
        simp [go_sem, looseUpon, factOf, hd, hk, hy0]
        exact ⟨hC, Below.refl _ _⟩
      · intro A W hC hd hx
        have hk : ∀ v, A.eval (.const v) = v := fun _ => rfl
        simp [factOf] at hd
        generalize A.eval = ρ at hd hk ⊢
        simp [go_sem, looseUpon, factOf, hd, hk]
        exact ⟨hC, Below.refl _ _⟩
      · intro A W hC hd hx
        have hk : ∀ v, A.eval (.const v) = v := fun _ => rfl
        simp [factOf] at hd
        generalize A.eval = ρ at hd hk ⊢
        simp [go_sem, looseUpon, factOf, hd, hk]
        exact ⟨hC, Below.refl _ _⟩
      · intro A W hC hd hx
        have hk : ∀ v, A.eval (.const v) = v := fun _ => rfl
        have hy0 : A.eval (.tmp 7) = .int .i64 s := hx 7 (by simp)
        simp [factOf] at hd
        generalize A.eval = ρ at hd hk hy0 ⊢
        simp [go_sem, looseUpon, factOf, hd, hk, hy0]
        exact ⟨hC, Below.refl _ _⟩
      · intro A W hC hd hx
        have hk : ∀ v, A.eval (.const v) = v := fun _ => rfl
        have hy0 : A.eval (.tmp 5) = .pointer (some ⟨B, 0, none⟩) := hx 5 (by simp)
        simp [factOf] at hd
        generalize A.eval = ρ at hd hk hy0 ⊢
        simp [go_sem, looseUpon, factOf, hd, hk, hy0]
        exact ⟨hC, Below.refl _ _⟩
      · intro A W hC hd hx
        have hk : ∀ v, A.eval (.const v) = v := fun _ => rfl
        have hy0 : A.eval (.tmp 3) = .pointer (some ⟨w.heap.size, 0, none⟩) := hx 3 (by simp)
        have c0 := (KA.out W hC).1
        have c1 := (KA.out W hC).2
        simp [factOf] at hd
        generalize A.eval = ρ at hd hk hy0 ⊢
        simp [go_sem, looseUpon, factOf, hd, hk, hy0, c0, c1]
        exact ⟨hC, Below.refl _ _⟩
      · intro A W hC hd hx
        simp [factOf] at hd
        obtain ⟨hd0, hd1, hd2⟩ := hd
        refine ⟨fun g hg q hq hq1 => (by cases hg; simp at hq; rcases hq with rfl | rfl | rfl <;> first | exact hd0 | simp at hq1), ?_⟩
        refine loose_call rfl Try.func21 (by kernel_rfl) (by kernel_rfl) ?_
        simp only [List.map_toArray, List.map_cons, List.map_nil, hd1, hd2]
        refine (KC.out W hC).mono ?_
        rintro e' W' ⟨rfl, h4⟩
        exact ⟨_, rfl, rfl, hC.trans (h4.mono hC.size), h4⟩
      · intro A W hC hd hx
        have hk : ∀ v, A.eval (.const v) = v := fun _ => rfl
        have c0 := hw64
        simp [factOf] at hd
        generalize A.eval = ρ at hd hk ⊢
        simp [go_sem, looseUpon, factOf, hd, hk, c0]
        exact ⟨hC, Below.refl _ _⟩
      · intro A W hC hd hx
        have hk : ∀ v, A.eval (.const v) = v := fun _ => rfl
        have hy0 : A.eval (.tmp 3) = .pointer (some ⟨w.heap.size, 0, none⟩) := hx 3 (by simp)
        simp [factOf] at hd
        generalize A.eval = ρ at hd hk hy0 ⊢
        simp [go_sem, looseUpon, factOf, hd, hk, hy0]
        exact ⟨hC, Below.refl _ _⟩
      · intro A W hC hd hx
        have hk : ∀ v, A.eval (.const v) = v := fun _ => rfl
        have c0 := (KA.out W hC).2
        simp [factOf] at hd
        generalize A.eval = ρ at hd hk ⊢
        simp [go_sem, looseUpon, factOf, hd, hk, c0]
        exact ⟨hC, Below.refl _ _⟩
      · intro A W hC hd hx
        have hk : ∀ v, A.eval (.const v) = v := fun _ => rfl
        simp [factOf] at hd
        generalize A.eval = ρ at hd hk ⊢
        simp [go_sem, looseUpon, factOf, hd, hk]
        exact ⟨hC, Below.refl _ _⟩
      · intro A W hC hd hx
        have hk : ∀ v, A.eval (.const v) = v := fun _ => rfl
        simp [factOf] at hd
        generalize A.eval = ρ at hd hk ⊢
        simp [go_sem, looseUpon, factOf, hd, hk]
        exact ⟨hC, Below.refl _ _⟩
      · intro A W hC hd hx
        have hk : ∀ v, A.eval (.const v) = v := fun _ => rfl
        simp [factOf] at hd
        generalize A.eval = ρ at hd hk ⊢
        simp [go_sem, looseUpon, factOf, hd, hk]
        exact ⟨hC, Below.refl _ _⟩
      · intro A W hC hd hx
        have hk : ∀ v, A.eval (.const v) = v := fun _ => rfl
        have hy0 : A.eval (.tmp 3) = .pointer (some ⟨w.heap.size, 0, none⟩) := hx 3 (by simp)
        have c0 := (KA.out W hC).1
        have c1 := (KA.out W hC).2
        simp [factOf] at hd
        generalize A.eval = ρ at hd hk hy0 ⊢
        simp [go_sem, looseUpon, factOf, hd, hk, hy0, c0, c1]
        exact ⟨hC, Below.refl _ _⟩
      · intro A W hC hd hx
        have hk : ∀ v, A.eval (.const v) = v := fun _ => rfl
        have hy0 : A.eval (.tmp 6) = .slice ag k capg := hx 6 (by simp)
        simp [factOf] at hd
        generalize A.eval = ρ at hd hk hy0 ⊢
        simp [go_sem, looseUpon, factOf, hd, hk, hy0]
        exact ⟨hC, Below.refl _ _⟩
      · intro A W hC hd hx
        simp [factOf] at hd
        obtain ⟨hd0, hd1, hd2⟩ := hd
        refine ⟨fun g hg q hq hq1 => (by cases hg; simp at hq; rcases hq with rfl | rfl | rfl <;> first | exact hd0 | simp at hq1), ?_⟩
        refine loose_call rfl Try.func27 (by kernel_rfl) (by kernel_rfl) ?_
        simp only [List.map_toArray, List.map_cons, List.map_nil, hd1, hd2]
        refine (KCT.out W hC).mono ?_
        rintro e' W' ⟨rfl, h4⟩
        exact ⟨_, rfl, rfl, hC.trans (h4.mono hC.size), h4⟩
      · intro A W hC hd hx
        have hk : ∀ v, A.eval (.const v) = v := fun _ => rfl
        simp [factOf] at hd
        generalize A.eval = ρ at hd hk ⊢
        simp [go_sem, looseUpon, factOf, hd, hk]
        exact ⟨hC, Below.refl _ _⟩
      · intro A W hC hd hx
        have hk : ∀ v, A.eval (.const v) = v := fun _ => rfl
        simp [factOf] at hd
        generalize A.eval = ρ at hd hk ⊢
        simp [go_sem, looseUpon, factOf, hd, hk]
        exact ⟨hC, Below.refl _ _⟩
      intro W hC
      have HBE := Lib.hid (HBr.out.trans (hC.mono HBr.out.size))
      clear hC KA KC KRG KEQ KG KCT
      simp only [ends]
      rintro _ rfl _ rfl _ rfl _ rfl _ rfl _ - _ rfl _ rfl _ rfl _ rfl _ rfl _ rfl _ rfl _ rfl _ rfl _ rfl _ rfl _ rfl _ rfl _ rfl _ rfl _ rfl _ rfl _ rfl _ rfl _ rfl _ rfl
      simp only [putAll, List.zip_cons_cons, List.zip_nil_left, List.foldl_cons, List.foldl_nil, Act.put, List.setIfInBounds_toArray, List.set_cons_succ, List.set_cons_zero]
      go_wp2
      first | exact ⟨by simp, HBE.out⟩ | (go_ret; exact ⟨by simp, HBE.out⟩)
theorem indexGaps_walk (a : Option Addr) (n cap : Nat) (f : Nat → Int × Int) (e : Int × Int) {w : World} (hn : n ≤ 9223372036854775807) (hs : ExtSlice w a n f) (hf : ∀ i, i < n → I64 (f i).1 ∧ I64 (f i).2) (hp : I64 e.1) (hq : I64 e.2) :
    Calls Try.prog 6 #[.slice a n cap, extV e] w (Gives (.bool true) w) := by
  obtain ⟨es, rfl, h, hi⟩ := list10 hs hf
  by_cases hL : es.length ≤ 60
  · by_cases hR : Right10 es
    · cases he : okE e with
      | true => exact indexGaps_good a es cap e w h hi hL hR ⟨hp, hq⟩ he
      | false => exact indexGaps_bad a es cap e w h hi hL hR ⟨hp, hq⟩ he
    · exact indexGaps_not a es cap e w h hi hL hR
  · exact indexGaps_big a es cap e w (by omega)
end Go.Proofs.Ytfomidjhmdmmcaa
