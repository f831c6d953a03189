/- Meet, Covered and Gaps of a nil index. -/
import Derived.Test.YtfomidjhmdmmcaaE10f8
namespace Go.Proofs.Ytfomidjhmdmmcaa
open Go.RowKit Go.Shelf Go.Proofs.Ytfomidjhmdmmcaa.Plain01
attribute [local go_sem] Oper.semAt_some
set_option linter.unusedVariables false
set_option linter.unusedSimpArgs false

set_option maxRecDepth 100000 in
set_option maxHeartbeats 4000000 in
theorem commonC_nil (H : Nat → Prop) (n : Nat) (hn : 1 ≤ n) (Bx Be : Nat) (e : Int × Int) (w : World) (hx : w.heap[Bx]? = some (boxX10 none)) (hbe : w.heap[Be]? = some (.cells #[.int .i64 e.1, .int .i64 e.2] 30 (0, 0))) :
    SeqStopsK Fence.wide n Try.prog 45 #[.pointer (some ⟨Bx, 0, none⟩), .pointer (some ⟨Be, 0, none⟩)] (fun p : OYd => #[.int .i64 p.1.1, extV p.1.2]) (KeepH H w.heap.size)
      (fun ys => ys = []) (fun _ => False) 0 w := fun l J Jx W hW hJ _ hY h0 => by
  have x0 : W.cell? ⟨Bx, 0, none⟩ = some (.pointer none) := cell_of (heap_below hx hW) 0
  have y0 : W.cell? ⟨Be, 0, none⟩ = some (.int .i64 e.1) := cell_of (heap_below hbe hW) 0
  have ha := after_nil e.1 W
  have HX := Lib.hid (heap_below hx hW)
  clear hx hbe hY
  refine callsIn_of_wp Try.func45 rfl trivial ?_ rfl
  simp only [Try.ntmps45, List.size_toArray, List.length_cons, List.length_nil, Nat.reduceAdd, Nat.reduceSub, Array.replicate_succ, Array.replicate_zero, List.push_toArray, List.append_toArray, List.nil_append, List.cons_append]
  gi_wp2_with (refine ⟨trivial, ?_⟩; gi_at_call 35; refine (callsIn_wide.2 ha).mono ?_; rintro e' w1 ⟨rfl, hb⟩)
  have hJ1 : J [] w1 := hJ _ _ _ none h0 (below_grown10 hb) (by intro r e; cases e)
  have x1 : w1.cell? ⟨Bx, 0, none⟩ = some (.pointer none) := cell_of (heap_below HX.out hb) 0
  have hl := xlen_nil w1
  clear x0 y0 ha hb h0
  gi_loopw [4] (fun i wr => i = .int .i64 0 ∧ wr = w1) (fun i _ => 0)
  case atStart => exact ⟨rfl, rfl⟩
  case round =>
    obtain ⟨rfl, rfl⟩ := hrel
    gi_wp2_with (refine ⟨trivial, ?_⟩; gi_at_call 12; refine (callsIn_wide.2 hl).mono ?_; rintro e' w2 ⟨rfl, rfl⟩)
    go_end0
    exact ⟨⟨_, rfl⟩, .inl ⟨[], rfl, hJ1⟩⟩

set_option maxRecDepth 100000 in
set_option maxHeartbeats 4000000 in
theorem meet10_nil (e : Int × Int) (w : World) :
    Calls Try.prog 19 #[.pointer none, extV e] w (MeetPost [] w) := by
  refine (callsIn_wide (n := 6)).1 ?_
  obtain ⟨W1, hW1⟩ : ∃ W1, (w.alloc (.cells #[.int .i64 e.1, .int .i64 e.2] 30)).alloc (.cells #[.slice none 0 0] 37) = W1 := ⟨_, rfl⟩
  have hb1 : Below w.heap.size w W1 := by rw [← hW1]; exact ((Below.refl _ w).alloc (Nat.le_refl _) _).alloc (by simp) _
  have hs1 : W1.heap.size = w.heap.size + 2 := by rw [← hW1]; simp
  have q0 : W1.cell? ⟨w.heap.size, 0, none⟩ = some (.int .i64 e.1) := by rw [← hW1]; exact cell_of (heap_old (heap_new w _ rfl) _) 0
  have q1 : W1.cell? ⟨w.heap.size, 1, none⟩ = some (.int .i64 e.2) := by rw [← hW1]; exact cell_of (heap_old (heap_new w _ rfl) _) 1
  have bN : Boxed W1 (w.heap.size + 1) 37 (.slice none 0 0) := by rw [← hW1]; exact heap_new _ _ (by simp)
  have hcm := xcommon_any none e W1
  obtain ⟨W2, hW2⟩ : ∃ W2, (W1.alloc (boxX10 none)).alloc (.cells #[.int .i64 e.1, .int .i64 e.2] 30) = W2 := ⟨_, rfl⟩
  have hb2 : Below W1.heap.size W1 W2 := by rw [← hW2]; exact ((Below.refl _ W1).alloc (Nat.le_refl _) _).alloc (by simp) _
  have hs2 : W2.heap.size = w.heap.size + 4 := by rw [← hW2]; simp [hs1]
  have hx : W2.heap[w.heap.size + 2]? = some (boxX10 none) := by rw [← hW2]; exact heap_old (heap_new W1 _ hs1.symm) _
  have hbe : W2.heap[w.heap.size + 3]? = some (.cells #[.int .i64 e.1, .int .i64 e.2] 30 (0, 0)) := by rw [← hW2]; exact heap_new _ _ (by simp [hs1])
  have hst := commonC_nil (fun k => k = w.heap.size + 1) 5 (by omega) (w.heap.size + 2) (w.heap.size + 3) e W2 hx hbe
  rw [hW2, hs1] at hcm
  have bN2 : Boxed W2 (w.heap.size + 1) 37 (.slice none 0 0) := heap_below bN hb2
  have hB2 : Below w.heap.size w W2 := hb1.trans (hb2.mono hb1.size)
  have HW1 := Lib.hid hW1
  clear hW1 hW2 hx hbe hb1 hb2 bN
  refine callsIn_of_wp_marks Try.func19 rfl trivial ?_ rfl
  simp only [Try.ntmps19, List.size_toArray, List.length_cons, List.length_nil, Nat.reduceAdd, Nat.reduceSub, Array.replicate_succ, Array.replicate_zero, List.push_toArray, List.append_toArray, List.nil_append, List.cons_append]
  gi_wp2_with fail
  rw [HW1.out]
  gi_wp2_with (refine ⟨trivial, ?_⟩; gi_at_call 38; refine (callsIn_wide.2 hcm).mono ?_; rintro e' w' ⟨rfl, rfl⟩)
  refine wpIn_rangeFunc_ownH (n := 6) rfl (by omega) (gf := 45) (lb := #[.pointer (some ⟨w.heap.size + 2, 0, none⟩), .pointer (some ⟨w.heap.size + 2 + 1, 0, none⟩)]) rfl trivial (enters_of Try.func45 (by kernel_rfl) rfl)
    hst (fun p q => KeepH.trans p q) keepH_put (Below.refl _ _) (fun _ => rfl)
    (fun _ W => Boxed W (w.heap.size + 1) 37 (.slice none 0 0) ∧ Below w.heap.size w W ∧ w.heap.size + 4 ≤ W.heap.size)
    (fun _ _ _ => False)
    (OwnFrom.and (Own.from (boxed_own (w.heap.size + 1) 37 (fun _ : List OYd => .slice none 0 0)) _) (OwnFrom.and (ownFrom_below (Nat.le_refl _) (by omega)) (size_ownFrom _ _)))
    (fun _ _ _ _ _ hs _ _ => hs)
    ⟨bN2, hB2, by omega⟩
    (fun x a' W => a' = { tmps := #[.pointer none, extV e, undef, .pointer (some ⟨w.heap.size, 0, none⟩), .slice none 0 0, .pointer (some ⟨w.heap.size + 1, 0, none⟩), .int .i64 x.1.1, .pointer none, .agg #[.int .i64 e.1, .int .i64 e.2], .func (.func 45) #[] #[.pointer (some ⟨w.heap.size + 2, 0, none⟩), .pointer (some ⟨w.heap.size + 2 + 1, 0, none⟩)], .int .i64 x.1.1, extV x.1.2, undef, undef, undef, undef, undef], defers := [] })
    (fun x a' _ X Y row hs hg hr => hs)
    ?assign ?body ?done ?stop
  case assign =>
    rintro l pre x W K hI hK
    gi_wp2
    exact hK _ _ (KeepsFrom.refl _ _) (KeepH.of_below (Below.refl _ _) (Nat.le_refl _)) hI rfl
  case body =>
    rintro l pre x a' W hl hr hI hs hlt
    exact absurd hlt (Nat.not_lt_zero _)
  case done =>
    rintro D ys W hD hys ⟨hv, hB, hS3⟩ hK
    have hc := hv.cell
    gi_wp2
    refine ⟨by simp, .inl ⟨_, _, rfl, run_takeDeferred hK, ?_⟩⟩
    exact ⟨_, results_tmp rfl _ _ _, .slice none 0 0, rfl, World.ownsRow_nil _ _ _ _, hB.trans (belowK_b (w := w) (Nat.le_refl _) W D _ _ (by omega) hK rfl rfl)⟩
  case stop =>
    rintro D c pre W _ _ h _
    exact h.elim

set_option maxRecDepth 100000 in
set_option maxHeartbeats 4000000 in
theorem covered10_nil (e : Int × Int) (w : World) :
    Calls Try.prog 21 #[.pointer none, extV e] w (Gives (.int .i64 0) w) := by
  refine (callsIn_wide (n := 6)).1 ?_
  obtain ⟨W1, hW1⟩ : ∃ W1, (w.alloc (.cells #[.int .i64 e.1, .int .i64 e.2] 30)).alloc (.cells #[.int .i64 0] 3) = W1 := ⟨_, rfl⟩
  have hb1 : Below w.heap.size w W1 := by rw [← hW1]; exact ((Below.refl _ w).alloc (Nat.le_refl _) _).alloc (by simp) _
  have hs1 : W1.heap.size = w.heap.size + 2 := by rw [← hW1]; simp
  have q0 : W1.cell? ⟨w.heap.size, 0, none⟩ = some (.int .i64 e.1) := by rw [← hW1]; exact cell_of (heap_old (heap_new w _ rfl) _) 0
  have q1 : W1.cell? ⟨w.heap.size, 1, none⟩ = some (.int .i64 e.2) := by rw [← hW1]; exact cell_of (heap_old (heap_new w _ rfl) _) 1
  have bN : Boxed W1 (w.heap.size + 1) 3 (.int .i64 0) := by rw [← hW1]; exact heap_new _ _ (by simp)
  have hcm := xcommon_any none e W1
  obtain ⟨W2, hW2⟩ : ∃ W2, (W1.alloc (boxX10 none)).alloc (.cells #[.int .i64 e.1, .int .i64 e.2] 30) = W2 := ⟨_, rfl⟩
  have hb2 : Below W1.heap.size W1 W2 := by rw [← hW2]; exact ((Below.refl _ W1).alloc (Nat.le_refl _) _).alloc (by simp) _
  have hs2 : W2.heap.size = w.heap.size + 4 := by rw [← hW2]; simp [hs1]
  have hx : W2.heap[w.heap.size + 2]? = some (boxX10 none) := by rw [← hW2]; exact heap_old (heap_new W1 _ hs1.symm) _
  have hbe : W2.heap[w.heap.size + 3]? = some (.cells #[.int .i64 e.1, .int .i64 e.2] 30 (0, 0)) := by rw [← hW2]; exact heap_new _ _ (by simp [hs1])
  have hst := commonC_nil (fun k => k = w.heap.size + 1) 5 (by omega) (w.heap.size + 2) (w.heap.size + 3) e W2 hx hbe
  rw [hW2, hs1] at hcm
  have bN2 : Boxed W2 (w.heap.size + 1) 3 (.int .i64 0) := heap_below bN hb2
  have hB2 : Below w.heap.size w W2 := hb1.trans (hb2.mono hb1.size)
  have HW1 := Lib.hid hW1
  clear hW1 hW2 hx hbe hb1 hb2 bN
  refine callsIn_of_wp_marks Try.func21 rfl trivial ?_ rfl
  simp only [Try.ntmps21, List.size_toArray, List.length_cons, List.length_nil, Nat.reduceAdd, Nat.reduceSub, Array.replicate_succ, Array.replicate_zero, List.push_toArray, List.append_toArray, List.nil_append, List.cons_append]
  gi_wp2_with fail
  rw [HW1.out]
  gi_wp2_with (refine ⟨trivial, ?_⟩; gi_at_call 38; refine (callsIn_wide.2 hcm).mono ?_; rintro e' w' ⟨rfl, rfl⟩)
  refine wpIn_rangeFunc_ownH (n := 6) rfl (by omega) (gf := 45) (lb := #[.pointer (some ⟨w.heap.size + 2, 0, none⟩), .pointer (some ⟨w.heap.size + 2 + 1, 0, none⟩)]) rfl trivial (enters_of Try.func45 (by kernel_rfl) rfl)
    hst (fun p q => KeepH.trans p q) keepH_put (Below.refl _ _) (fun _ => rfl)
    (fun _ W => Boxed W (w.heap.size + 1) 3 (.int .i64 0) ∧ Below w.heap.size w W ∧ w.heap.size + 4 ≤ W.heap.size)
    (fun _ _ _ => False)
    (OwnFrom.and (Own.from (boxed_own (w.heap.size + 1) 3 (fun _ : List OYd => .int .i64 0)) _) (OwnFrom.and (ownFrom_below (Nat.le_refl _) (by omega)) (size_ownFrom _ _)))
    (fun _ _ _ _ _ hs _ _ => hs)
    ⟨bN2, hB2, by omega⟩
    (fun x a' W => ∃ Bp, w.heap.size + 3 < Bp ∧ W.heap[Bp]? = some (.cells #[.int .i64 x.1.2.1, .int .i64 x.1.2.2] 30 (0, 0)) ∧ a' = { tmps := #[.pointer none, extV e, undef, .pointer (some ⟨w.heap.size, 0, none⟩), .int .i64 0, .pointer (some ⟨w.heap.size + 1, 0, none⟩), undef, .pointer (some ⟨Bp, 0, none⟩), .pointer none, .agg #[.int .i64 e.1, .int .i64 e.2], .func (.func 45) #[] #[.pointer (some ⟨w.heap.size + 2, 0, none⟩), .pointer (some ⟨w.heap.size + 2 + 1, 0, none⟩)], .int .i64 x.1.1, extV x.1.2, undef, undef, undef, undef, undef], defers := [] })
    (fun x a' _ X Y row hs hg hr => by obtain ⟨Bp, h1, h2, h3⟩ := hs; exact ⟨Bp, h1, cells_own Bp _ _ () X Y row h2 hg (fun r e => (hr r e).2), h3⟩)
    ?assign ?body ?done ?stop
  case assign =>
    rintro l pre x W K ⟨b2, hB, hS3⟩ hK
    gi_wp2
    exact hK _ _ ((KeepsOthers.alloc _ _).from _) (KeepH.of_below ((Below.refl _ W).alloc (by omega) _) (by omega)) ⟨b2.alloc _, hB.alloc hB.size _, by simp; omega⟩ ⟨W.heap.size, by omega, World.alloc_heap_new W _, rfl⟩
  case body =>
    rintro l pre x a' W hl hr hI hs hlt
    exact absurd hlt (Nat.not_lt_zero _)
  case done =>
    rintro D ys W hD hys ⟨b2, hB, hS3⟩ hK
    have hcR := b2.cell
    gi_wp2
    refine ⟨by simp, .inl ⟨_, _, rfl, run_takeDeferred hK, ?_⟩⟩
    exact ⟨_, results_tmp rfl _ _ _, rfl, hB.trans (belowK_b (w := w) (Nat.le_refl _) W D _ _ (by omega) hK rfl rfl)⟩
  case stop =>
    rintro D c pre W _ _ h _
    exact h.elim

set_option maxRecDepth 100000 in
set_option maxHeartbeats 4000000 in
theorem gaps10_nil (e : Int × Int) (w : World) : Calls Try.prog 23 #[.pointer none, extV e] w (GapsPost [] w) := by
  obtain ⟨W1, hW1⟩ : ∃ W1, ((w.alloc (.cells #[.int .i64 e.1, .int .i64 e.2] 30)).alloc (.cells #[.slice none 0 0] 22)).alloc (.cells #[.int .i64 e.1] 3) = W1 := ⟨_, rfl⟩
  go_enter Try.func23, Try.ntmps23
  go_wp2
  go_ret
  exact ⟨_, rfl, World.ownsRow_nil _ _ _ _, (Below.refl _ w).alloc (Nat.le_refl _) _⟩
end Go.Proofs.Ytfomidjhmdmmcaa
