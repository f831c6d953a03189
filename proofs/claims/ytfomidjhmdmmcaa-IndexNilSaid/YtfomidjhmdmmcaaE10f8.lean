import Derived.Test.YtfomidjhmdmmcaaE10f7
/- Covered of package index. -/
namespace Go.Proofs.Ytfomidjhmdmmcaa
open Go.RowKit Go.Shelf Go.Proofs.Ytfomidjhmdmmcaa.Plain01
attribute [local go_sem] Oper.semAt_some
set_option linter.unusedVariables false
set_option linter.unusedSimpArgs false

theorem xcommon_any (p : Option Addr) (e : Int × Int) (w : World) : Calls Try.prog 38 #[.pointer p, extV e] w fun e' w' => e' = .returned (.func (.func 45) #[] #[.pointer (some ⟨w.heap.size, 0, none⟩), .pointer (some ⟨w.heap.size + 1, 0, none⟩)]) ∧ w' = (w.alloc (boxX10 p)).alloc (.cells #[.int .i64 e.1, .int .i64 e.2] 30) := by
  go_enter Try.func38, Try.ntmps38
  go_wp2
  go_ret
  exact ⟨rfl, rfl⟩

def sumP10 (pre : List OYd) : Int := (pre.map fun p => p.1.2.2).sum
theorem sumP10_snoc (pre : List OYd) (x : OYd) : sumP10 (pre ++ [x]) = sumP10 pre + x.1.2.2 := by unfold sumP10; simp
theorem sumP10_ylds {es : List (Int × Int)} {e : Int × Int} {ys : List OYd} (h : ys.map (·.1) = ylds es e) : sumP10 ys = cov10 es e := by
  rw [← cov_meet]
  unfold sumP10
  have h2 : (ys.map fun p => p.1.2.2) = (ys.map (·.1)).map fun q => q.2.2 := by rw [List.map_map]; rfl
  rw [h2, h]
  unfold ylds
  rw [List.map_map]
  rfl
/-- The sum of what has been yielded is no more than the length of e. -/
theorem sumP10_le {es : List (Int × Int)} (hR : Right10 es) {e : Int × Int} (he : okE e = true) {pre : List OYd} (h : pre.map (·.1) <+: ylds es e) : 0 ≤ sumP10 pre ∧ sumP10 pre ≤ e.2 := by
  have hpos : ∀ l : List OYd, 0 ≤ sumP10 l := fun l => by
    induction l with
    | nil => exact Int.le_refl _
    | cons a l ih => unfold sumP10 at *; rw [List.map_cons, List.sum_cons]; have := a.2.2; omega
  refine ⟨hpos pre, ?_⟩
  have hs := gapF_sum _ _ _ (meet_between hR he)
  have hg : 0 ≤ ((gapF e.1 ((meet10 es e).map (part10 es e)) (e.1 + e.2)).map (·.2)).sum := by
    have h1 := gapF_in _ _ _ (meet_between hR he)
    generalize gapF e.1 ((meet10 es e).map (part10 es e)) (e.1 + e.2) = G at h1
    induction G with
    | nil => exact Int.le_refl _
    | cons a G ih =>
      rw [List.map_cons, List.sum_cons]
      have := (h1 a List.mem_cons_self).1
      have := ih (fun y hy => h1 y (List.mem_cons_of_mem _ hy))
      omega
  obtain ⟨r, hr⟩ := h
  have h2 : sumP10 pre + (r.map fun q => q.2.2).sum = (((meet10 es e).map (part10 es e)).map (·.2)).sum := by
    have h3 : (((meet10 es e).map (part10 es e)).map (·.2)) = (ylds es e).map fun q => q.2.2 := by unfold ylds; rw [List.map_map, List.map_map]; rfl
    rw [h3, ← hr, List.map_append, List.sum_append, List.map_map]
    rfl
  have h4 : 0 ≤ (r.map fun q => q.2.2).sum := by
    have hall : ∀ q ∈ r, 0 ≤ q.2.2 := fun q hq => by
      have hm : q ∈ ylds es e := by rw [← hr]; exact List.mem_append_right _ hq
      unfold ylds at hm
      obtain ⟨i, hi, rfl⟩ := List.mem_map.1 hm
      unfold meet10 at hi
      exact Int.le_of_lt ((ovl_len _ _).1 (List.mem_filter.1 hi).2)
    clear hr h2
    induction r with
    | nil => exact Int.le_refl _
    | cons a r ih => rw [List.map_cons, List.sum_cons]; have := hall a List.mem_cons_self; have := ih (fun q hq => hall q (List.mem_cons_of_mem _ hq)); omega
  omega

set_option maxRecDepth 100000 in
set_option maxHeartbeats 4000000 in
theorem covered10_any (B cap g : Nat) (a : Option Addr) (es : List (Int × Int)) (hR : Right10 es) (e : Int × Int) (he : okE e = true) (w : World) (h : Idx10 w B a cap g es) :
    Calls Try.prog 21 #[.pointer (some ⟨B, 0, none⟩), extV e] w (Gives (.int .i64 (cov10 es e)) w) := by
  have e0 := okE_iff.1 he
  refine (callsIn_wide (n := 6)).1 ?_
  obtain ⟨W1, hW1⟩ : ∃ W1, (w.alloc (.cells #[.int .i64 e.1, .int .i64 e.2] 30)).alloc (.cells #[.int .i64 0] 3) = W1 := ⟨_, rfl⟩
  have hb1 : Below w.heap.size w W1 := by rw [← hW1]; exact ((Below.refl _ w).alloc (Nat.le_refl _) _).alloc (by simp) _
  have hs1 : W1.heap.size = w.heap.size + 2 := by rw [← hW1]; simp
  have q0 : W1.cell? ⟨w.heap.size, 0, none⟩ = some (.int .i64 e.1) := by rw [← hW1]; exact cell_of (heap_old (heap_new w _ rfl) _) 0
  have q1 : W1.cell? ⟨w.heap.size, 1, none⟩ = some (.int .i64 e.2) := by rw [← hW1]; exact cell_of (heap_old (heap_new w _ rfl) _) 1
  have bN : Boxed W1 (w.heap.size + 1) 3 (.int .i64 0) := by rw [← hW1]; exact heap_new _ _ (by simp)
  have hcm := xcommon_any (some ⟨B, 0, none⟩) e W1
  obtain ⟨W2, hW2⟩ : ∃ W2, (W1.alloc (boxX10 (some ⟨B, 0, none⟩))).alloc (.cells #[.int .i64 e.1, .int .i64 e.2] 30) = W2 := ⟨_, rfl⟩
  have hb2 : Below W1.heap.size W1 W2 := by rw [← hW2]; exact ((Below.refl _ W1).alloc (Nat.le_refl _) _).alloc (by simp) _
  have hs2 : W2.heap.size = w.heap.size + 4 := by rw [← hW2]; simp [hs1]
  have hCt : Caught10 W2 (w.heap.size + 2) (w.heap.size + 3) B cap g a es e := by
    refine ⟨?_, ?_, (h.below hb1).below hb2⟩
    · rw [← hW2]; exact heap_old (heap_new W1 _ hs1.symm) _
    · rw [← hW2]; exact heap_new _ _ (by simp [hs1])
  have hBl : B < w.heap.size := (Array.getElem?_eq_some_iff.1 h.box).1
  have hgl : g < w.heap.size := (Array.getElem?_eq_some_iff.1 h.pos).1
  have hst := commonC_stops (fun k => k = w.heap.size + 1) 5 (by omega) (w.heap.size + 2) (w.heap.size + 3) B cap g a es hR e he W2 hCt
    ⟨by omega, by omega, by omega, by omega, fun hp ad had => by
      obtain ⟨b, o, hab, hr⟩ := h.row hp
      rw [had] at hab; cases hab
      have := hr.lt hp
      simp only
      omega⟩
  rw [hW2, hs1] at hcm
  have bN2 : Boxed W2 (w.heap.size + 1) 3 (.int .i64 0) := heap_below bN hb2
  have hB2 : Below w.heap.size w W2 := hb1.trans (hb2.mono hb1.size)
  have HLE := Lib.hid (fun (pre : List OYd) (h : pre.map (·.1) <+: ylds es e) => sumP10_le hR he h)
  have HE := Lib.hid he
  have HW1 := Lib.hid hW1
  clear hW1 hW2 hCt h hBl hgl hb1 hb2 bN hR
  refine callsIn_of_wp_marks Try.func21 rfl trivial ?_ rfl
  simp only [Try.ntmps21, List.size_toArray, List.length_cons, List.length_nil, Nat.reduceAdd, Nat.reduceSub, Array.replicate_succ, Array.replicate_zero, List.push_toArray, List.append_toArray, List.nil_append, List.cons_append]
  gi_wp2_with fail
  rw [HW1.out]
  gi_wp2_with (refine ⟨trivial, ?_⟩; gi_at_call 38; refine (callsIn_wide.2 hcm).mono ?_; rintro e' w' ⟨rfl, rfl⟩)
  refine wpIn_rangeFunc_ownH (n := 6) rfl (by omega) (gf := 45) (lb := #[.pointer (some ⟨w.heap.size + 2, 0, none⟩), .pointer (some ⟨w.heap.size + 2 + 1, 0, none⟩)]) rfl trivial (enters_of Try.func45 (by kernel_rfl) rfl)
    hst (fun p q => KeepH.trans p q) keepH_put (Below.refl _ _) (fun _ => rfl)
    (fun pre W => (∃ s, Boxed W (w.heap.size + 1) 3 (.int .i64 s) ∧ (pre.map (·.1) <+: ylds es e → s = sumP10 pre)) ∧ Below w.heap.size w W ∧ w.heap.size + 4 ≤ W.heap.size)
    (fun _ _ _ => False)
    (OwnFrom.and (Own.from (fun s A B row hs hg hr => by obtain ⟨v, h1, h2⟩ := hs; exact ⟨v, boxed_own _ _ (fun _ => .int .i64 v) s A B row h1 hg hr, h2⟩) _) (OwnFrom.and (ownFrom_below (Nat.le_refl _) (by omega)) (size_ownFrom _ _)))
    (fun _ _ _ _ _ hs _ _ => hs)
    ⟨⟨0, bN2, fun _ => rfl⟩, hB2, by omega⟩
    (fun x a' W => ∃ Bp, w.heap.size + 3 < Bp ∧ W.heap[Bp]? = some (.cells #[.int .i64 x.1.2.1, .int .i64 x.1.2.2] 30 (0, 0)) ∧ a' = { tmps := #[.pointer (some ⟨B, 0, none⟩), extV e, undef, .pointer (some ⟨w.heap.size, 0, none⟩), .int .i64 0, .pointer (some ⟨w.heap.size + 1, 0, none⟩), undef, .pointer (some ⟨Bp, 0, none⟩), .pointer (some ⟨B, 0, none⟩), .agg #[.int .i64 e.1, .int .i64 e.2], .func (.func 45) #[] #[.pointer (some ⟨w.heap.size + 2, 0, none⟩), .pointer (some ⟨w.heap.size + 2 + 1, 0, none⟩)], .int .i64 x.1.1, extV x.1.2, undef, undef, undef, undef, undef], defers := [] })
    (fun x a' _ X Y row hs hg hr => by obtain ⟨Bp, h1, h2, h3⟩ := hs; exact ⟨Bp, h1, cells_own Bp _ _ () X Y row h2 hg (fun r e => (hr r e).2), h3⟩)
    ?assign ?body ?done ?stop
  case assign =>
    rintro l pre x W K ⟨⟨s, b2, h1⟩, hB, hS3⟩ hK
    gi_wp2
    exact hK _ _ ((KeepsOthers.alloc _ _).from _) (KeepH.of_below ((Below.refl _ W).alloc (by omega) _) (by omega)) ⟨⟨s, b2.alloc _, h1⟩, hB.alloc hB.size _, by simp; omega⟩ ⟨W.heap.size, by omega, World.alloc_heap_new W _, rfl⟩
  case body =>
    rintro l pre x a' W hl ⟨r, hr⟩ ⟨⟨s, b2, h1⟩, hB, hS3⟩ ⟨Bp, hBp, bX, rfl⟩ hlt
    have hc := b2.cell
    have hf := b2.frozen
    have x1 : W.cell? ⟨Bp, 1, none⟩ = some (.int .i64 x.1.2.2) := by simp [World.cell?, bX]
    gi_wp2
    refine ⟨((KeepsOthers.setCell _ _ _).from _), ⟨rfl, rfl, rfl, by simp, fun k hk hn => heap_setCell_other _ _ _ _ (show k ≠ w.heap.size + 1 from hn)⟩, ⟨_, b2.set _, fun hp => ?_⟩, hB.setCell (p := ⟨w.heap.size + 1, 0, none⟩) (by simp) _, by simp; omega⟩
    have hpre : pre.map (·.1) <+: ylds es e := by
      refine List.IsPrefix.trans ?_ hp
      rw [List.map_append]
      exact List.prefix_append _ _
    have h2 := h1 hpre
    obtain ⟨h3, h4⟩ := HLE.out _ hp
    rw [sumP10_snoc] at h3 h4 ⊢
    rw [h2]
    have e0 := okE_iff.1 HE.out
    unfold wrap64
    omega
  case done =>
    rintro D ys W hD hys ⟨⟨s, b2, h1⟩, hB, hS3⟩ hK
    have hcR := b2.cell
    have HH := Lib.hid (h1 (by rw [hys]; exact List.prefix_rfl))
    have HY := Lib.hid (sumP10_ylds hys)
    clear h1 hys
    gi_wp2
    refine ⟨by simp, .inl ⟨_, _, rfl, run_takeDeferred hK, ?_⟩⟩
    refine ⟨_, results_tmp rfl _ _ _, ?_, hB.trans (belowK_b (w := w) (Nat.le_refl _) W D _ _ (by omega) hK rfl rfl)⟩
    rw [HH.out, HY.out]
    rfl
  case stop =>
    rintro D c pre W _ _ h _
    exact h.elim
end Go.Proofs.Ytfomidjhmdmmcaa

/- Meet of package index. -/
namespace Go.Proofs.Ytfomidjhmdmmcaa
open Go.RowKit Go.Shelf Go.Proofs.Ytfomidjhmdmmcaa.Plain01
attribute [local go_sem] Oper.semAt_some
set_option linter.unusedVariables false
set_option linter.unusedSimpArgs false

def intC (l : List Nat) : List Value := l.map fun i : Nat => Value.int .i64 i
theorem slice_own10 {W : World} {base : Nat} {e : TypeId} {size : Nat} {v : Value} {n : Nat} {xs : List Value} (h : W.ownsRow base e size v n xs) : ∃ (a : Option Addr) (cap : Nat), v = .slice a n cap := by
  rcases h.2 with ⟨rfl, rfl⟩ | ⟨g, cap, cur, rfl, _⟩
  · exact ⟨none, 0, rfl⟩
  · exact ⟨_, cap, rfl⟩
theorem own_mono10 {W : World} {base base' : Nat} {e : TypeId} {size : Nat} {v : Value} {n : Nat} {xs : List Value} (h : W.ownsRow base e size v n xs) (hb : base' ≤ base) : W.ownsRow base' e size v n xs :=
  ⟨h.1, h.2.imp id fun ⟨g, cap, cur, h1, h2, h3⟩ => ⟨g, cap, cur, h1, Nat.le_trans hb h2, h3⟩⟩
theorem keepH_append {H : Nat → Prop} {b0 Bx : Nat} {W w2 : World} {tmp : Obj} {e : TypeId} {size k : Nat} {v : Value} {xs : List Value} (hrow : W.ownsRow b0 e size v k xs) (hg : (W.alloc tmp).grownBy w2 v.ownBlock) (hb : b0 ≤ W.heap.size) (hBx : H Bx) (u : Value) : KeepH H b0 W (w2.setCell ⟨Bx, 0, none⟩ u) := by
  refine ⟨hg.os, hg.tape, hg.output, ?_, fun q hq hn => ?_⟩
  · have h1 := hg.size
    have h2 : (w2.setCell ⟨Bx, 0, none⟩ u).heap.size = w2.heap.size := by simp
    have h3 : (W.alloc tmp).heap.size = W.heap.size + 1 := by simp
    omega
  · rw [heap_setCell_other _ _ _ _ (show q ≠ Bx from fun h => hn (by rw [h]; exact hBx))]
    rw [hg.block q (by simp; omega) (fun h => by have := (hrow.lt q h.symm).1; omega)]
    exact Below.heap_alloc _ _ _ (by omega)
theorem int_parts10 : ∃ i, Try.prog.info? 3 = some i ∧ i.zero = some (.int .i64 0) ∧ i.size = 1 ∧ i.bytes = 8 := by
  have h : (Try.prog.info? 3).map (fun i => (i.zero, i.size, i.bytes)) = some (some (.int .i64 0), 1, 8) := by kernel_rfl
  obtain ⟨i, hi, he⟩ := Option.map_eq_some_iff.1 h
  simp only [Prod.mk.injEq] at he
  exact ⟨i, hi, he.1, he.2.1, he.2.2⟩
def MeetPost (ps : List Nat) (w : World) (e : Ending) (w' : World) : Prop := ∃ v, e = .returned v ∧ w'.ownsRow w.heap.size 3 1 v ps.length (intC ps) ∧ Below w.heap.size w w'

set_option maxRecDepth 100000 in
set_option maxHeartbeats 4000000 in
theorem meet10_any (B cap g : Nat) (a : Option Addr) (es : List (Int × Int)) (hR : Right10 es) (e : Int × Int) (he : okE e = true) (w : World) (h : Idx10 w B a cap g es) :
    Calls Try.prog 19 #[.pointer (some ⟨B, 0, none⟩), extV e] w (MeetPost (meet10 es e) w) := by
  refine (callsIn_wide (n := 6)).1 ?_
  obtain ⟨i0, hi0, hz0, hz1, hz2⟩ := int_parts10
  obtain ⟨W1, hW1⟩ : ∃ W1, (w.alloc (.cells #[.int .i64 e.1, .int .i64 e.2] 30)).alloc (.cells #[.slice none 0 0] 37) = W1 := ⟨_, rfl⟩
  have hb1 : Below w.heap.size w W1 := by rw [← hW1]; exact ((Below.refl _ w).alloc (Nat.le_refl _) _).alloc (by simp) _
  have hs1 : W1.heap.size = w.heap.size + 2 := by rw [← hW1]; simp
  have q0 : W1.cell? ⟨w.heap.size, 0, none⟩ = some (.int .i64 e.1) := by rw [← hW1]; exact cell_of (heap_old (heap_new w _ rfl) _) 0
  have q1 : W1.cell? ⟨w.heap.size, 1, none⟩ = some (.int .i64 e.2) := by rw [← hW1]; exact cell_of (heap_old (heap_new w _ rfl) _) 1
  have bN : Boxed W1 (w.heap.size + 1) 37 (.slice none 0 0) := by rw [← hW1]; exact heap_new _ _ (by simp)
  have hcm := xcommon_any (some ⟨B, 0, none⟩) e W1
  obtain ⟨W2, hW2⟩ : ∃ W2, (W1.alloc (boxX10 (some ⟨B, 0, none⟩))).alloc (.cells #[.int .i64 e.1, .int .i64 e.2] 30) = W2 := ⟨_, rfl⟩
  have hb2 : Below W1.heap.size W1 W2 := by rw [← hW2]; exact ((Below.refl _ W1).alloc (Nat.le_refl _) _).alloc (by simp) _
  have hs2 : W2.heap.size = w.heap.size + 4 := by rw [← hW2]; simp [hs1]
  have hCt : Caught10 W2 (w.heap.size + 2) (w.heap.size + 3) B cap g a es e := by
    refine ⟨?_, ?_, (h.below hb1).below hb2⟩
    · rw [← hW2]; exact heap_old (heap_new W1 _ hs1.symm) _
    · rw [← hW2]; exact heap_new _ _ (by simp [hs1])
  have hBl : B < w.heap.size := (Array.getElem?_eq_some_iff.1 h.box).1
  have hgl : g < w.heap.size := (Array.getElem?_eq_some_iff.1 h.pos).1
  have hst := commonC_stops (fun k => k = w.heap.size + 1) 5 (by omega) (w.heap.size + 2) (w.heap.size + 3) B cap g a es hR e he W2 hCt
    ⟨by omega, by omega, by omega, by omega, fun hp ad had => by
      obtain ⟨b, o, hab, hr⟩ := h.row hp
      rw [had] at hab; cases hab
      have := hr.lt hp
      simp only
      omega⟩
  rw [hW2, hs1] at hcm
  have bN2 : Boxed W2 (w.heap.size + 1) 37 (.slice none 0 0) := heap_below bN hb2
  have hB2 : Below w.heap.size w W2 := hb1.trans (hb2.mono hb1.size)
  have hfew := h.few
  have HW1 := Lib.hid hW1
  clear hW1 hW2 hCt h hBl hgl hb1 hb2 bN hR
  refine callsIn_of_wp_marks Try.func19 rfl trivial ?_ rfl
  simp only [Try.ntmps19, List.size_toArray, List.length_cons, List.length_nil, Nat.reduceAdd, Nat.reduceSub, Array.replicate_succ, Array.replicate_zero, List.push_toArray, List.append_toArray, List.nil_append, List.cons_append]
  gi_wp2_with fail
  rw [HW1.out]
  gi_wp2_with (refine ⟨trivial, ?_⟩; gi_at_call 38; refine (callsIn_wide.2 hcm).mono ?_; rintro e' w' ⟨rfl, rfl⟩)
  refine wpIn_rangeFunc_ownH (n := 6) rfl (by omega) (gf := 45) (lb := #[.pointer (some ⟨w.heap.size + 2, 0, none⟩), .pointer (some ⟨w.heap.size + 2 + 1, 0, none⟩)]) rfl trivial (enters_of Try.func45 (by kernel_rfl) rfl)
    hst (fun p q => KeepH.trans p q) keepH_put (Below.refl _ _) (fun _ => rfl)
    (fun pre W => (∃ v, Boxed W (w.heap.size + 1) 37 v ∧ W.ownsRow (w.heap.size + 4) 3 1 v pre.length (intC (pre.map fun p => p.1.1)) ∧ True) ∧ Below w.heap.size w W ∧ w.heap.size + 4 ≤ W.heap.size)
    (fun _ _ _ => False)
    (OwnFrom.and (Own.from (holdsRow_own (w.heap.size + 4) (w.heap.size + 1) 37 3 1 (fun pre : List OYd => pre.length) (fun pre => intC (pre.map fun p => p.1.1)) (fun _ _ => True)) _) (OwnFrom.and (ownFrom_below (Nat.le_refl _) (by omega)) (size_ownFrom _ _)))
    (fun _ _ _ _ _ hs _ _ => hs)
    ⟨⟨_, bN2, World.ownsRow_nil _ _ _ _, trivial⟩, hB2, by omega⟩
    (fun x a' W => a' = { tmps := #[.pointer (some ⟨B, 0, none⟩), extV e, undef, .pointer (some ⟨w.heap.size, 0, none⟩), .slice none 0 0, .pointer (some ⟨w.heap.size + 1, 0, none⟩), .int .i64 x.1.1, .pointer (some ⟨B, 0, none⟩), .agg #[.int .i64 e.1, .int .i64 e.2], .func (.func 45) #[] #[.pointer (some ⟨w.heap.size + 2, 0, none⟩), .pointer (some ⟨w.heap.size + 2 + 1, 0, none⟩)], .int .i64 x.1.1, extV x.1.2, undef, undef, undef, undef, undef], defers := [] })
    (fun x a' _ X Y row hs hg hr => hs)
    ?assign ?body ?done ?stop
  case assign =>
    rintro l pre x W K hI hK
    gi_wp2
    exact hK _ _ (KeepsFrom.refl _ _) (KeepH.of_below (Below.refl _ _) (Nat.le_refl _)) hI rfl
  case body =>
    rintro l pre x a' W hl ⟨r, hr⟩ ⟨⟨v, hv, hrow, _⟩, hB, hS3⟩ rfl hlt
    have hc := hv.cell
    have hnew : ∀ j u, [Value.int .i64 x.1.1][j]? = some u → (W.alloc (.cells #[.int .i64 x.1.1] 3)).cell? ((⟨W.heap.size, 0, none⟩ : Addr).add j) = some u := fun j u hu => by
      rw [Addr.add_mid, Nat.zero_add, cell_of (heap_new W _ rfl)]
      simpa using hu
    gi_wp2_with (gi_at_builtin; go_must (refine wpListIn_append_own _ rfl _ _ 37 rfl (w.heap.size + 4) 3 i0 (.int .i64 0) 1 8 Try.underlying37 hi0 hz0 hz1 hz2 rfl (by omega) v pre.length (intC (pre.map fun p => p.1.1)) rfl (hrow.alloc _) ⟨W.heap.size, 0, none⟩ 1 1 [.int .i64 x.1.1] rfl rfl hnew (by simp [Value.oneCell']) (by unfold maxLen; omega) (by omega) (by simp; omega) ?_; intro v2 w2 hown2 hgrow2 _; obtain ⟨a2, cap2, hv2e⟩ := slice_own10 hown2; obtain ⟨hv1, hv2, hr2, hk2, hb2⟩ := hv.appended (by decide) (own_mono10 hrow (show w.heap.size ≤ w.heap.size + 4 by omega)) hB.size (by omega) (own_mono10 hown2 (show w.heap.size ≤ w.heap.size + 4 by omega)) hgrow2; have hkh := keepH_append (H := fun k => k = w.heap.size + 1) hrow hgrow2 hS3 rfl v2; have hr3 := hown2.kept (grownBy_setCell' w2 (w.heap.size + 1) v2) (.inr (hv1.not_row (by decide) hown2).symm); subst hv2e; have hc1 := hv1.cell; have hf1 := hv1.frozen))
    exact ⟨hk2.from _, by rw [hs2]; exact hkh, ⟨_, hv2, by simpa [intC] using hr3, trivial⟩, hB.trans hb2, by have := hb2.size; omega⟩
  case done =>
    rintro D ys W hD hys ⟨⟨v, hv, hrow, _⟩, hB, hS3⟩ hK
    have hc := hv.cell
    gi_wp2
    refine ⟨by simp, .inl ⟨_, _, rfl, run_takeDeferred hK, ?_⟩⟩
    refine ⟨_, results_tmp rfl _ _ _, v, rfl, ?_, hB.trans (belowK_b (w := w) (Nat.le_refl _) W D _ _ (by omega) hK rfl rfl)⟩
    have h2 := own_mono10 (ownsRow_putObj hrow (.deferred none) hK rfl) (show w.heap.size ≤ w.heap.size + 4 by omega)
    have h3 : (ys.map fun p => p.1.1) = meet10 es e := by
      have : (ys.map fun p => p.1.1) = (ys.map (·.1)).map (·.1) := by rw [List.map_map]; rfl
      rw [this, hys]
      unfold ylds
      rw [List.map_map]
      exact List.map_id _
    rw [h3, show ys.length = (meet10 es e).length by rw [← h3, List.length_map]] at h2
    exact h2
  case stop =>
    rintro D c pre W _ _ h _
    exact h.elim
end Go.Proofs.Ytfomidjhmdmmcaa

/- Gaps of package index. -/
namespace Go.Proofs.Ytfomidjhmdmmcaa
open Go.RowKit Go.Shelf Go.Proofs.Ytfomidjhmdmmcaa.Plain01
attribute [local go_sem] Oper.semAt_some
set_option linter.unusedVariables false
set_option linter.unusedSimpArgs false

/-- One gap, if it has bytes. -/
def gapOne (p q : Int) : List (Int × Int) := if p < q then [(p, q - p)] else []
def gapA (at_ : Int) : List (Int × Int) → List (Int × Int) × Int
  | [] => ([], at_)
  | p :: ps => (gapOne at_ p.1 ++ (gapA (p.1 + p.2) ps).1, (gapA (p.1 + p.2) ps).2)
theorem gapA_snoc (p : Int × Int) : ∀ (ps : List (Int × Int)) (at_ : Int), gapA at_ (ps ++ [p]) = ((gapA at_ ps).1 ++ gapOne (gapA at_ ps).2 p.1, p.1 + p.2) := by
  intro ps
  induction ps with
  | nil => intro a; simp [gapA]
  | cons q ps ih => intro a; simp [gapA, ih]
theorem gapA_full (stop : Int) : ∀ (ps : List (Int × Int)) (at_ : Int), gapF at_ ps stop = (gapA at_ ps).1 ++ gapOne (gapA at_ ps).2 stop := by
  intro ps
  induction ps with
  | nil => intro a; by_cases h : a < stop <;> simp [gapA, gapF, gapOne, h]
  | cons q ps ih => intro a; simp only [gapA, gapF, ih]; by_cases h : a < q.1 <;> simp [gapOne, h]
theorem gapOne_length (p q : Int) : (gapOne p q).length ≤ 1 := by unfold gapOne; split <;> simp
theorem gapA_length : ∀ (ps : List (Int × Int)) (at_ : Int), (gapA at_ ps).1.length ≤ ps.length := by
  intro ps
  induction ps with
  | nil => intro a; simp [gapA]
  | cons q ps ih => intro a; have := ih (q.1 + q.2); have := gapOne_length a q.1; simp [gapA]; omega
theorem gapA_at {ps : List (Int × Int)} {at_ : Int} (ha : 0 ≤ at_ ∧ at_ ≤ 4611686018427387903) (h : ∀ p ∈ ps, okE p = true) : 0 ≤ (gapA at_ ps).2 ∧ (gapA at_ ps).2 ≤ 4611686018427387903 := by
  induction ps generalizing at_ with
  | nil => exact ha
  | cons q ps ih =>
    have h1 := okE_iff.1 (h q List.mem_cons_self)
    exact ih (by omega) (fun p hp => h p (List.mem_cons_of_mem _ hp))
def AppendPost (base : Nat) (v : Value) (l : List (Int × Int)) (w : World) (e : Ending) (w' : World) : Prop := ∃ v', e = .returned v' ∧ w'.ownsRow base 30 2 v' l.length (flat10 l) ∧ ∃ tmp, (w.alloc tmp).grownBy w' v.ownBlock ∨ v' = v ∧ w' = w

set_option maxRecDepth 100000 in
set_option maxHeartbeats 4000000 in
theorem appendGap_any (base : Nat) (v : Value) (l : List (Int × Int)) (p q : Int) (w : World) (h : w.ownsRow base 30 2 v l.length (flat10 l)) (hb : base ≤ w.heap.size) (hl : l.length ≤ 1000000) (hp : 0 ≤ p ∧ p ≤ 4611686018427387903) (hq : 0 ≤ q ∧ q ≤ 4611686018427387903) :
    Calls Try.prog 39 #[v, .int .i64 p, .int .i64 q] w (AppendPost base v (l ++ gapOne p q) w) := by
  obtain ⟨E, hE⟩ := elem10
  by_cases hpq : p < q
  · have hpost : Hid (∀ v' w', w'.ownsRow base 30 2 v' (l.length + 1) (flat10 l ++ [.int .i64 p, .int .i64 (q - p)]) → (w.alloc (.cells #[.int .i64 p, .int .i64 (q - p)] 30)).grownBy w' v.ownBlock → AppendPost base v (l ++ gapOne p q) w (.returned v') w') := Lib.hid fun v' w' h1 h2 => by
      refine ⟨v', rfl, ?_, _, .inl h2⟩
      have e1 : gapOne p q = [(p, q - p)] := by unfold gapOne; rw [if_pos hpq]
      rw [e1, flat10_append, List.length_append]
      simpa [flat10, cells10] using h1
    generalize AppendPost base v (l ++ gapOne p q) w = POST at hpost ⊢
    have hnew : ∀ j u, [Value.int .i64 p, Value.int .i64 (q - p)][j]? = some u → (w.alloc (.cells #[.int .i64 p, .int .i64 (q - p)] 30)).cell? ((⟨w.heap.size, 0, none⟩ : Addr).add j) = some u := fun j u hu => by
      rw [Addr.add_mid, Nat.zero_add, cell_of (heap_new w _ rfl)]
      simpa using hu
    have hle : ¬ q ≤ p := by omega
    go_enter Try.func39, Try.ntmps39
    go_wp2_with (refine wpList_append_own _ rfl (.tmp 11) (.tmp 17) 22 rfl base 30 E.i E.z 2 E.bytes E.ht E.hi E.hz E.hsize E.hby E.hzs (by omega) v l.length (flat10 l) rfl (h.alloc _) ⟨w.heap.size, 0, none⟩ 1 1 [.int .i64 p, .int .i64 (q - p)] rfl rfl hnew (by simp [Value.oneCell']) (by unfold maxLen; omega) (by rw [hE]; omega) (by simp; omega) ?_; intro v2 w2 hown2 hgrow2 _; have HR := Lib.hid (hpost.out v2 w2 hown2 hgrow2); obtain ⟨a2, cap2, hv2e⟩ := slice_own10 hown2; subst hv2e)
    first | exact HR.out | (go_ret; exact HR.out)
  · have hpost : Hid (AppendPost base v (l ++ gapOne p q) w (.returned v) w) := Lib.hid (by
      have e1 : gapOne p q = [] := by unfold gapOne; rw [if_neg hpq]
      rw [e1, List.append_nil]
      exact ⟨v, rfl, h, .cells #[] 30, .inr ⟨rfl, rfl⟩⟩)
    obtain ⟨a1, cap1, hv1⟩ := slice_own10 h
    subst hv1
    generalize AppendPost base _ (l ++ gapOne p q) w = POST at hpost ⊢
    have hle : q ≤ p := by omega
    clear h hE
    generalize l.length = n at *
    go_enter Try.func39, Try.ntmps39
    go_wp2
    first | exact hpost.out | (go_ret; exact hpost.out)

theorem keepH_append2 {H : Nat → Prop} {b0 Bx : Nat} {W w2 : World} {e : TypeId} {size k : Nat} {v v' : Value} {xs : List Value} (hrow : W.ownsRow b0 e size v k xs) (hg : ∃ tmp, (W.alloc tmp).grownBy w2 v.ownBlock ∨ v' = v ∧ w2 = W) (hb : b0 ≤ W.heap.size) (hBx : H Bx) (u : Value) : KeepH H b0 W (w2.setCell ⟨Bx, 0, none⟩ u) := by
  obtain ⟨tmp, hg | ⟨_, rfl⟩⟩ := hg
  · exact keepH_append hrow hg hb hBx u
  · exact ⟨rfl, rfl, rfl, by simp, fun q hq hn => heap_setCell_other _ _ _ _ (show q ≠ Bx from fun h => hn (by rw [h]; exact hBx))⟩
/-- What an append of a gap keeps. -/
theorem append_keeps {b0 w0 : Nat} {W w2 : World} {e : TypeId} {size k : Nat} {v v' : Value} {xs : List Value} (hrow : W.ownsRow b0 e size v k xs) (hg : ∃ tmp, (W.alloc tmp).grownBy w2 v.ownBlock ∨ v' = v ∧ w2 = W) (hb : b0 ≤ W.heap.size) (hw : w0 ≤ b0) :
    (∀ {B : Nat} {t : TypeId} {u : Value}, t ≠ e → Boxed W B t u → Boxed w2 B t u) ∧ KeepsOthers W w2 ∧ Below w0 W w2 ∧ (∀ q, q < b0 → w2.heap[q]? = W.heap[q]?) := by
  obtain ⟨tmp, hg | ⟨_, rfl⟩⟩ := hg
  · have hne : ∀ q, q < b0 → some q ≠ v.ownBlock := fun q hq h => by have := (hrow.lt q h.symm).1; omega
    refine ⟨fun hte hB => (hB.alloc tmp).kept hg (hB.not_row hte hrow), (KeepsOthers.alloc W tmp).trans (KeepsOthers.of_grownBy hg fun j o ej hj => ?_), ((Below.refl w0 W).alloc (by omega) tmp).grown hg (by simp; omega) (fun j hj => by have := (hrow.lt j hj).1; omega), fun q hq => (hg.block q (by simp; omega) (hne q hq)).trans (Below.heap_alloc _ _ _ (by omega))⟩
    rcases (hrow.alloc tmp).2 with ⟨rfl, _⟩ | ⟨g, cap, cur, rfl, _, hgb, _⟩
    · simp [Value.ownBlock] at ej
    · obtain rfl : g = j := by simpa [Value.ownBlock] using ej
      rw [hgb] at hj
      cases hj
      rfl
  · exact ⟨fun _ hB => hB, KeepsOthers.refl _, Below.refl _ _, fun _ _ => rfl⟩
def GapsPost (l : List (Int × Int)) (w : World) (e : Ending) (w' : World) : Prop := ∃ v, e = .returned v ∧ w'.ownsRow w.heap.size 30 2 v l.length (flat10 l) ∧ Below w.heap.size w w'
abbrev ptsOf (pre : List OYd) : List (Int × Int) := pre.map fun p => p.1.2
theorem ptsOf_ok (pre : List OYd) : ∀ p ∈ ptsOf pre, okE p = true := fun p hp => by
  obtain ⟨y, _, rfl⟩ := List.mem_map.1 hp
  exact y.2.1

set_option maxRecDepth 100000 in
set_option maxHeartbeats 4000000 in
theorem gaps10_any (B cap g : Nat) (a : Option Addr) (es : List (Int × Int)) (hR : Right10 es) (e : Int × Int) (he : okE e = true) (w : World) (h : Idx10 w B a cap g es) :
    Calls Try.prog 23 #[.pointer (some ⟨B, 0, none⟩), extV e] w (GapsPost (gaps10 es e) w) := by
  have e0 := okE_iff.1 he
  refine (callsIn_wide (n := 6)).1 ?_
  obtain ⟨W1, hW1⟩ : ∃ W1, ((w.alloc (.cells #[.int .i64 e.1, .int .i64 e.2] 30)).alloc (.cells #[.slice none 0 0] 22)).alloc (.cells #[.int .i64 e.1] 3) = W1 := ⟨_, rfl⟩
  have hb1 : Below w.heap.size w W1 := by rw [← hW1]; exact (((Below.refl _ w).alloc (Nat.le_refl _) _).alloc (by simp) _).alloc (by simp; omega) _
  have hs1 : W1.heap.size = w.heap.size + 3 := by rw [← hW1]; simp
  have q0 : W1.cell? ⟨w.heap.size, 0, none⟩ = some (.int .i64 e.1) := by rw [← hW1]; exact cell_of (heap_old (heap_old (heap_new w _ rfl) _) _) 0
  have q1 : W1.cell? ⟨w.heap.size, 1, none⟩ = some (.int .i64 e.2) := by rw [← hW1]; exact cell_of (heap_old (heap_old (heap_new w _ rfl) _) _) 1
  have bE : W1.heap[w.heap.size]? = some (.cells #[.int .i64 e.1, .int .i64 e.2] 30 (0, 0)) := by rw [← hW1]; exact heap_old (heap_old (heap_new w _ rfl) _) _
  have bN : Boxed W1 (w.heap.size + 1) 22 (.slice none 0 0) := by rw [← hW1]; exact heap_old (heap_new _ _ (by simp)) _
  have bM : Boxed W1 (w.heap.size + 2) 3 (.int .i64 e.1) := by rw [← hW1]; exact heap_new _ _ (by simp)
  have hcm := xcommon_any (some ⟨B, 0, none⟩) e W1
  obtain ⟨W2, hW2⟩ : ∃ W2, (W1.alloc (boxX10 (some ⟨B, 0, none⟩))).alloc (.cells #[.int .i64 e.1, .int .i64 e.2] 30) = W2 := ⟨_, rfl⟩
  have hb2 : Below W1.heap.size W1 W2 := by rw [← hW2]; exact ((Below.refl _ W1).alloc (Nat.le_refl _) _).alloc (by simp) _
  have hs2 : W2.heap.size = w.heap.size + 5 := by rw [← hW2]; simp [hs1]
  have hCt : Caught10 W2 (w.heap.size + 3) (w.heap.size + 4) B cap g a es e := by
    refine ⟨?_, ?_, (h.below hb1).below hb2⟩
    · rw [← hW2]; exact heap_old (heap_new W1 _ hs1.symm) _
    · rw [← hW2]; exact heap_new _ _ (by simp [hs1])
  have hBl : B < w.heap.size := (Array.getElem?_eq_some_iff.1 h.box).1
  have hgl : g < w.heap.size := (Array.getElem?_eq_some_iff.1 h.pos).1
  have hst := commonC_stops (fun k => k = w.heap.size + 1 ∨ k = w.heap.size + 2) 5 (by omega) (w.heap.size + 3) (w.heap.size + 4) B cap g a es hR e he W2 hCt
    ⟨by omega, by omega, by omega, by omega, fun hp ad had => by
      obtain ⟨b, o, hab, hr⟩ := h.row hp
      rw [had] at hab; cases hab
      have := hr.lt hp
      simp only
      omega⟩
  rw [hW2, hs1] at hcm
  have bE2 : W2.heap[w.heap.size]? = some (.cells #[.int .i64 e.1, .int .i64 e.2] 30 (0, 0)) := heap_below bE hb2
  have bN2 : Boxed W2 (w.heap.size + 1) 22 (.slice none 0 0) := heap_below bN hb2
  have bM2 : Boxed W2 (w.heap.size + 2) 3 (.int .i64 e.1) := heap_below bM hb2
  have hB2 : Below w.heap.size w W2 := hb1.trans (hb2.mono hb1.size)
  have hfew := h.few
  have HE := Lib.hid he
  have HW1 := Lib.hid hW1
  clear hW1 hW2 hCt h hBl hgl hb1 hb2 bN bM bE hR
  refine callsIn_of_wp_marks Try.func23 rfl trivial ?_ rfl
  simp only [Try.ntmps23, List.size_toArray, List.length_cons, List.length_nil, Nat.reduceAdd, Nat.reduceSub, Array.replicate_succ, Array.replicate_zero, List.push_toArray, List.append_toArray, List.nil_append, List.cons_append]
  gi_wp2_with fail
  rw [HW1.out]
  gi_wp2_with (refine ⟨trivial, ?_⟩; gi_at_call 38; refine (callsIn_wide.2 hcm).mono ?_; rintro e' w' ⟨rfl, rfl⟩)
  refine wpIn_rangeFunc_ownH (n := 6) rfl (by omega) (gf := 45) (lb := #[.pointer (some ⟨w.heap.size + 3, 0, none⟩), .pointer (some ⟨w.heap.size + 3 + 1, 0, none⟩)]) rfl trivial (enters_of Try.func45 (by kernel_rfl) rfl)
    hst (fun p q => KeepH.trans p q) keepH_put (Below.refl _ _) (fun _ => rfl)
    (fun pre W => (∃ v, Boxed W (w.heap.size + 1) 22 v ∧ W.ownsRow (w.heap.size + 5) 30 2 v (gapA e.1 (ptsOf pre)).1.length (flat10 (gapA e.1 (ptsOf pre)).1) ∧ True) ∧ Boxed W (w.heap.size + 2) 3 (.int .i64 (gapA e.1 (ptsOf pre)).2) ∧ W.heap[w.heap.size]? = some (.cells #[.int .i64 e.1, .int .i64 e.2] 30 (0, 0)) ∧ Below w.heap.size w W ∧ w.heap.size + 5 ≤ W.heap.size)
    (fun _ _ _ => False)
    (OwnFrom.and (Own.from (holdsRow_own (w.heap.size + 5) (w.heap.size + 1) 22 30 2 (fun pre : List OYd => (gapA e.1 (ptsOf pre)).1.length) (fun pre => flat10 (gapA e.1 (ptsOf pre)).1) (fun _ _ => True)) _) (OwnFrom.and (Own.from (boxed_own _ _ (fun pre : List OYd => .int .i64 (gapA e.1 (ptsOf pre)).2)) _) (OwnFrom.and (Own.from (cells_own _ _ _) _) (OwnFrom.and (ownFrom_below (Nat.le_refl _) (by omega)) (size_ownFrom _ _)))))
    (fun _ _ _ _ _ hs _ _ => hs)
    ⟨⟨_, bN2, World.ownsRow_nil _ _ _ _, trivial⟩, bM2, bE2, hB2, by omega⟩
    (fun x a' W => ∃ Bp v, w.heap.size + 4 < Bp ∧ W.heap[Bp]? = some (.cells #[.int .i64 x.1.2.1, .int .i64 x.1.2.2] 30 (0, 0)) ∧ Boxed W (w.heap.size + 1) 22 v ∧ v.ownBlock ≠ some Bp ∧ a' = { tmps := #[.pointer (some ⟨B, 0, none⟩), extV e, undef, .pointer (some ⟨w.heap.size, 0, none⟩), .slice none 0 0, .pointer (some ⟨w.heap.size + 1, 0, none⟩), .pointer (some ⟨w.heap.size + 2, 0, none⟩), undef, .pointer (some ⟨Bp, 0, none⟩), .pointer (some ⟨B, 0, none⟩), .bool false, .pointer (some ⟨w.heap.size, 0, none⟩), .int .i64 e.1, .pointer (some ⟨B, 0, none⟩), .agg #[.int .i64 e.1, .int .i64 e.2], .func (.func 45) #[] #[.pointer (some ⟨w.heap.size + 3, 0, none⟩), .pointer (some ⟨w.heap.size + 3 + 1, 0, none⟩)], .int .i64 x.1.1, extV x.1.2, undef, undef, undef, undef, undef, undef, undef, undef, undef, undef, undef, undef], defers := [] })
    (fun x a' _ X Y row hs hg hr => by obtain ⟨Bp, v, h1, h2, h4, h5, h3⟩ := hs; exact ⟨Bp, v, h1, cells_own Bp _ _ () X Y row h2 hg (fun r e => (hr r e).2), boxed_own _ _ (fun _ => v) () X Y row h4 hg (fun r e => (hr r e).2), h5, h3⟩)
    ?assign ?body ?done ?stop
  case assign =>
    rintro l pre x W K ⟨⟨v, hv, hrow, _⟩, hm, hE0, hB, hS3⟩ hK
    gi_wp2
    exact hK _ _ ((KeepsOthers.alloc _ _).from _) (KeepH.of_below ((Below.refl _ W).alloc (by omega) _) (by omega)) ⟨⟨v, hv.alloc _, hrow.alloc _, trivial⟩, hm.alloc _, heap_old hE0 _, hB.alloc hB.size _, by simp; omega⟩ ⟨W.heap.size, v, by omega, World.alloc_heap_new W _, hv.alloc _, fun h => by have := (hrow.lt _ h).2; omega, rfl⟩
  case body =>
    rintro l pre x a' W hl ⟨r, hr⟩ ⟨⟨v, hv, hrow, _⟩, hm, hE0, hB, hS3⟩ ⟨Bp, v', hBp, bX, hvb, hvn, rfl⟩ hlt
    obtain rfl : v' = v := by
      have h1 : (Obj.cells #[v'] 22 (0, 0)) = .cells #[v] 22 (0, 0) := Option.some.inj (hvb.symm.trans hv)
      simpa using h1
    have hc := hv.cell
    have hcm := hm.cell
    have x0 : W.cell? ⟨Bp, 0, none⟩ = some (.int .i64 x.1.2.1) := cell_of bX 0
    have hgl := gapA_length (ptsOf pre) e.1
    have hgl2 : (ptsOf pre).length = pre.length := by simp
    have e0 := okE_iff.1 HE.out
    have hat := gapA_at (at_ := e.1) ⟨by omega, by omega⟩ (ptsOf_ok pre)
    have hok := x.2.1
    have ex := okE_iff.1 hok
    have hap := appendGap_any (w.heap.size + 5) v' (gapA e.1 (ptsOf pre)).1 (gapA e.1 (ptsOf pre)).2 x.1.2.1 W hrow hS3 (by omega) hat ⟨by omega, by omega⟩
    have hsn : gapA e.1 (ptsOf (pre ++ [x])) = ((gapA e.1 (ptsOf pre)).1 ++ gapOne (gapA e.1 (ptsOf pre)).2 x.1.2.1, x.1.2.1 + x.1.2.2) := by
      have : ptsOf (pre ++ [x]) = ptsOf pre ++ [x.1.2] := by simp [ptsOf]
      rw [this, gapA_snoc]
    have HSN := Lib.hid hsn
    have hE := fun W => end_gives x.1.2 hok W
    clear hsn hgl hgl2 hat ex hvb
    generalize (gapA e.1 (ptsOf pre)).1 ++ gapOne (gapA e.1 (ptsOf pre)).2 x.1.2.1 = ROW at *
    gi_wp2_with (first | (refine ⟨trivial, ?_⟩; gi_at_call 39; refine (CallsIn.inRound l (callsIn_wide.2 hap)).mono ?_; rintro e2 w2 ⟨v2, rfl, hown2, hg2⟩; obtain ⟨kb, ko, kB, kq⟩ := append_keeps (w0 := w.heap.size) hrow hg2 hS3 (by omega); have hv1 : Boxed w2 (w.heap.size + 1) 22 v' := kb (by decide) hv; have hm1 : Boxed w2 (w.heap.size + 2) 3 (.int .i64 (gapA e.1 (ptsOf pre)).2) := kb (by decide) hm; obtain ⟨a2, cap2, hv2e⟩ := slice_own10 hown2; have hc1 := hv1.cell; have hf1 := hv1.frozen; have bX2 : w2.heap[Bp]? = some (.cells #[.int .i64 x.1.2.1, .int .i64 x.1.2.2] 30 (0, 0)) := (by obtain ⟨tmp, hg | ⟨_, rfl⟩⟩ := hg2; exact (hg.block Bp (by have := (Array.getElem?_eq_some_iff.1 bX).1; simp; omega) (fun h => hvn h.symm)).trans (heap_old bX tmp); exact bX); have hkh := keepH_append2 (H := fun k => k = w.heap.size + 1 ∨ k = w.heap.size + 2) (Bx := w.heap.size + 1) hrow hg2 hS3 (.inl rfl) v2; have hr3 := hown2.kept (grownBy_setCell' w2 (w.heap.size + 1) v2) (.inr (hv1.not_row (by decide) hown2).symm); subst hv2e; have bX3 : (w2.setCell ⟨w.heap.size + 1, 0, none⟩ (.slice a2 ROW.length cap2)).heap[Bp]? = some (.cells #[.int .i64 x.1.2.1, .int .i64 x.1.2.2] 30 (0, 0)) := (heap_setCell_other _ _ _ _ (show Bp ≠ w.heap.size + 1 by omega)).trans bX2; have y0 := cell_of bX3 0; have y1 := cell_of bX3 1; simp at y0 y1) | (refine ⟨trivial, ?_⟩; gi_at_call 31; refine (CallsIn.inRound l (callsIn_wide.2 (hE _))).mono ?_; rintro e3 w4 ⟨rfl, hb4⟩; have hm4 : Boxed w4 (w.heap.size + 2) 3 (.int .i64 (gapA e.1 (ptsOf pre)).2) := heap_below (hm1.other (by omega) _) hb4; have hc4 := hm4.cell; have hf4 := hm4.frozen))
    have hv4 : Boxed w4 (w.heap.size + 1) 22 (.slice a2 ROW.length cap2) := heap_below (hv1.set (.slice a2 ROW.length cap2)) hb4
    have hr4 := own_later hr3 hb4
    have hr5 := hr4.kept (grownBy_setCell' w4 (w.heap.size + 2) (.int .i64 (x.1.2.1 + x.1.2.2))) (.inr (hm4.not_row (by decide) hr4).symm)
    have hE2 : w2.heap[w.heap.size]? = some (.cells #[.int .i64 e.1, .int .i64 e.2] 30 (0, 0)) := (kq _ (by omega)).trans hE0
    have hE3 := (heap_setCell_other w2 ⟨w.heap.size + 1, 0, none⟩ w.heap.size (.slice a2 ROW.length cap2) (show w.heap.size ≠ w.heap.size + 1 by omega)).trans hE2
    have hE4 := heap_below hE3 hb4
    have hE5 := (heap_setCell_other w4 ⟨w.heap.size + 2, 0, none⟩ w.heap.size (.int .i64 (x.1.2.1 + x.1.2.2)) (show w.heap.size ≠ w.heap.size + 2 by omega)).trans hE4
    have hB2 : Below w.heap.size w w2 := hB.trans kB
    have hB3 : Below w.heap.size w (w2.setCell ⟨w.heap.size + 1, 0, none⟩ (.slice a2 ROW.length cap2)) := hB2.setCell (p := ⟨w.heap.size + 1, 0, none⟩) (by simp) _
    have hB4 := hB3.trans (hb4.mono hB3.size)
    refine ⟨((ko.trans (KeepsOthers.setCell _ _ _)).from _).trans ((KeepsFrom.of_grownBy (below_grown10 hb4) (by intro j e; cases e)).trans ((KeepsOthers.setCell _ _ _).from _)), ?_, ⟨⟨_, hv4.other (by omega) _, by rw [HSN.out]; exact hr5, trivial⟩, by rw [HSN.out]; exact hm4.set _, hE5, hB4.setCell (p := ⟨w.heap.size + 2, 0, none⟩) (by simp) _, ?_⟩⟩
    · rw [hs2]
      exact (hkh.later hS3 hb4).trans ⟨rfl, rfl, rfl, by simp, fun k hk hn => heap_setCell_other _ _ _ _ (show k ≠ w.heap.size + 2 from fun h => hn (.inr h))⟩
    · have h1 := hb4.size
      have h2 := kB.size
      simp at h1 ⊢
      omega
  case done =>
    rintro D ys W hD hys ⟨⟨v, hv, hrow, _⟩, hm, hE0, hB, hS3⟩ hK
    have hc := hv.cell
    have hcm := hm.cell
    have hgl := gapA_length (ptsOf ys) e.1
    have hgl2 : (ptsOf ys).length ≤ es.length := by
      have h1 := congrArg List.length hys
      have h2 := ylds_length es e
      simp only [List.length_map] at h1
      simp
      omega
    have e0 := okE_iff.1 HE.out
    have hat := gapA_at (at_ := e.1) ⟨by omega, by omega⟩ (ptsOf_ok ys)
    have hfin : (gapA e.1 (ptsOf ys)).1 ++ gapOne (gapA e.1 (ptsOf ys)).2 (e.1 + e.2) = gaps10 es e := by
      rw [← gapA_full]
      unfold gaps10
      have : ptsOf ys = (meet10 es e).map (part10 es e) := by
        have h1 : ptsOf ys = (ys.map (·.1)).map (·.2) := by unfold ptsOf; rw [List.map_map]; rfl
        rw [h1, hys]
        unfold ylds
        rw [List.map_map]
        rfl
      rw [this]
    have hap := fun (X : World) (hX : Below W.heap.size W X) => appendGap_any (w.heap.size + 5) v (gapA e.1 (ptsOf ys)).1 (gapA e.1 (ptsOf ys)).2 (e.1 + e.2) X (own_later hrow hX) (Nat.le_trans hS3 hX.size) (by omega) hat ⟨by omega, by omega⟩
    rw [hfin] at hap
    have hen := fun X => end_gives e HE.out X
    clear hgl hgl2 hat hfin hys
    have hbl : ∀ p ∈ [(w.heap.size + 1, (Obj.cells #[v] 22 (0, 0))), (w.heap.size + 2, .cells #[.int .i64 (gapA e.1 (ptsOf ys)).2] 3 (0, 0)), (w.heap.size, .cells #[.int .i64 e.1, .int .i64 e.2] 30 (0, 0))], W.heap[p.1]? = some p.2 := all3 hv hm hE0
    have d0 : ∀ s : HeldW W [(w.heap.size + 1, (Obj.cells #[v] 22 (0, 0))), (w.heap.size + 2, .cells #[.int .i64 (gapA e.1 (ptsOf ys)).2] 3 (0, 0)), (w.heap.size, .cells #[.int .i64 e.1, .int .i64 e.2] 30 (0, 0))], s.w.cell? ⟨w.heap.size + 1, 0, none⟩ = some v := fun s => cell_of (s.blocks (w.heap.size + 1, (Obj.cells #[v] 22 (0, 0))) (by simp)) 0
    have d1 : ∀ s : HeldW W [(w.heap.size + 1, (Obj.cells #[v] 22 (0, 0))), (w.heap.size + 2, .cells #[.int .i64 (gapA e.1 (ptsOf ys)).2] 3 (0, 0)), (w.heap.size, .cells #[.int .i64 e.1, .int .i64 e.2] 30 (0, 0))], s.w.cell? ⟨w.heap.size + 2, 0, none⟩ = some (.int .i64 (gapA e.1 (ptsOf ys)).2) := fun s => cell_of (s.blocks (w.heap.size + 2, .cells #[.int .i64 (gapA e.1 (ptsOf ys)).2] 3 (0, 0)) (by simp)) 0
    have d2 : ∀ s : HeldW W [(w.heap.size + 1, (Obj.cells #[v] 22 (0, 0))), (w.heap.size + 2, .cells #[.int .i64 (gapA e.1 (ptsOf ys)).2] 3 (0, 0)), (w.heap.size, .cells #[.int .i64 e.1, .int .i64 e.2] 30 (0, 0))], s.w.cell? ⟨w.heap.size, 0, none⟩ = some (.int .i64 e.1) := fun s => cell_of (s.blocks (w.heap.size, .cells #[.int .i64 e.1, .int .i64 e.2] 30 (0, 0)) (by simp)) 0
    have d3 : ∀ s : HeldW W [(w.heap.size + 1, (Obj.cells #[v] 22 (0, 0))), (w.heap.size + 2, .cells #[.int .i64 (gapA e.1 (ptsOf ys)).2] 3 (0, 0)), (w.heap.size, .cells #[.int .i64 e.1, .int .i64 e.2] 30 (0, 0))], s.w.cell? ⟨w.heap.size, 1, none⟩ = some (.int .i64 e.2) := fun s => cell_of (s.blocks (w.heap.size, .cells #[.int .i64 e.1, .int .i64 e.2] 30 (0, 0)) (by simp)) 1
    generalize (gapA e.1 (ptsOf ys)).2 = AT at *
    clear hc hcm
    gi_wp2
    refine wpIn_wide.2 ?_
    refine wp_region_class_tail 4 W _ (by kernel_rfl) (by kernel_rfl) (Below.refl _ _) hbl (fun hne => ?_)
    simp only [List.take_succ_cons, List.take_zero, List.drop_succ_cons, List.drop_zero]
    repeat (go_big_quiet_step ((go_at_call 31; exact HeldW.call (hen _))))
    refine wpQuiet_nil ?_
    rintro _ ⟨s6, rfl⟩
    clear hne d0 d1 d2 d3
    have hrow6 := own_later hrow s6.below
    go_wp2_with fail
    refine (hap _ s6.below).mono ?_
    rintro e2 w2 ⟨v2, rfl, hown2, hg2⟩
    obtain ⟨kb, ko, kB, kq⟩ := append_keeps (w0 := w.heap.size) hrow6 hg2 (Nat.le_trans hS3 s6.below.size) (by omega)
    have hK6 : s6.w.heap[D]? = some (.deferred (some [])) := heap_below hK s6.below
    have hK2 := ko.same D _ hK6 rfl
    have hBw2 : Below w.heap.size w w2 := (hB.trans (s6.below.mono hB.size)).trans kB
    have HO := Lib.hid (own_mono10 (ownsRow_putObj hown2 (.deferred none) hK2 rfl) (show w.heap.size ≤ w.heap.size + 5 by omega))
    obtain ⟨a2, cap2, hv2e⟩ := slice_own10 hown2
    have HBB := Lib.hid (hBw2.trans (belowK_b (w := w) (Nat.le_refl _) w2 D _ (.deferred none) (by omega) hK2 rfl rfl))
    clear hown2 hg2 kb ko kB kq hK6 hBw2 hrow6 hap
    subst hv2e
    go_wp2
    gi_wp2
    refine ⟨by simp, .inl ⟨_, _, rfl, run_takeDeferred hK2, ?_⟩⟩
    exact ⟨_, results_tmp rfl _ _ _, .slice a2 (gaps10 es e).length cap2, rfl, HO.out, HBB.out⟩
  case stop =>
    rintro D c pre W _ _ h _
    exact h.elim
end Go.Proofs.Ytfomidjhmdmmcaa
