/- Overlap of package extent and of its reference: the same extent at every two valid extents. -/
import Derived.Test.Ytfikjndkjjgcjaa01Plain2
import Derived.Test.Ytfikjndkjjgcjaa01Calls
namespace Go.Proofs.Ytfikjndkjjgcjaa
open Go.RowKit Go.Shelf Go.Proofs.Ytfikjndkjjgcjaa.Plain01

/-- Three new blocks. -/
theorem three_ext (w : World) (o0 o1 o2 : Obj) : (((w.alloc o0).alloc o1).alloc o2).heap[w.heap.size]? = some o0 ∧ (((w.alloc o0).alloc o1).alloc o2).heap[w.heap.size + 1]? = some o1 ∧ (((w.alloc o0).alloc o1).alloc o2).heap[w.heap.size + 1 + 1]? = some o2 ∧ Below w.heap.size w (((w.alloc o0).alloc o1).alloc o2) :=
  ⟨heap_old (heap_old (heap_new w o0 rfl) _) _, heap_old (heap_new _ o1 (by simp)) _, heap_new _ o2 (by simp), (((Below.refl _ w).alloc (Nat.le_refl _) _).alloc (by simp) _).alloc (by simp; omega) _⟩

/-- The blocks of a function of two extents: the two boxed arguments, the result. -/
abbrev args2 (w : World) (a b : Int × Int) : List (Nat × Obj) := [(w.heap.size, extO a), (w.heap.size + 1, extO b), (w.heap.size + 1 + 1, extO (0, 0))]

set_option maxRecDepth 100000 in
set_option maxHeartbeats 8000000 in
theorem overlap_no (a b : Int × Int) (ha : okE a = true) (hb : okE b = true) (c3 : min (a.1 + a.2) (b.1 + b.2) ≤ max a.1 b.1) (w : World) : Calls Try.prog 32 #[extV a, extV b] w (Gives (.tuple #[extV (ovl a b), .bool (ovlB a b)]) w) := by
  obtain ⟨a0, a1, a2⟩ := okE_iff.1 ha
  obtain ⟨b0, b1, b2⟩ := okE_iff.1 hb
  clear ha hb
  obtain ⟨h1, h2, h3, hb⟩ := three_ext w (extO a) (extO b) (extO (0, 0))
  by_cases c1 : a.1 < b.1 <;> by_cases c2 : b.1 + b.2 < a.1 + a.2
  all_goals
    go_enter Try.func32, Try.ntmps32
    go_wp2
    refine wp_region_class w (args2 w a b) (by kernel_rfl) (by kernel_rfl) hb (all3 h1 h2 h3) (fun hne => ?_)
    obtain ⟨d0, d1⟩ := held_ext w (bs := args2 w a b) w.heap.size a (by simp)
    obtain ⟨e0, e1⟩ := held_ext w (bs := args2 w a b) (w.heap.size + 1) b (by simp)
    clear h1 h2 h3 hb
    repeat (go_big_quiet_step ((go_at_call 39; exact HeldW.call (end_gives2 _ _ (by omega) (by omega) (by omega) _))))
    refine wpQuiet_nil ?_
    rintro w' ⟨s, rfl⟩
    obtain ⟨r0, r1, rf⟩ := held_ext1 s (w.heap.size + 1 + 1) (0, 0) (by simp)
    clear hne d0 d1 e0 e1
    go_wp2
    refine bodyPost_ret (v := .tuple #[.agg #[.int .i64 0, .int .i64 0], .bool false]) (by simp [results, Try.results32, go_sem, r0, r1]) rfl ⟨by rw [(ovl_no c3).1, (ovl_no c3).2], ?_⟩
    exact (s.below.setCell (p := ⟨w.heap.size + 1 + 1, 0, none⟩) (by simp; omega) _).setCell (p := ⟨w.heap.size + 1 + 1, 1, none⟩) (by simp; omega) _

set_option maxRecDepth 100000 in
set_option maxHeartbeats 8000000 in
theorem overlap_yes (a b : Int × Int) (ha : okE a = true) (hb : okE b = true) (c3 : max a.1 b.1 < min (a.1 + a.2) (b.1 + b.2)) (w : World) : Calls Try.prog 32 #[extV a, extV b] w (Gives (.tuple #[extV (ovl a b), .bool (ovlB a b)]) w) := by
  obtain ⟨a0, a1, a2⟩ := okE_iff.1 ha
  obtain ⟨b0, b1, b2⟩ := okE_iff.1 hb
  clear ha hb
  obtain ⟨h1, h2, h3, hb⟩ := three_ext w (extO a) (extO b) (extO (0, 0))
  by_cases c1 : a.1 < b.1 <;> by_cases c2 : b.1 + b.2 < a.1 + a.2
  all_goals
    go_enter Try.func32, Try.ntmps32
    go_wp2
    refine wp_region_class w (args2 w a b) (by kernel_rfl) (by kernel_rfl) hb (all3 h1 h2 h3) (fun hne => ?_)
    obtain ⟨d0, d1⟩ := held_ext w (bs := args2 w a b) w.heap.size a (by simp)
    obtain ⟨e0, e1⟩ := held_ext w (bs := args2 w a b) (w.heap.size + 1) b (by simp)
    clear h1 h2 h3 hb
    repeat (go_big_quiet_step ((go_at_call 39; exact HeldW.call (end_gives2 _ _ (by omega) (by omega) (by omega) _))))
    refine wpQuiet_nil ?_
    rintro w' ⟨s, rfl⟩
    obtain ⟨r0, r1, rf⟩ := held_ext1 s (w.heap.size + 1 + 1) (0, 0) (by simp)
    clear hne d0 d1 e0 e1
    go_wp2_with ((go_at_call 40; refine (between_gives _ _ (by omega) (by omega) (by omega) _).mono ?_; rintro e w2 ⟨rfl, hb2⟩; have hbw := s.below.trans (hb2.mono s.below.size); obtain ⟨r0, r1, rf⟩ := ext_cells (heap_below (s.blocks (w.heap.size + 1 + 1, extO (0, 0)) (by simp)) hb2)))
    first
      | (have hv := ovl_yes (a := a) (b := b) (lo := b.1) (hi := b.1 + b.2) (by omega) (by omega) (by omega))
      | (have hv := ovl_yes (a := a) (b := b) (lo := b.1) (hi := a.1 + a.2) (by omega) (by omega) (by omega))
      | (have hv := ovl_yes (a := a) (b := b) (lo := a.1) (hi := b.1 + b.2) (by omega) (by omega) (by omega))
      | (have hv := ovl_yes (a := a) (b := b) (lo := a.1) (hi := a.1 + a.2) (by omega) (by omega) (by omega))
    obtain ⟨hv1, hv2⟩ := hv
    rw [hv1, hv2]
    clear hv1 hv2
    refine bodyPost_ret (v := .tuple #[.agg #[.int .i64 _, .int .i64 _], .bool true]) (by simp [results, Try.results32, go_sem, r0, r1]) rfl ⟨rfl, ?_⟩
    exact (hbw.setCell (p := ⟨w.heap.size + 1 + 1, 0, none⟩) (by simp; omega) _).setCell (p := ⟨w.heap.size + 1 + 1, 1, none⟩) (by simp; omega) _

theorem overlap_gives (a b : Int × Int) (ha : okE a = true) (hb : okE b = true) (w : World) : Calls Try.prog 32 #[extV a, extV b] w (Gives (.tuple #[extV (ovl a b), .bool (ovlB a b)]) w) := by
  by_cases h : min (a.1 + a.2) (b.1 + b.2) ≤ max a.1 b.1
  · exact overlap_no a b ha hb h w
  · exact overlap_yes a b ha hb (by omega) w

set_option maxRecDepth 100000 in
set_option maxHeartbeats 4000000 in
theorem roverlap_gives (a b : Int × Int) (ha : okE a = true) (hb : okE b = true) (w : World) : Calls Try.prog 33 #[extV a, extV b] w (Gives (extV (ovl a b)) w) := by
  obtain ⟨a0, a1, a2⟩ := okE_iff.1 ha
  obtain ⟨b0, b1, b2⟩ := okE_iff.1 hb
  clear ha hb
  by_cases c3 : min (a.1 + a.2) (b.1 + b.2) ≤ max a.1 b.1 <;> by_cases c1 : a.1 < b.1 <;> by_cases c2 : b.1 + b.2 < a.1 + a.2
  all_goals
    go_enter Try.func33, Try.ntmps33
    go_wp2
    first
      | (have hv := (ovl_no c3).1)
      | (have hv := (ovl_yes (a := a) (b := b) (lo := b.1) (hi := b.1 + b.2) (by omega) (by omega) (by omega)).1)
      | (have hv := (ovl_yes (a := a) (b := b) (lo := b.1) (hi := a.1 + a.2) (by omega) (by omega) (by omega)).1)
      | (have hv := (ovl_yes (a := a) (b := b) (lo := a.1) (hi := b.1 + b.2) (by omega) (by omega) (by omega)).1)
      | (have hv := (ovl_yes (a := a) (b := b) (lo := a.1) (hi := a.1 + a.2) (by omega) (by omega) (by omega)).1)
    rw [hv]
    clear hv
    refine bodyPost_ret (v := .agg #[.int .i64 _, .int .i64 _]) (by simp [results, Try.results33, go_sem]) rfl ⟨rfl, ?_⟩
    exact (((Below.refl _ w).alloc (Nat.le_refl _) _).alloc (by simp) _).alloc (by simp; omega) _
end Go.Proofs.Ytfikjndkjjgcjaa
