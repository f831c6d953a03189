/- Join of package extent, at every two valid extents. -/
import Derived.Test.Ytbhpipkaojlgfaa01Meets
import Derived.Test.Ytbhpipkaojlgfaa00Tail
namespace Go.Proofs.Ytbhpipkaojlgfaa
open Go.RowKit Go.Shelf Go.Proofs.Ytbhpipkaojlgfaa.Plain01

set_option maxRecDepth 100000 in
set_option maxHeartbeats 8000000 in
theorem join_no (a b : Int × Int) (ha : okE a = true) (hb : okE b = true) (h : b.1 + b.2 < a.1 ∨ a.1 + a.2 < b.1) (w : World) : Calls Try.prog 16 #[extV a, extV b] w (Gives (.tuple #[extV (0, 0), .bool false]) w) := by
  obtain ⟨a0, a1, a2⟩ := okE_iff.1 ha
  obtain ⟨b0, b1, b2⟩ := okE_iff.1 hb
  clear ha hb
  obtain ⟨h1, h2, h3, hb⟩ := three_blocks w (extO a) (extO b) (extO (0, 0))
  by_cases c1 : b.1 + b.2 < a.1
  · have hd : decide (b.1 + b.2 < a.1) = true := by simp; omega
    clear h
    go_enter Try.func16, Try.ntmps16
    go_wp2
    refine wp_region_class w (args2 w a b) (by kernel_rfl) (by kernel_rfl) hb (all3 h1 h2 h3) (fun hne => ?_)
    obtain ⟨d0, d1⟩ := held_ext w (bs := args2 w a b) w.heap.size a (by simp)
    obtain ⟨e0, e1⟩ := held_ext w (bs := args2 w a b) (w.heap.size + 1) b (by simp)
    clear h1 h2 h3 hb
    repeat (go_big_quiet_step ((go_at_call 12; exact HeldW.call (end_gives2 _ _ (by omega) (by omega) (by omega) _))))
    refine wpQuiet_nil ?_
    rintro w' ⟨s, rfl⟩
    obtain ⟨r0, r1, rf⟩ := held_ext1 s (w.heap.size + 1 + 1) (0, 0) (by simp)
    clear hne d0 d1 e0 e1
    go_wp2
    refine bodyPost_ret (v := .tuple #[.agg #[.int .i64 0, .int .i64 0], .bool false]) (by simp [results, Try.results16, go_sem, r0, r1]) rfl ⟨rfl, ?_⟩
    exact (s.below.setCell (p := ⟨w.heap.size + 1 + 1, 0, none⟩) (by simp; omega) _).setCell (p := ⟨w.heap.size + 1 + 1, 1, none⟩) (by simp; omega) _
  · have hd : decide (b.1 + b.2 < a.1) = false := by simp; omega
    have hd2 : decide (a.1 + a.2 < b.1) = true := by simp; omega
    have c2 : a.1 + a.2 < b.1 := by omega
    clear h
    go_enter Try.func16, Try.ntmps16
    go_wp2
    refine wp_region_class w (args2 w a b) (by kernel_rfl) (by kernel_rfl) hb (all3 h1 h2 h3) (fun hne => ?_)
    obtain ⟨d0, d1⟩ := held_ext w (bs := args2 w a b) w.heap.size a (by simp)
    obtain ⟨e0, e1⟩ := held_ext w (bs := args2 w a b) (w.heap.size + 1) b (by simp)
    clear h1 h2 h3 hb
    repeat (go_big_quiet_step ((go_at_call 12; exact HeldW.call (end_gives2 _ _ (by omega) (by omega) (by omega) _))))
    refine wpQuiet_nil ?_
    rintro w' ⟨s, rfl⟩
    obtain ⟨r0, r1, rf⟩ := held_ext1 s (w.heap.size + 1 + 1) (0, 0) (by simp)
    clear hne d0 d1 e0 e1
    go_wp2
    refine bodyPost_ret (v := .tuple #[.agg #[.int .i64 0, .int .i64 0], .bool false]) (by simp [results, Try.results16, go_sem, r0, r1]) rfl ⟨rfl, ?_⟩
    exact (s.below.setCell (p := ⟨w.heap.size + 1 + 1, 0, none⟩) (by simp; omega) _).setCell (p := ⟨w.heap.size + 1 + 1, 1, none⟩) (by simp; omega) _

set_option maxRecDepth 100000 in
set_option maxHeartbeats 8000000 in
theorem join_yes (a b : Int × Int) (ha : okE a = true) (hb : okE b = true) (c1 : a.1 ≤ b.1 + b.2) (c2 : b.1 ≤ a.1 + a.2) (w : World) : Calls Try.prog 16 #[extV a, extV b] w (Gives (.tuple #[extV (jn a b), .bool true]) w) := by
  obtain ⟨a0, a1, a2⟩ := okE_iff.1 ha
  obtain ⟨b0, b1, b2⟩ := okE_iff.1 hb
  clear ha hb
  obtain ⟨h1, h2, h3, hb⟩ := three_blocks w (extO a) (extO b) (extO (0, 0))
  have hd : decide (b.1 + b.2 < a.1) = false := by simp; omega
  have hd2 : decide (a.1 + a.2 < b.1) = false := by simp; omega
  by_cases c3 : b.1 < a.1 <;> by_cases c4 : a.1 + a.2 < b.1 + b.2
  all_goals
    go_enter Try.func16, Try.ntmps16
    go_wp2
    refine wp_region_class w (args2 w a b) (by kernel_rfl) (by kernel_rfl) hb (all3 h1 h2 h3) (fun hne => ?_)
    obtain ⟨d0, d1⟩ := held_ext w (bs := args2 w a b) w.heap.size a (by simp)
    obtain ⟨e0, e1⟩ := held_ext w (bs := args2 w a b) (w.heap.size + 1) b (by simp)
    clear h1 h2 h3 hb
    repeat (go_big_quiet_step ((go_at_call 12; exact HeldW.call (end_gives2 _ _ (by omega) (by omega) (by omega) _))))
    refine wpQuiet_nil ?_
    rintro w' ⟨s, rfl⟩
    go_wp2
    refine wp_region_class_tail 11 w (args2 w a b) (by kernel_rfl) (by kernel_rfl) s.below s.blocks (fun hne => ?_)
    simp only [List.take_succ_cons, List.take_zero, List.drop_succ_cons, List.drop_zero]
    clear s
    repeat (go_big_quiet_step (first | (go_at_call 12; exact HeldW.call (end_gives2 _ _ (by omega) (by omega) (by omega) _)) | (go_at_call 26; exact HeldW.call (between_gives _ _ (by omega) (by omega) (by omega) _))))
    refine wpQuiet_nil ?_
    rintro w' ⟨s, rfl⟩
    obtain ⟨r0, r1, rf⟩ := held_ext1 s (w.heap.size + 1 + 1) (0, 0) (by simp)
    clear hne d0 d1 e0 e1 hd hd2
    go_wp2
    first
      | (have hv := jn_eq (a := a) (b := b) (lo := b.1) (hi := b.1 + b.2) (by omega) (by omega))
      | (have hv := jn_eq (a := a) (b := b) (lo := b.1) (hi := a.1 + a.2) (by omega) (by omega))
      | (have hv := jn_eq (a := a) (b := b) (lo := a.1) (hi := b.1 + b.2) (by omega) (by omega))
      | (have hv := jn_eq (a := a) (b := b) (lo := a.1) (hi := a.1 + a.2) (by omega) (by omega))
    rw [hv]
    clear hv
    refine bodyPost_ret (v := .tuple #[.agg #[.int .i64 _, .int .i64 _], .bool true]) (by simp [results, Try.results16, go_sem, r0, r1]) rfl ⟨rfl, ?_⟩
    exact (s.below.setCell (p := ⟨w.heap.size + 1 + 1, 0, none⟩) (by simp; omega) _).setCell (p := ⟨w.heap.size + 1 + 1, 1, none⟩) (by simp; omega) _
end Go.Proofs.Ytbhpipkaojlgfaa
