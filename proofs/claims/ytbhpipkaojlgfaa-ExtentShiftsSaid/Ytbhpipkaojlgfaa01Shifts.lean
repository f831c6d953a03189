/- Shift of package extent, at every valid extent and every number. -/
import Derived.Test.Ytbhpipkaojlgfaa01Meets
namespace Go.Proofs.Ytbhpipkaojlgfaa
open Go.RowKit Go.Shelf Go.Proofs.Ytbhpipkaojlgfaa.Plain01

theorem wrap64_bd (q : Int) : I64 (wrap64 q) := by unfold I64 wrap64; omega

set_option maxRecDepth 100000 in
set_option maxHeartbeats 4000000 in
theorem shift_yes (e : Int × Int) (d : Int) (he : okE e = true) (h0 : 0 ≤ e.1 + d) (h1 : e.1 + d + e.2 ≤ 4611686018427387903) (w : World) : Calls Try.prog 17 #[extV e, .int .i64 d] w (Gives (.tuple #[extV (e.1 + d, e.2), .bool true]) w) := by
  obtain ⟨a0, a1, a2⟩ := okE_iff.1 he
  have hv := valid_gives (e.1 + d, e.2) (by unfold I64; simp only; omega) (by unfold I64; simp only; omega)
  rw [show okE (e.1 + d, e.2) = true from okE_iff.2 ⟨h0, a1, h1⟩] at hv
  clear he
  go_enter Try.func17, Try.ntmps17
  go_wp2_with fail
  refine (HeldW.call (s := (((HeldW.start w).push (extO e)).push (extO (0, 0))).push (extO (e.1 + d, e.2))) (hv _)).mono ?_
  rintro e _ ⟨rfl, s1, rfl⟩
  obtain ⟨d0, d1, d2⟩ := held_ext2 s1 (w.heap.size + 1 + 1) (e.1 + d, e.2) (by simp)
  obtain ⟨r0, r1, rf⟩ := held_ext1 s1 (w.heap.size + 1) (0, 0) (by simp)
  go_wp2
  refine bodyPost_ret (v := .tuple #[.agg #[.int .i64 _, .int .i64 _], .bool true]) (by simp [results, Try.results17, go_sem, r0, r1]) rfl ⟨rfl, ?_⟩
  exact (s1.below.setCell (p := ⟨w.heap.size + 1, 0, none⟩) (by simp) _).setCell (p := ⟨w.heap.size + 1, 1, none⟩) (by simp) _

set_option maxRecDepth 100000 in
set_option maxHeartbeats 4000000 in
theorem shift_no (e : Int × Int) (d : Int) (he : okE e = true) (hd0 : -9223372036854775808 ≤ d) (hd1 : d ≤ 9223372036854775807) (h : e.1 + d < 0 ∨ 4611686018427387903 < e.1 + d + e.2) (w : World) : Calls Try.prog 17 #[extV e, .int .i64 d] w (Gives (.tuple #[extV (0, 0), .bool false]) w) := by
  obtain ⟨a0, a1, a2⟩ := okE_iff.1 he
  clear he
  by_cases hw : e.1 + d ≤ 9223372036854775807
  · have hv := valid_gives (e.1 + d, e.2) (by unfold I64; simp only; omega) (by unfold I64; simp only; omega)
    rw [okE_false (x := (e.1 + d, e.2)) (by simp only; omega)] at hv
    clear h
    go_enter Try.func17, Try.ntmps17
    go_wp2_with fail
    refine (HeldW.call (s := (((HeldW.start w).push (extO e)).push (extO (0, 0))).push (extO (e.1 + d, e.2))) (hv _)).mono ?_
    rintro e _ ⟨rfl, s1, rfl⟩
    obtain ⟨d0, d1, d2⟩ := held_ext2 s1 (w.heap.size + 1 + 1) (e.1 + d, e.2) (by simp)
    obtain ⟨r0, r1, rf⟩ := held_ext1 s1 (w.heap.size + 1) (0, 0) (by simp)
    go_wp2
    refine bodyPost_ret (v := .tuple #[.agg #[.int .i64 0, .int .i64 0], .bool false]) (by simp [results, Try.results17, go_sem, r0, r1]) rfl ⟨rfl, ?_⟩
    exact (s1.below.setCell (p := ⟨w.heap.size + 1, 0, none⟩) (by simp) _).setCell (p := ⟨w.heap.size + 1, 1, none⟩) (by simp) _
  · have hneg : wrap64 (e.1 + d) < 0 := by unfold wrap64; omega
    have hv := valid_gives (wrap64 (e.1 + d), e.2) (wrap64_bd _) (by unfold I64; simp only; omega)
    rw [okE_false (x := (wrap64 (e.1 + d), e.2)) (by simp only; omega)] at hv
    clear h hneg
    go_enter Try.func17, Try.ntmps17
    go_wp2_with fail
    refine (HeldW.call (s := (((HeldW.start w).push (extO e)).push (extO (0, 0))).push (extO (wrap64 (e.1 + d), e.2))) (hv _)).mono ?_
    rintro e _ ⟨rfl, s1, rfl⟩
    obtain ⟨d0, d1, d2⟩ := held_ext2 s1 (w.heap.size + 1 + 1) (wrap64 (e.1 + d), e.2) (by simp)
    obtain ⟨r0, r1, rf⟩ := held_ext1 s1 (w.heap.size + 1) (0, 0) (by simp)
    go_wp2
    refine bodyPost_ret (v := .tuple #[.agg #[.int .i64 0, .int .i64 0], .bool false]) (by simp [results, Try.results17, go_sem, r0, r1]) rfl ⟨rfl, ?_⟩
    exact (s1.below.setCell (p := ⟨w.heap.size + 1, 0, none⟩) (by simp) _).setCell (p := ⟨w.heap.size + 1, 1, none⟩) (by simp) _
end Go.Proofs.Ytbhpipkaojlgfaa
