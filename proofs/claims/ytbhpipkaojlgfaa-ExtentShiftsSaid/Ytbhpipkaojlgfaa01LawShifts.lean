/- The law ExtentShifts returns true for every extent and number, and changes nothing that was there. -/
import Derived.Test.Ytbhpipkaojlgfaa01Shifts
namespace Go.Proofs.Ytbhpipkaojlgfaa
open Go.RowKit Go.Shelf Go.Proofs.Ytbhpipkaojlgfaa.Plain01

set_option maxRecDepth 100000 in
set_option maxHeartbeats 8000000 in
theorem extentShifts_bad (e : Int × Int) (d : Int) (h0 : I64 e.1) (h1 : I64 e.2) (he : okE e = false) (w : World) : Calls Try.prog 6 #[extV e, .int .i64 d] w (Gives (.bool true) w) := by
  have hr := rvalid_gives e h0 h1
  rw [he] at hr
  clear h0 h1 he
  go_enter Try.func6, Try.ntmps6
  go_wp2_with fail
  refine (HeldW.call (s := (HeldW.start w).push (extO e)) (hr _)).mono ?_
  rintro e _ ⟨rfl, s1, rfl⟩
  go_wp2_with fail
  refine (HeldW.call (s := s1) (alive_gives _)).mono ?_
  rintro e _ ⟨rfl, s2, rfl⟩
  go_wp2_with fail
  go_wp2
  go_ret
  exact ⟨rfl, s2.below⟩

theorem rmax_gives (w : World) : Calls Try.prog 18 #[] w (Gives (.int .i64 4611686018427387903) w) := gives_same (rmax_any w)

set_option maxRecDepth 100000 in
set_option maxHeartbeats 8000000 in
theorem extentShifts_yes (e : Int × Int) (d : Int) (h0 : I64 e.1) (h1 : I64 e.2) (he : okE e = true) (hy0 : 0 ≤ e.1 + d) (hy1 : e.1 + d + e.2 ≤ 4611686018427387903) (w : World) : Calls Try.prog 6 #[extV e, .int .i64 d] w (Gives (.bool true) w) := by
  have hr := rvalid_gives e h0 h1
  rw [he] at hr
  have hs := shift_yes e d he hy0 hy1
  obtain ⟨a0, a1, a2⟩ := okE_iff.1 he
  have hx : okE (e.1 + d, e.2) = true := okE_iff.2 ⟨hy0, a1, hy1⟩
  have hb := shift_yes (e.1 + d, e.2) (-d) hx (by simp only; omega) (by simp only; omega)
  rw [show ((e.1 + d, e.2).1 + -d, (e.1 + d, e.2).2) = e from by (ext <;> simp only; omega)] at hb
  clear h0 h1 he hx
  by_cases c : 0 ≤ d
  · have d1 : decide (0 ≤ d) = true := by simp; omega
    have d2 : decide (d ≤ 4611686018427387903 - e.1 - e.2) = true := by simp; omega
    go_enter Try.func6, Try.ntmps6
    go_wp2_with fail
    refine (HeldW.call (s := (HeldW.start w).push (extO e)) (hr _)).mono ?_
    rintro e _ ⟨rfl, s1, rfl⟩
    obtain ⟨d0, d1, d2⟩ := held_ext2 s1 (w.heap.size) e (by simp)
    go_wp2_with fail
    clear d0 d1 d2
    refine (HeldW.call (s := s1) (hs _)).mono ?_
    rintro e _ ⟨rfl, s2, rfl⟩
    go_wp2_with fail
    refine wp_region_class _ _ (by kernel_rfl) (by kernel_rfl) (s2.push (extO (e.1 + d, e.2))).below (s2.push (extO (e.1 + d, e.2))).blocks (fun hne => ?_)
    obtain ⟨f0, f1⟩ := held_extA (s2.push (extO (e.1 + d, e.2))) (w.heap.size) e (by simp)
    repeat (go_big_quiet_step ((go_at_call 18; exact HeldW.call (rmax_gives _))))
    refine wpQuiet_nil ?_
    rintro _ ⟨s3, rfl⟩
    clear hne f0 f1
    obtain ⟨d0, d1, d2⟩ := held_ext2 s3 (w.heap.size) e (by simp)
    obtain ⟨g0, g1, g2⟩ := held_ext2 s3 (s2.w.heap.size) (e.1 + d, e.2) (by simp)
    go_wp2_with fail
    clear d0 d1 d2 g0 g1 g2
    refine (HeldW.call (s := s3) (hb _)).mono ?_
    rintro e _ ⟨rfl, s4, rfl⟩
    go_wp2_with fail
    refine (HeldW.call (s := s4.push (extO e)) (alive_gives _)).mono ?_
    rintro e _ ⟨rfl, s5, rfl⟩
    obtain ⟨d0, d1, d2⟩ := held_ext2 s5 (w.heap.size) e (by simp)
    obtain ⟨g0, g1, g2⟩ := held_ext2 s5 (s2.w.heap.size) (e.1 + d, e.2) (by simp)
    obtain ⟨h0, h1, h2⟩ := held_ext2 s5 (s4.w.heap.size) e (by simp)
    go_wp2_with fail
    go_wp2
    go_ret
    exact ⟨rfl, s5.below⟩
  · have d1 : decide (0 ≤ d) = false := by simp; omega
    have d2 : decide (d < 0) = true := by simp; omega
    have d3 : decide (-e.1 ≤ d) = true := by simp; omega
    go_enter Try.func6, Try.ntmps6
    go_wp2_with fail
    refine (HeldW.call (s := (HeldW.start w).push (extO e)) (hr _)).mono ?_
    rintro e _ ⟨rfl, s1, rfl⟩
    obtain ⟨d0, d1, d2⟩ := held_ext2 s1 (w.heap.size) e (by simp)
    go_wp2_with fail
    clear d0 d1 d2
    refine (HeldW.call (s := s1) (hs _)).mono ?_
    rintro e _ ⟨rfl, s2, rfl⟩
    go_wp2_with fail
    refine wp_region_class _ _ (by kernel_rfl) (by kernel_rfl) (s2.push (extO (e.1 + d, e.2))).below (s2.push (extO (e.1 + d, e.2))).blocks (fun hne => ?_)
    obtain ⟨f0, f1⟩ := held_extA (s2.push (extO (e.1 + d, e.2))) (w.heap.size) e (by simp)
    repeat (go_big_quiet_step (fail))
    refine wpQuiet_nil ?_
    rintro _ ⟨s3, rfl⟩
    clear hne f0 f1
    obtain ⟨d0, d1, d2⟩ := held_ext2 s3 (w.heap.size) e (by simp)
    obtain ⟨g0, g1, g2⟩ := held_ext2 s3 (s2.w.heap.size) (e.1 + d, e.2) (by simp)
    go_wp2_with fail
    clear d0 d1 d2 g0 g1 g2
    refine (HeldW.call (s := s3) (hb _)).mono ?_
    rintro e _ ⟨rfl, s4, rfl⟩
    go_wp2_with fail
    refine (HeldW.call (s := s4.push (extO e)) (alive_gives _)).mono ?_
    rintro e _ ⟨rfl, s5, rfl⟩
    obtain ⟨d0, d1, d2⟩ := held_ext2 s5 (w.heap.size) e (by simp)
    obtain ⟨g0, g1, g2⟩ := held_ext2 s5 (s2.w.heap.size) (e.1 + d, e.2) (by simp)
    obtain ⟨h0, h1, h2⟩ := held_ext2 s5 (s4.w.heap.size) e (by simp)
    go_wp2_with fail
    go_wp2
    go_ret
    exact ⟨rfl, s5.below⟩

set_option maxRecDepth 100000 in
set_option maxHeartbeats 8000000 in
theorem extentShifts_no (e : Int × Int) (d : Int) (h0 : I64 e.1) (h1 : I64 e.2) (hd : I64 d) (he : okE e = true) (h : e.1 + d < 0 ∨ 4611686018427387903 < e.1 + d + e.2) (w : World) : Calls Try.prog 6 #[extV e, .int .i64 d] w (Gives (.bool true) w) := by
  have hr := rvalid_gives e h0 h1
  rw [he] at hr
  have hs := shift_no e d he hd.1 hd.2 h
  obtain ⟨a0, a1, a2⟩ := okE_iff.1 he
  unfold I64 at hd
  clear h0 h1 he
  by_cases c : 0 ≤ d
  · have d1 : decide (0 ≤ d) = true := by simp; omega
    have d2 : decide (d ≤ 4611686018427387903 - e.1 - e.2) = false := by simp; omega
    have d3 : decide (d < 0) = false := by simp; omega
    have d4 : 4611686018427387903 - e.1 - e.2 < d := by omega
    clear h
    go_enter Try.func6, Try.ntmps6
    go_wp2_with fail
    refine (HeldW.call (s := (HeldW.start w).push (extO e)) (hr _)).mono ?_
    rintro e _ ⟨rfl, s1, rfl⟩
    obtain ⟨d0, d1, d2⟩ := held_ext2 s1 (w.heap.size) e (by simp)
    go_wp2_with fail
    clear d0 d1 d2
    refine (HeldW.call (s := s1) (hs _)).mono ?_
    rintro e _ ⟨rfl, s2, rfl⟩
    go_wp2_with fail
    refine wp_region_class _ _ (by kernel_rfl) (by kernel_rfl) (s2.push (extO (0, 0))).below (s2.push (extO (0, 0))).blocks (fun hne => ?_)
    obtain ⟨f0, f1⟩ := held_extA (s2.push (extO (0, 0))) (w.heap.size) e (by simp)
    repeat (go_big_quiet_step ((go_at_call 18; exact HeldW.call (rmax_gives _))))
    refine wpQuiet_nil ?_
    rintro _ ⟨s3, rfl⟩
    clear hne f0 f1
    obtain ⟨d0, d1, d2⟩ := held_ext2 s3 (w.heap.size) e (by simp)
    obtain ⟨g0, g1, g2⟩ := held_ext2 s3 (s2.w.heap.size) (0, 0) (by simp)
    go_wp2_with fail
    clear d0 d1 d2 g0 g1 g2
    refine (HeldW.call (s := s3) (alive_gives _)).mono ?_
    rintro e _ ⟨rfl, s4, rfl⟩
    obtain ⟨g0, g1, g2⟩ := held_ext2 s4 (s2.w.heap.size) (0, 0) (by simp)
    go_wp2_with fail
    go_wp2
    go_ret
    exact ⟨rfl, s4.below⟩
  · have d1 : decide (0 ≤ d) = false := by simp; omega
    have d2 : decide (d < 0) = true := by simp; omega
    have d3 : decide (-e.1 ≤ d) = false := by simp; omega
    have d4 : d < -e.1 := by omega
    clear h
    go_enter Try.func6, Try.ntmps6
    go_wp2_with fail
    refine (HeldW.call (s := (HeldW.start w).push (extO e)) (hr _)).mono ?_
    rintro e _ ⟨rfl, s1, rfl⟩
    obtain ⟨d0, d1, d2⟩ := held_ext2 s1 (w.heap.size) e (by simp)
    go_wp2_with fail
    clear d0 d1 d2
    refine (HeldW.call (s := s1) (hs _)).mono ?_
    rintro e _ ⟨rfl, s2, rfl⟩
    go_wp2_with fail
    refine wp_region_class _ _ (by kernel_rfl) (by kernel_rfl) (s2.push (extO (0, 0))).below (s2.push (extO (0, 0))).blocks (fun hne => ?_)
    obtain ⟨f0, f1⟩ := held_extA (s2.push (extO (0, 0))) (w.heap.size) e (by simp)
    repeat (go_big_quiet_step (fail))
    refine wpQuiet_nil ?_
    rintro _ ⟨s3, rfl⟩
    clear hne f0 f1
    obtain ⟨d0, d1, d2⟩ := held_ext2 s3 (w.heap.size) e (by simp)
    obtain ⟨g0, g1, g2⟩ := held_ext2 s3 (s2.w.heap.size) (0, 0) (by simp)
    go_wp2_with fail
    clear d0 d1 d2 g0 g1 g2
    refine (HeldW.call (s := s3) (alive_gives _)).mono ?_
    rintro e _ ⟨rfl, s4, rfl⟩
    obtain ⟨g0, g1, g2⟩ := held_ext2 s4 (s2.w.heap.size) (0, 0) (by simp)
    go_wp2_with fail
    go_wp2
    go_ret
    exact ⟨rfl, s4.below⟩

theorem extentShifts_walk (e : Int × Int) (d : Int) (h0 : I64 e.1) (h1 : I64 e.2) (hd : I64 d) (w : World) : Calls Try.prog 6 #[extV e, .int .i64 d] w (Gives (.bool true) w) := by
  cases he : okE e
  · exact extentShifts_bad e d h0 h1 he w
  by_cases h : e.1 + d < 0 ∨ 4611686018427387903 < e.1 + d + e.2
  · exact extentShifts_no e d h0 h1 hd he h w
  · exact extentShifts_yes e d h0 h1 he (by omega) (by omega) w
end Go.Proofs.Ytbhpipkaojlgfaa
