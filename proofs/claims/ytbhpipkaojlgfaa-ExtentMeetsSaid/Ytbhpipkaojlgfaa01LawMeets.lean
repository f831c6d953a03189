/- The law ExtentMeets returns true for every two extents, and changes nothing that was there. -/
import Derived.Test.Ytbhpipkaojlgfaa01Meets
import Derived.Test.Ytbhpipkaojlgfaa01Contains
namespace Go.Proofs.Ytbhpipkaojlgfaa
open Go.RowKit Go.Shelf Go.Proofs.Ytbhpipkaojlgfaa.Plain01

theorem ovl_comm (a b : Int × Int) : ovl b a = ovl a b ∧ ovlB b a = ovlB a b := by
  unfold ovl ovlB
  rw [Int.min_comm (b.1 + b.2), Int.max_comm b.1]
  exact ⟨rfl, rfl⟩

theorem ovl_facts {a b x : Int × Int} (ha : okE a = true) (hb : okE b = true) (h : ovlB a b = true) (hx : ovl a b = x) : okE x = true ∧ insE a x ∧ insE b x ∧ 0 < x.2 := by
  rw [okE_iff] at ha hb
  unfold ovlB at h
  simp only [decide_eq_true_eq] at h
  obtain ⟨h1, _⟩ := ovl_yes (a := a) (b := b) rfl rfl h
  rw [h1] at hx
  subst hx
  rw [okE_iff]
  unfold insE
  simp only
  omega
theorem ovl_none {a b : Int × Int} (h : ovlB a b = false) : ovl a b = (0, 0) := by
  unfold ovlB at h
  simp only [decide_eq_false_iff_not] at h
  exact (ovl_no (by omega)).1

set_option maxRecDepth 100000 in
set_option maxHeartbeats 8000000 in
theorem extentMeets_walk (a b : Int × Int) (ha0 : I64 a.1) (ha1 : I64 a.2) (hb0 : I64 b.1) (hb1 : I64 b.2) (w : World) : Calls Try.prog 4 #[extV a, extV b] w (Gives (.bool true) w) := by
  have hra := rvalid_gives a ha0 ha1
  have hrb := rvalid_gives b hb0 hb1
  clear ha0 ha1 hb0 hb1
  cases hoa : okE a
  · rw [hoa] at hra
    clear hoa hrb
    go_enter Try.func4, Try.ntmps4
    go_wp2_with fail
    refine (HeldW.call (s := ((HeldW.start w).push (extO a)).push (extO b)) (hra _)).mono ?_
    rintro e _ ⟨rfl, s1, rfl⟩
    go_wp2_with fail
    refine (HeldW.call (s := s1) (alive_gives _)).mono ?_
    rintro e _ ⟨rfl, s2, rfl⟩
    go_wp2_with fail
    go_wp2
    go_ret
    exact ⟨rfl, s2.below⟩
  cases hob : okE b
  · rw [hoa] at hra
    rw [hob] at hrb
    clear hoa hob
    go_enter Try.func4, Try.ntmps4
    go_wp2_with fail
    refine (HeldW.call (s := ((HeldW.start w).push (extO a)).push (extO b)) (hra _)).mono ?_
    rintro e _ ⟨rfl, s1, rfl⟩
    obtain ⟨d0, d1, d2⟩ := held_ext2 s1 (w.heap.size + 1) b (by simp)
    go_wp2_with fail
    clear d0 d1 d2
    refine (HeldW.call (s := s1) (hrb _)).mono ?_
    rintro e _ ⟨rfl, s2, rfl⟩
    go_wp2_with fail
    refine (HeldW.call (s := s2) (alive_gives _)).mono ?_
    rintro e _ ⟨rfl, s3, rfl⟩
    go_wp2_with fail
    go_wp2
    go_ret
    exact ⟨rfl, s3.below⟩
  rw [hoa] at hra
  rw [hob] at hrb
  have hab := overlap_gives a b hoa hob
  have hba := overlap_gives b a hob hoa
  have href := roverlap_gives a b hoa hob
  rw [(ovl_comm a b).1, (ovl_comm a b).2] at hba
  cases hv : ovlB a b
  · have hx0 := ovl_none hv
    rw [hv, hx0] at hab hba
    rw [hx0] at href
    clear hx0 hv hoa hob
    go_enter Try.func4, Try.ntmps4
    go_wp2_with fail
    refine (HeldW.call (s := ((HeldW.start w).push (extO a)).push (extO b)) (hra _)).mono ?_
    rintro e _ ⟨rfl, s1, rfl⟩
    obtain ⟨d0, d1, d2⟩ := held_ext2 s1 (w.heap.size + 1) b (by simp)
    go_wp2_with fail
    clear d0 d1 d2
    refine (HeldW.call (s := s1) (hrb _)).mono ?_
    rintro e _ ⟨rfl, s2, rfl⟩
    obtain ⟨d0, d1, d2⟩ := held_ext2 s2 (w.heap.size + 1) b (by simp)
    obtain ⟨e0, e1, e2⟩ := held_ext2 s2 (w.heap.size) a (by simp)
    go_wp2_with fail
    clear d0 d1 d2 e0 e1 e2
    refine (HeldW.call (s := s2) (hab _)).mono ?_
    rintro e _ ⟨rfl, s3, rfl⟩
    obtain ⟨d0, d1, d2⟩ := held_ext2 s3 (w.heap.size + 1) b (by simp)
    obtain ⟨e0, e1, e2⟩ := held_ext2 s3 (w.heap.size) a (by simp)
    go_wp2_with fail
    clear d0 d1 d2 e0 e1 e2
    refine (HeldW.call (s := s3.push (extO (0, 0))) (hba _)).mono ?_
    rintro e _ ⟨rfl, s4, rfl⟩
    obtain ⟨d0, d1, d2⟩ := held_ext2 s4 (w.heap.size + 1) b (by simp)
    obtain ⟨e0, e1, e2⟩ := held_ext2 s4 (w.heap.size) a (by simp)
    go_wp2_with fail
    clear d0 d1 d2 e0 e1 e2
    refine (HeldW.call (s := s4.push (extO (0, 0))) (href _)).mono ?_
    rintro e _ ⟨rfl, s5, rfl⟩
    go_wp2_with fail
    refine (HeldW.call (s := s5.push (extO (0, 0))) (alive_gives _)).mono ?_
    rintro e _ ⟨rfl, s6, rfl⟩
    obtain ⟨d0, d1, d2⟩ := held_ext2 s6 (s3.w.heap.size) (0, 0) (by simp)
    obtain ⟨e0, e1, e2⟩ := held_ext2 s6 (s4.w.heap.size) (0, 0) (by simp)
    obtain ⟨g0, g1, g2⟩ := held_ext2 s6 (s5.w.heap.size) (0, 0) (by simp)
    go_wp2_with fail
    go_wp2
    go_ret
    exact ⟨rfl, s6.below⟩
  · obtain ⟨x, hx⟩ : ∃ x, ovl a b = x := ⟨_, rfl⟩
    obtain ⟨hxo, hxa, hxb, hx2⟩ := ovl_facts hoa hob hv hx
    have hca := fun k W h => contains1_gives a x hoa hxo hxa k W h
    have hcb := fun k W h => contains1_gives b x hob hxo hxb k W h
    rw [hv, hx] at hab hba
    rw [hx] at href
    clear hx hv hoa hob hxo hxa hxb
    go_enter Try.func4, Try.ntmps4
    go_wp2_with fail
    refine (HeldW.call (s := ((HeldW.start w).push (extO a)).push (extO b)) (hra _)).mono ?_
    rintro e _ ⟨rfl, s1, rfl⟩
    obtain ⟨d0, d1, d2⟩ := held_ext2 s1 (w.heap.size + 1) b (by simp)
    go_wp2_with fail
    clear d0 d1 d2
    refine (HeldW.call (s := s1) (hrb _)).mono ?_
    rintro e _ ⟨rfl, s2, rfl⟩
    obtain ⟨d0, d1, d2⟩ := held_ext2 s2 (w.heap.size + 1) b (by simp)
    obtain ⟨e0, e1, e2⟩ := held_ext2 s2 (w.heap.size) a (by simp)
    go_wp2_with fail
    clear d0 d1 d2 e0 e1 e2
    refine (HeldW.call (s := s2) (hab _)).mono ?_
    rintro e _ ⟨rfl, s3, rfl⟩
    obtain ⟨d0, d1, d2⟩ := held_ext2 s3 (w.heap.size + 1) b (by simp)
    obtain ⟨e0, e1, e2⟩ := held_ext2 s3 (w.heap.size) a (by simp)
    go_wp2_with fail
    clear d0 d1 d2 e0 e1 e2
    refine (HeldW.call (s := s3.push (extO x)) (hba _)).mono ?_
    rintro e _ ⟨rfl, s4, rfl⟩
    obtain ⟨d0, d1, d2⟩ := held_ext2 s4 (w.heap.size + 1) b (by simp)
    obtain ⟨e0, e1, e2⟩ := held_ext2 s4 (w.heap.size) a (by simp)
    go_wp2_with fail
    clear d0 d1 d2 e0 e1 e2
    refine (HeldW.call (s := s4.push (extO x)) (href _)).mono ?_
    rintro e _ ⟨rfl, s5, rfl⟩
    go_wp2_with fail
    refine (HeldW.call (s := s5.push (extO x)) (alive_gives _)).mono ?_
    rintro e _ ⟨rfl, s6, rfl⟩
    obtain ⟨d0, d1, d2⟩ := held_ext2 s6 (s3.w.heap.size) x (by simp)
    obtain ⟨e0, e1, e2⟩ := held_ext2 s6 (s4.w.heap.size) x (by simp)
    obtain ⟨g0, g1, g2⟩ := held_ext2 s6 (s5.w.heap.size) x (by simp)
    obtain ⟨h0, h1, h2⟩ := held_ext2 s6 (w.heap.size) a (by simp)
    go_wp2_with fail
    clear d0 d1 d2 e0 e1 e2 g0 g1 g2 h0 h1 h2
    refine (HeldW.call (s := s6.push (extO x)) (hca _ _ (heap_new _ _ rfl))).mono ?_
    rintro e _ ⟨rfl, s7, rfl⟩
    obtain ⟨d0, d1, d2⟩ := held_ext2 s7 (s3.w.heap.size) x (by simp)
    obtain ⟨e0, e1, e2⟩ := held_ext2 s7 (w.heap.size + 1) b (by simp)
    go_wp2_with fail
    clear d0 d1 d2 e0 e1 e2
    refine (HeldW.call (s := s7.push (extO x)) (hcb _ _ (heap_new _ _ rfl))).mono ?_
    rintro e _ ⟨rfl, s8, rfl⟩
    go_wp2_with fail
    go_wp2
    go_ret
    exact ⟨rfl, s8.below⟩
end Go.Proofs.Ytbhpipkaojlgfaa
