/- The law ExtentJoins returns true for every two extents, and changes nothing that was there. -/
import Derived.Test.Ytbhpipkaojlgfaa01Joins
import Derived.Test.Ytbhpipkaojlgfaa01Contains
namespace Go.Proofs.Ytbhpipkaojlgfaa
open Go.RowKit Go.Shelf Go.Proofs.Ytbhpipkaojlgfaa.Plain01

theorem jn_facts {a b x : Int × Int} (ha : okE a = true) (hb : okE b = true) (hx : jn a b = x) : okE x = true ∧ insE x a ∧ insE x b := by
  rw [okE_iff] at ha hb
  subst hx
  rw [okE_iff]
  unfold jn insE
  simp only
  omega

theorem jn_tests {a b x : Int × Int} {lo hi : Int} (hx : jn a b = x) (hlo : min a.1 b.1 = lo) (hhi : max (a.1 + a.2) (b.1 + b.2) = hi) (h0 : 0 ≤ lo) (h1 : lo ≤ hi) (h2 : hi ≤ 4611686018427387903) :
    (x.1 == lo) = true ∧ (x.1 + x.2 == hi) = true ∧ 0 ≤ x.1 ∧ 0 ≤ x.2 ∧ x.1 + x.2 ≤ 4611686018427387903 := by
  rw [jn_eq hlo hhi] at hx
  subst hx
  simp
  omega

set_option maxRecDepth 100000 in
set_option maxHeartbeats 8000000 in
theorem extentJoins_bad (a b : Int × Int) (ha0 : I64 a.1) (ha1 : I64 a.2) (hb0 : I64 b.1) (hb1 : I64 b.2) (hbad : okE a = false ∨ okE b = false) (w : World) : Calls Try.prog 5 #[extV a, extV b] w (Gives (.bool true) w) := by
  have hra := rvalid_gives a ha0 ha1
  have hrb := rvalid_gives b hb0 hb1
  clear ha0 ha1 hb0 hb1
  cases hoa : okE a
  · rw [hoa] at hra
    clear hoa hrb hbad
    go_enter Try.func5, Try.ntmps5
    go_wp2_with fail
    refine (HeldW.call (s := ((HeldW.start w).push (extO a)).push (extO b)) (hra _)).mono ?_
    rintro e _ ⟨rfl, s1, rfl⟩
    go_wp2_with fail
    refine (HeldW.call (s := s1) (alive_gives _)).mono ?_
    rintro e _ ⟨rfl, s2, rfl⟩
    go_wp2_with fail
    go_wp2
    go_ret
    exact ⟨rfl, s2.below⟩
  · have hob : okE b = false := by (rw [hoa] at hbad; simpa using hbad)
    rw [hoa] at hra
    rw [hob] at hrb
    clear hoa hob hbad
    go_enter Try.func5, Try.ntmps5
    go_wp2_with fail
    refine (HeldW.call (s := ((HeldW.start w).push (extO a)).push (extO b)) (hra _)).mono ?_
    rintro e _ ⟨rfl, s1, rfl⟩
    obtain ⟨d0, d1, d2⟩ := held_ext2 s1 (w.heap.size + 1) b (by simp)
    go_wp2_with fail
    clear d0 d1 d2
    refine (HeldW.call (s := s1) (hrb _)).mono ?_
    rintro e _ ⟨rfl, s2, rfl⟩
    go_wp2_with fail
    refine (HeldW.call (s := s2) (alive_gives _)).mono ?_
    rintro e _ ⟨rfl, s3, rfl⟩
    go_wp2_with fail
    go_wp2
    go_ret
    exact ⟨rfl, s3.below⟩

set_option maxRecDepth 100000 in
set_option maxHeartbeats 8000000 in
theorem extentJoins_no (a b : Int × Int) (ha0 : I64 a.1) (ha1 : I64 a.2) (hb0 : I64 b.1) (hb1 : I64 b.2) (hoa : okE a = true) (hob : okE b = true) (h : b.1 + b.2 < a.1 ∨ a.1 + a.2 < b.1) (w : World) : Calls Try.prog 5 #[extV a, extV b] w (Gives (.bool true) w) := by
  have hra := rvalid_gives a ha0 ha1
  have hrb := rvalid_gives b hb0 hb1
  clear ha0 ha1 hb0 hb1
  have hj := join_no a b hoa hob h
  rw [hoa] at hra
  rw [hob] at hrb
  obtain ⟨a0, a1, a2⟩ := okE_iff.1 hoa
  obtain ⟨b0, b1, b2⟩ := okE_iff.1 hob
  clear hoa hob
  by_cases c1 : b.1 + b.2 < a.1
  · have hd : decide (a.1 ≤ b.1 + b.2) = false := by simp; omega
    clear h
    go_enter Try.func5, Try.ntmps5
    go_wp2_with fail
    refine (HeldW.call (s := ((HeldW.start w).push (extO a)).push (extO b)) (hra _)).mono ?_
    rintro e _ ⟨rfl, s1, rfl⟩
    obtain ⟨d0, d1, d2⟩ := held_ext2 s1 (w.heap.size + 1) b (by simp)
    go_wp2_with fail
    clear d0 d1 d2
    refine (HeldW.call (s := s1) (hrb _)).mono ?_
    rintro e _ ⟨rfl, s2, rfl⟩
    obtain ⟨d0, d1, d2⟩ := held_ext2 s2 (w.heap.size + 1) b (by simp)
    obtain ⟨e0, e1, e2⟩ := held_ext2 s2 (w.heap.size) a (by simp)
    go_wp2_with fail
    clear d0 d1 d2 e0 e1 e2
    refine (HeldW.call (s := s2) (hj _)).mono ?_
    rintro e _ ⟨rfl, s3, rfl⟩
    obtain ⟨d0, d1, d2⟩ := held_ext2 s3 (w.heap.size + 1) b (by simp)
    obtain ⟨e0, e1, e2⟩ := held_ext2 s3 (w.heap.size) a (by simp)
    go_wp2_with fail
    clear d0 d1 d2 e0 e1 e2
    refine (HeldW.call (s := s3.push (extO (0, 0))) (alive_gives _)).mono ?_
    rintro e _ ⟨rfl, s4, rfl⟩
    obtain ⟨d0, d1, d2⟩ := held_ext2 s4 (s3.w.heap.size) (0, 0) (by simp)
    go_wp2_with fail
    go_wp2
    go_ret
    exact ⟨rfl, s4.below⟩
  · have hd : decide (a.1 ≤ b.1 + b.2) = true := by simp; omega
    have hd2 : decide (b.1 ≤ a.1 + a.2) = false := by simp; omega
    have c2 : a.1 + a.2 < b.1 := by omega
    clear h
    go_enter Try.func5, Try.ntmps5
    go_wp2_with fail
    refine (HeldW.call (s := ((HeldW.start w).push (extO a)).push (extO b)) (hra _)).mono ?_
    rintro e _ ⟨rfl, s1, rfl⟩
    obtain ⟨d0, d1, d2⟩ := held_ext2 s1 (w.heap.size + 1) b (by simp)
    go_wp2_with fail
    clear d0 d1 d2
    refine (HeldW.call (s := s1) (hrb _)).mono ?_
    rintro e _ ⟨rfl, s2, rfl⟩
    obtain ⟨d0, d1, d2⟩ := held_ext2 s2 (w.heap.size + 1) b (by simp)
    obtain ⟨e0, e1, e2⟩ := held_ext2 s2 (w.heap.size) a (by simp)
    go_wp2_with fail
    clear d0 d1 d2 e0 e1 e2
    refine (HeldW.call (s := s2) (hj _)).mono ?_
    rintro e _ ⟨rfl, s3, rfl⟩
    obtain ⟨d0, d1, d2⟩ := held_ext2 s3 (w.heap.size + 1) b (by simp)
    obtain ⟨e0, e1, e2⟩ := held_ext2 s3 (w.heap.size) a (by simp)
    go_wp2_with fail
    clear d0 d1 d2 e0 e1 e2
    refine (HeldW.call (s := s3.push (extO (0, 0))) (alive_gives _)).mono ?_
    rintro e _ ⟨rfl, s4, rfl⟩
    obtain ⟨d0, d1, d2⟩ := held_ext2 s4 (s3.w.heap.size) (0, 0) (by simp)
    go_wp2_with fail
    go_wp2
    go_ret
    exact ⟨rfl, s4.below⟩

set_option maxRecDepth 100000 in
set_option maxHeartbeats 8000000 in
theorem extentJoins_yes (a b : Int × Int) (ha0 : I64 a.1) (ha1 : I64 a.2) (hb0 : I64 b.1) (hb1 : I64 b.2) (hoa : okE a = true) (hob : okE b = true) (c1 : a.1 ≤ b.1 + b.2) (c2 : b.1 ≤ a.1 + a.2) (w : World) : Calls Try.prog 5 #[extV a, extV b] w (Gives (.bool true) w) := by
  have hra := rvalid_gives a ha0 ha1
  have hrb := rvalid_gives b hb0 hb1
  clear ha0 ha1 hb0 hb1
  have hj := join_yes a b hoa hob c1 c2
  obtain ⟨hxo, hxa, hxb⟩ := jn_facts hoa hob rfl
  have hc := fun k W h => contains2_gives (jn a b) a b hxo hoa hob hxa hxb k W h
  rw [hoa] at hra
  rw [hob] at hrb
  obtain ⟨a0, a1, a2⟩ := okE_iff.1 hoa
  obtain ⟨b0, b1, b2⟩ := okE_iff.1 hob
  clear hoa hob hxo hxa hxb
  have hd : decide (a.1 ≤ b.1 + b.2) = true := by simp; omega
  have hd2 : decide (b.1 ≤ a.1 + a.2) = true := by simp; omega
  by_cases c3 : b.1 < a.1 <;> by_cases c4 : a.1 + a.2 < b.1 + b.2
  all_goals
    generalize hxx : jn a b = x at hj hc
    first
      | (have hf := jn_tests (a := a) (b := b) (x := x) (lo := b.1) (hi := b.1 + b.2) hxx (by omega) (by omega))
      | (have hf := jn_tests (a := a) (b := b) (x := x) (lo := b.1) (hi := a.1 + a.2) hxx (by omega) (by omega))
      | (have hf := jn_tests (a := a) (b := b) (x := x) (lo := a.1) (hi := b.1 + b.2) hxx (by omega) (by omega))
      | (have hf := jn_tests (a := a) (b := b) (x := x) (lo := a.1) (hi := a.1 + a.2) hxx (by omega) (by omega))
    obtain ⟨f1, f2, k1, k2, k3⟩ := hf (by omega) (by omega) (by omega)
    clear hxx hf
    go_enter Try.func5, Try.ntmps5
    go_wp2_with fail
    refine (HeldW.call (s := ((HeldW.start w).push (extO a)).push (extO b)) (hra _)).mono ?_
    rintro e _ ⟨rfl, s1, rfl⟩
    obtain ⟨d0, d1, d2⟩ := held_ext2 s1 (w.heap.size + 1) b (by simp)
    go_wp2_with fail
    clear d0 d1 d2
    refine (HeldW.call (s := s1) (hrb _)).mono ?_
    rintro e _ ⟨rfl, s2, rfl⟩
    obtain ⟨d0, d1, d2⟩ := held_ext2 s2 (w.heap.size + 1) b (by simp)
    obtain ⟨e0, e1, e2⟩ := held_ext2 s2 (w.heap.size) a (by simp)
    go_wp2_with fail
    clear d0 d1 d2 e0 e1 e2
    refine (HeldW.call (s := s2) (hj _)).mono ?_
    rintro e _ ⟨rfl, s3, rfl⟩
    obtain ⟨d0, d1, d2⟩ := held_ext2 s3 (w.heap.size + 1) b (by simp)
    obtain ⟨e0, e1, e2⟩ := held_ext2 s3 (w.heap.size) a (by simp)
    go_wp2_with fail
    clear d0 d1 d2 e0 e1 e2
    refine (HeldW.call (s := s3.push (extO x)) (alive_gives _)).mono ?_
    rintro e _ ⟨rfl, s4, rfl⟩
    obtain ⟨d0, d1, d2⟩ := held_ext2 s4 (w.heap.size + 1) b (by simp)
    obtain ⟨e0, e1, e2⟩ := held_ext2 s4 (w.heap.size) a (by simp)
    obtain ⟨g0, g1, g2⟩ := held_ext2 s4 (s3.w.heap.size) x (by simp)
    go_wp2_with fail
    clear d0 d1 d2 e0 e1 e2 g0 g1 g2
    refine (HeldW.call (s := s4.push (.cells #[.int .i64 a.1, .int .i64 a.2, .int .i64 b.1, .int .i64 b.2] 23 (0, 0))) (hc _ _ (heap_new _ _ rfl))).mono ?_
    rintro e _ ⟨rfl, s5, rfl⟩
    go_wp2_with fail
    go_wp2
    go_ret
    exact ⟨rfl, s5.below⟩

theorem extentJoins_walk (a b : Int × Int) (ha0 : I64 a.1) (ha1 : I64 a.2) (hb0 : I64 b.1) (hb1 : I64 b.2) (w : World) : Calls Try.prog 5 #[extV a, extV b] w (Gives (.bool true) w) := by
  cases hoa : okE a
  · exact extentJoins_bad a b ha0 ha1 hb0 hb1 (.inl hoa) w
  cases hob : okE b
  · exact extentJoins_bad a b ha0 ha1 hb0 hb1 (.inr hob) w
  by_cases h : b.1 + b.2 < a.1 ∨ a.1 + a.2 < b.1
  · exact extentJoins_no a b ha0 ha1 hb0 hb1 hoa hob h w
  · exact extentJoins_yes a b ha0 ha1 hb0 hb1 hoa hob (by omega) (by omega) w
end Go.Proofs.Ytbhpipkaojlgfaa
