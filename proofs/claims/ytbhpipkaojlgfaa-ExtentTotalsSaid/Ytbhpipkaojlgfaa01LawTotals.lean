/- The law ExtentTotals returns true for every extent and every slice of extents, and changes nothing that was there. -/
import Derived.Test.Ytbhpipkaojlgfaa01Totals
namespace Go.Proofs.Ytbhpipkaojlgfaa
open Go.RowKit Go.Shelf Go.Proofs.Ytbhpipkaojlgfaa.Plain01

theorem totV_form (n : Nat) (f : Nat → Int × Int) : ∃ (q : Int) (b : Bool), totV n f = .tuple #[.int .i64 q, .bool b] := by
  unfold totV; split
  · exact ⟨_, _, rfl⟩
  · exact ⟨_, _, rfl⟩

set_option maxRecDepth 100000 in
set_option maxHeartbeats 8000000 in
theorem extentTotals_bad (e : Int × Int) (a : Option Addr) (n cap : Nat) (f : Nat → Int × Int) (h0 : I64 e.1) (h1 : I64 e.2) (hn : n ≤ 9223372036854775807) (w : World) (hs : ExtSlice w a n f) (hi : ∀ i, i < n → I64 (f i).1 ∧ I64 (f i).2)
    (hbad : okE e = false ∨ allB n f = false ∨ 300 < n) : Calls Try.prog 8 #[extV e, .slice a n cap] w (Gives (.bool true) w) := by
  have hr := rvalid_gives e h0 h1
  have ha := fun W hW => rall_gives a n cap f hn W hW hi
  have HI := Lib.hid hi
  have HS := Lib.hid hs
  clear h0 h1 hi hs
  cases hoe : okE e
  · rw [hoe] at hr
    clear ha hbad hoe
    go_enter Try.func8, Try.ntmps8
    go_wp2_with fail
    refine (HeldW.call (s := (HeldW.start w).push (extO e)) (hr _)).mono ?_
    rintro e _ ⟨rfl, s1, rfl⟩
    go_wp2_with fail
    refine (HeldW.call (s := s1) (alive_gives _)).mono ?_
    rintro e _ ⟨rfl, s2, rfl⟩
    go_wp2_with fail
    go_wp2
    go_ret
    exact ⟨rfl, s2.below⟩
  rw [hoe] at hr
  cases hoa : allB n f
  · rw [hoa] at ha
    clear hbad hoe hoa
    go_enter Try.func8, Try.ntmps8
    go_wp2_with fail
    refine (HeldW.call (s := (HeldW.start w).push (extO e)) (hr _)).mono ?_
    rintro e _ ⟨rfl, s1, rfl⟩
    go_wp2_with fail
    refine (HeldW.call (s := s1) (ha _ (HS.out.below s1.below))).mono ?_
    rintro e _ ⟨rfl, s2, rfl⟩
    go_wp2_with fail
    refine (HeldW.call (s := s2) (alive_gives _)).mono ?_
    rintro e _ ⟨rfl, s3, rfl⟩
    go_wp2_with fail
    go_wp2
    go_ret
    exact ⟨rfl, s3.below⟩
  · rw [hoa] at ha
    have hbig : 300 < n := by (rw [hoe, hoa] at hbad; simpa using hbad)
    clear hbad hoe hoa
    go_enter Try.func8, Try.ntmps8
    go_wp2_with fail
    refine (HeldW.call (s := (HeldW.start w).push (extO e)) (hr _)).mono ?_
    rintro e _ ⟨rfl, s1, rfl⟩
    go_wp2_with fail
    refine (HeldW.call (s := s1) (ha _ (HS.out.below s1.below))).mono ?_
    rintro e _ ⟨rfl, s2, rfl⟩
    go_wp2_with fail
    refine (HeldW.call (s := s2) (alive_gives _)).mono ?_
    rintro e _ ⟨rfl, s3, rfl⟩
    go_wp2_with fail
    go_wp2
    go_ret
    exact ⟨rfl, s3.below⟩

set_option maxRecDepth 100000 in
set_option maxHeartbeats 8000000 in
theorem extentTotals_good (e : Int × Int) (a : Option Addr) (n cap : Nat) (f : Nat → Int × Int) (h0 : I64 e.1) (h1 : I64 e.2) (w : World) (hs : ExtSlice w a n f) (hi : ∀ i, i < n → I64 (f i).1 ∧ I64 (f i).2)
    (hoe : okE e = true) (hoa : allB n f = true) (hn : n ≤ 300) : Calls Try.prog 8 #[extV e, .slice a n cap] w (Gives (.bool true) w) := by
  have hr := rvalid_gives e h0 h1
  have ha := fun W hW => rall_gives a n cap f (by omega) W hW hi
  have hall : ∀ i, i < n → okE (f i) = true := by unfold allB at hoa; simpa using hoa
  have ht := fun W hW => total_gives a n cap f (by omega) W hW hall
  have hrt := fun W hW => rtotal_gives a n cap f (by omega) W hW hall
  have hc := fun W hW => contains_gives e a n cap f hoe (by omega) W hW hall
  have hc1 := fun x hx b W hW => contains1_bool e x hoe hx b W hW
  obtain ⟨q, bb, hq⟩ := totV_form n f
  rw [hq] at ht hrt
  rw [hoe] at hr
  rw [hoa] at ha
  have HS := Lib.hid hs
  have HA := Lib.hid hall
  obtain ⟨e0, e1, e2⟩ := okE_iff.1 hoe
  clear h0 h1 hi hs hoe hoa hall hq
  go_enter Try.func8, Try.ntmps8
  go_wp2_with fail
  refine (HeldW.call (s := (HeldW.start w).push (extO e)) (hr _)).mono ?_
  rintro e _ ⟨rfl, s1, rfl⟩
  go_wp2_with fail
  refine (HeldW.call (s := s1) (ha _ (HS.out.below s1.below))).mono ?_
  rintro e _ ⟨rfl, s2, rfl⟩
  go_wp2_with fail
  refine (HeldW.call (s := s2) (ht _ (HS.out.below s2.below))).mono ?_
  rintro e _ ⟨rfl, s3, rfl⟩
  go_wp2_with fail
  refine (HeldW.call (s := s3) (hrt _ (HS.out.below s3.below))).mono ?_
  rintro e _ ⟨rfl, s4, rfl⟩
  go_wp2_with fail
  go_loopw [9, 39] (fun al i wr => ∃ k : Nat, k ≤ n ∧ i = .int .i64 k ∧ al = .bool (insB e k f) ∧ ∃ s : HeldW w [(w.heap.size, extO e)], wr = s.w) (fun _ i _ => n - (intOf i).toNat)
  case atStart => exact ⟨0, Nat.zero_le _, rfl, by rw [insB_yes (fun i hi => by omega)], s4, rfl⟩
  case round =>
    obtain ⟨k, hk, rfl, rfl, s, rfl⟩ := hrel
    clear s1 s2 s3 s4
    by_cases hlt : k < n
    · obtain ⟨b, o, rfl, hrow⟩ := HS.out (by omega)
      have hb := hrow.lt (by omega)
      obtain ⟨x0, x1⟩ := hrow.below s.below hb k hlt
      have hfk := HA.out k hlt
      have hc1' := hc1 (f k) hfk
      obtain ⟨f0, f1, f2⟩ := okE_iff.1 hfk
      have hsu := insB_succ e k f
      clear hrow hc1 hfk hc ht hrt hr ha
      generalize insB e k f = al at hsu ⊢
      generalize f k = x at x0 x1 hc1' f0 f1 f2 hsu
      obtain ⟨v0, v1, v2⟩ := held_ext2 s w.heap.size e (by simp)
      by_cases hin : insE e x
      · rw [decide_eq_true hin] at hc1' hsu
        have HSU := Lib.hid hsu
        obtain ⟨g1, g2⟩ := hin
        have d1 : decide (e.1 ≤ x.1) = true := by simp; omega
        have d2 : decide (x.1 + x.2 ≤ e.1 + e.2) = true := by simp; omega
        clear hsu
        cases al
        all_goals
          go_wp2_with fail
          refine (HeldW.call (s := (s.push (extO x)).push (extO x)) (hc1' _ _ (heap_new _ _ (by simp)))).mono ?_
          rintro e _ ⟨rfl, t1, rfl⟩
          clear v0 v1 v2 x0 x1
          go_wp2
          go_roundw
          case rel => exact ⟨k + 1, by omega, by go_num, by rw [HSU.out]; rfl, t1.sub (by simp), rfl⟩
          case measure => simp [intOf]; omega
      · rw [decide_eq_false hin] at hc1' hsu
        have HSU := Lib.hid hsu
        unfold insE at hin
        clear hsu
        by_cases g1 : e.1 ≤ x.1
        · have g2 : e.1 + e.2 < x.1 + x.2 := by omega
          have d1 : decide (e.1 ≤ x.1) = true := by simp; omega
          have d2 : decide (x.1 + x.2 ≤ e.1 + e.2) = false := by simp; omega
          clear hin
          cases al
          all_goals
            go_wp2_with fail
            refine (HeldW.call (s := (s.push (extO x)).push (extO x)) (hc1' _ _ (heap_new _ _ (by simp)))).mono ?_
            rintro e _ ⟨rfl, t1, rfl⟩
            clear v0 v1 v2 x0 x1
            go_wp2
            go_roundw
            case rel => exact ⟨k + 1, by omega, by go_num, by rw [HSU.out]; rfl, t1.sub (by simp), rfl⟩
            case measure => simp [intOf]; omega
        · have d1 : decide (e.1 ≤ x.1) = false := by simp; omega
          clear hin
          cases al
          all_goals
            go_wp2_with fail
            refine (HeldW.call (s := (s.push (extO x)).push (extO x)) (hc1' _ _ (heap_new _ _ (by simp)))).mono ?_
            rintro e _ ⟨rfl, t1, rfl⟩
            clear v0 v1 v2 x0 x1
            go_wp2
            go_roundw
            case rel => exact ⟨k + 1, by omega, by go_num, by rw [HSU.out]; rfl, t1.sub (by simp), rfl⟩
            case measure => simp [intOf]; omega
    · obtain rfl : k = n := by omega
      clear hc1 ht hrt hr ha
      go_wp2_with fail
      refine (HeldW.call (s := s) (alive_gives _)).mono ?_
      rintro e _ ⟨rfl, t1, rfl⟩
      obtain ⟨d0, d1, d2⟩ := held_ext2 t1 (w.heap.size) e (by simp)
      go_wp2_with fail
      clear d0 d1 d2
      refine (HeldW.call (s := t1) (hc _ (HS.out.below t1.below))).mono ?_
      rintro e _ ⟨rfl, t2, rfl⟩
      go_wp2_with fail
      go_wp2
      go_ret
      exact ⟨by simp, t2.below⟩

theorem extentTotals_walk (e : Int × Int) (a : Option Addr) (n cap : Nat) (f : Nat → Int × Int) (h0 : I64 e.1) (h1 : I64 e.2) (hn : n ≤ 9223372036854775807) (w : World) (hsl : ExtSlice w a n f) (hi : ∀ i, i < n → I64 (f i).1 ∧ I64 (f i).2) :
    Calls Try.prog 8 #[extV e, .slice a n cap] w (Gives (.bool true) w) := by
  by_cases h : okE e = true ∧ allB n f = true ∧ n ≤ 300
  · exact extentTotals_good e a n cap f h0 h1 w hsl hi h.1 h.2.1 h.2.2
  · refine extentTotals_bad e a n cap f h0 h1 hn w hsl hi ?_
    cases h1 : okE e <;> cases h2 : allB n f <;> simp_all
end Go.Proofs.Ytbhpipkaojlgfaa
