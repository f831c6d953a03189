/- The law ExtentSplits returns true for every extent and every size, and changes nothing that was there. -/
import Derived.Test.Ytbhpipkaojlgfaa01Pieces
namespace Go.Proofs.Ytbhpipkaojlgfaa
open Go.RowKit Go.Shelf Go.Proofs.Ytbhpipkaojlgfaa.Plain01

/-- The slice that Split returns. -/
def SplitV (off len size : Int) (v : Value) (w : World) : Prop := ∃ a cap, v = .slice a (nsp len size) cap ∧ ExtSlice w a (nsp len size) (piece off len size)

theorem splitPost_V {off len size : Int} {w : World} (e : Ending) (w' : World) (h : SplitPost off len size w e w') : ∃ v, e = .returned v ∧ SplitV off len size v w' ∧ Below w.heap.size w w' := by
  obtain ⟨v, he, hown, hb⟩ := h
  refine ⟨v, he, ?_, hb⟩
  by_cases hn : 0 < nsp len size
  · obtain ⟨g, cap, rfl, _, _, hrow⟩ := row_of_owns hown hn
    exact ⟨_, cap, rfl, fun _ => ⟨g, 0, rfl, hrow⟩⟩
  · have h0 : nsp len size = 0 := by omega
    rcases hown.2 with ⟨rfl, _⟩ | ⟨g, cap, _, rfl, _⟩
    · exact ⟨none, 0, by rw [h0], fun h => absurd h hn⟩
    · exact ⟨some ⟨g, 0, none⟩, cap, rfl, fun h => absurd h hn⟩

set_option maxRecDepth 100000 in
set_option maxHeartbeats 8000000 in
theorem extentSplits_bad (e : Int × Int) (size : Int) (h0 : I64 e.1) (h1 : I64 e.2) (he : okE e = false) (w : World) : Calls Try.prog 7 #[extV e, .int .i64 size] w (Gives (.bool true) w) := by
  have hr := rvalid_gives e h0 h1
  rw [he] at hr
  clear h0 h1 he
  go_enter Try.func7, Try.ntmps7
  go_wp2_with fail
  refine (HeldW.call (s := (HeldW.start w).push (extO e)) (hr _)).mono ?_
  rintro e _ ⟨rfl, s1, rfl⟩
  go_wp2_with fail
  refine (HeldW.call (s := s1) (alive_gives _)).mono ?_
  rintro e _ ⟨rfl, s2, rfl⟩
  go_wp2_with fail
  go_wp2
  go_ret
  exact ⟨rfl, s2.below⟩

set_option maxRecDepth 100000 in
set_option maxHeartbeats 8000000 in
theorem extentSplits_early (e : Int × Int) (size : Int) (h0 : I64 e.1) (h1 : I64 e.2) (hs : I64 size) (he : okE e = true) (c1 : 3000 < e.2) (c2 : 0 < size) (c3 : 3000 < e.2 / size) (c4 : e.2 / size < 2097152) (w : World) : Calls Try.prog 7 #[extV e, .int .i64 size] w (Gives (.bool true) w) := by
  have hr := rvalid_gives e h0 h1
  rw [he] at hr
  obtain ⟨a0, a1, a2⟩ := okE_iff.1 he
  unfold I64 at hs
  have d1 : decide (3000 < e.2) = true := by simp; omega
  have d2 : decide (0 < size) = true := by simp; omega
  have d3 : decide (3000 < e.2 / size) = true := by simp; omega
  have d4 : decide (e.2 / size < 2097152) = true := by simp; omega
  clear h0 h1 he
  go_enter Try.func7, Try.ntmps7
  go_wp2_with fail
  refine (HeldW.call (s := (HeldW.start w).push (extO e)) (hr _)).mono ?_
  rintro e _ ⟨rfl, s1, rfl⟩
  obtain ⟨d0, d1, d2⟩ := held_ext2 s1 (w.heap.size) e (by simp)
  go_wp2_with fail
  clear d0 d1 d2
  refine (HeldW.call (s := s1) (alive_gives _)).mono ?_
  rintro e _ ⟨rfl, s2, rfl⟩
  go_wp2_with fail
  go_wp2
  go_ret
  exact ⟨rfl, s2.below⟩

set_option maxRecDepth 100000 in
set_option maxHeartbeats 16000000 in
theorem extentSplits_main (e : Int × Int) (size : Int) (h0 : I64 e.1) (h1 : I64 e.2) (hs : I64 size) (he : okE e = true) (hc : ¬ (3000 < e.2 ∧ 0 < size ∧ 3000 < e.2 / size ∧ e.2 / size < 2097152)) (w : World) : Calls Try.prog 7 #[extV e, .int .i64 size] w (Gives (.bool true) w) := by
  have hr := rvalid_gives e h0 h1
  rw [he] at hr
  obtain ⟨a0, a1, a2⟩ := okE_iff.1 he
  have hsp := split_any e.1 e.2 size a0 a1 a2 hs.2
  have hrp := rpieces_gives e size he hs
  clear h0 h1
  have HE := Lib.hid he
  have HS := Lib.hid hs
  unfold I64 at hs
  clear he
  have hdec : (decide (3000 < e.2) = false) ∨ (decide (3000 < e.2) = true ∧ decide (0 < size) = false) ∨ (decide (3000 < e.2) = true ∧ decide (0 < size) = true ∧ 0 < size ∧ decide (3000 < e.2 / size) = false) ∨ (decide (3000 < e.2) = true ∧ decide (0 < size) = true ∧ 0 < size ∧ decide (3000 < e.2 / size) = true ∧ decide (e.2 / size < 2097152) = false) := by
    simp only [decide_eq_true_eq, decide_eq_false_iff_not]
    omega
  clear hc
  have hno : ∀ n, nsp e.2 size = n → (n = 0 ∨ (n : Int) = cnt e.2 size) := by
    rintro n rfl
    have := (cnt_bd e.2 size).1
    unfold nsp
    split <;> omega
  have hall : ∀ n, nsp e.2 size = n → ∀ i, i < n → okE (piece e.1 e.2 size i) = true ∧ insE e (piece e.1 e.2 size i) := fun n hn i hi => by
    have hd := hno n hn
    have hlt : (i : Int) < cnt e.2 size := by omega
    have hp := piece_facts (k := i) HE.out hlt
    exact ⟨hp.1, hp.2.1⟩
  obtain ⟨n, hn⟩ : ∃ n, nsp e.2 size = n := ⟨_, rfl⟩
  have HN := Lib.hid (hno n hn)
  have HA := Lib.hid (hall n hn)
  have HV := Lib.hid hn
  rw [hn] at hrp
  have hnb : n ≤ 1048576 := by
    subst hn; unfold nsp; split <;> omega
  clear hno hall hn
  rcases hdec with d1 | ⟨d1, d2⟩ | ⟨d1, d2, d2', d3⟩ | ⟨d1, d2, d2', d3, d4⟩
  all_goals
    go_enter Try.func7, Try.ntmps7
    go_wp2_with fail
    refine (HeldW.call (s := (HeldW.start w).push (extO e)) (hr _)).mono ?_
    rintro e _ ⟨rfl, s1, rfl⟩
    obtain ⟨v0, v1, v2⟩ := held_ext2 s1 (w.heap.size) e (by simp)
    go_wp2_with fail
    refine (HeldW.callQ (s := s1) (hsp _) splitPost_V).mono ?_
    rintro _ _ ⟨_, rfl, s2, rfl, ⟨a, cap, rfl, hsl⟩⟩
    rw [HV.out] at hsl ⊢
    have HSL := Lib.hid hsl
    clear hsl
    clear v0 v1 v2
    obtain ⟨v0, v1, v2⟩ := held_ext2 s2 w.heap.size e (by simp)
    go_wp2_with fail
    refine (HeldW.call (s := s2.rebase) (hrp _)).mono ?_
    rintro _ _ ⟨rfl, s3, rfl⟩
    clear v0 v1 v2
    obtain ⟨v0, v1, v2⟩ := held_ext2 s3 w.heap.size e (by simp)
    go_wp2_with fail
    go_loopw [6, 51] (fun t i wr => ∃ k : Nat, k ≤ n ∧ i = .int .i64 k ∧ t = .int .i64 (e.1 + sumL (piece e.1 e.2 size) k) ∧ ∃ s : HeldW s2.w [(w.heap.size, extO e)], wr = s.w) (fun _ i _ => n - (intOf i).toNat)
    case atStart => exact ⟨0, Nat.zero_le _, rfl, by simp [sumL], s3, rfl⟩
    case round =>
      obtain ⟨k, hk, rfl, rfl, s, rfl⟩ := hrel
      clear s3 v0 v1 v2 hsp hrp hr
      by_cases hlt : k < n
      · have hkc : (k : Int) < cnt e.2 size := by have := HN.out; omega
        have HK := Lib.hid hkc
        obtain ⟨p1, p2, p3, p4, p5⟩ := piece_facts HE.out hkc
        have hat := sum_lt (off := e.1) hkc
        have hpc := rpiece_gives e size k HE.out HS.out hkc
        obtain ⟨b, o, rfl, hrow⟩ := HSL.out (by omega)
        have hb := hrow.lt (by omega)
        obtain ⟨x0, x1⟩ := hrow.below s.below hb k hlt
        have hsu : sumL (piece e.1 e.2 size) (k + 1) = sumL (piece e.1 e.2 size) k + (piece e.1 e.2 size k).2 := rfl
        obtain ⟨q0, q1, q2⟩ := okE_iff.1 p1
        have heq : ((piece e.1 e.2 size k).1 == e.1 + sumL (piece e.1 e.2 size) k) = true := by rw [hat, p3]; simp
        have hne : ((piece e.1 e.2 size k).1 != e.1 + sumL (piece e.1 e.2 size) k) = false := by rw [hat, p3]; simp
        have hatb : 0 ≤ e.1 + sumL (piece e.1 e.2 size) k ∧ e.1 + sumL (piece e.1 e.2 size) k + (piece e.1 e.2 size k).2 ≤ 4611686018427387903 := by rw [hat, ← p3]; omega
        generalize piece e.1 e.2 size k = x at *
        have HSU0 := Lib.hid hsu
        clear hsu
        generalize sumL (piece e.1 e.2 size) k = su at *
        have HSU := Lib.hid HSU0.out
        clear HSU0
        obtain ⟨ab0, ab1⟩ := hatb
        have g1 : decide (x.2 < 1) = false := by simp; omega
        have g2 : decide (size < x.2) = false := by simp; omega
        clear hat p1 p2 p3 hrow hkc
        obtain ⟨v0, v1, v2⟩ := held_ext2 s w.heap.size e (by simp)
        go_wp2_with fail
        clear v0 v1 v2 x0 x1
        refine wp_region_class _ _ (by kernel_rfl) (by kernel_rfl) (s.push (extO x)).below (s.push (extO x)).blocks (fun hne => ?_)
        obtain ⟨f0, f1⟩ := held_extA (s.push (extO x)) (w.heap.size) e (by simp)
        obtain ⟨y0, y1⟩ := held_extA (s.push (extO x)) (s.w.heap.size) x (by simp)
        repeat (go_big_quiet_step ((go_at_call 21; exact HeldW.call (hpc _))))
        refine wpQuiet_nil ?_
        rintro _ ⟨s5, rfl⟩
        clear hne f0 f1 y0 y1
        obtain ⟨z0, z1, z2⟩ := held_ext2 s5 (s.w.heap.size) x (by simp)
        go_wp2_with fail
        go_roundw
        case rel => exact ⟨k + 1, by omega, by go_num, by rw [HSU.out]; go_num, s5.sub (by simp), rfl⟩
        case measure => simp [intOf]; omega
      · obtain rfl : k = n := by omega
        have hok : ∀ i, i < k → okE (piece e.1 e.2 size i) = true := fun i hi => (HA.out i hi).1
        have hq : (k = 0 ∧ sumL (piece e.1 e.2 size) k = 0) ∨ (0 < k ∧ sumL (piece e.1 e.2 size) k = e.2) := by
          cases k with
          | zero => exact .inl ⟨rfl, rfl⟩
          | succ m =>
            have := HN.out
            exact .inr ⟨by omega, sum_all (by omega)⟩
        have ht := fun W hW => total_gives a k cap (piece e.1 e.2 size) (by omega) W hW hok
        have hcn := fun W hW => contains_gives e a k cap (piece e.1 e.2 size) HE.out (by omega) W hW hok
        rw [totV_yes (by omega)] at ht
        rw [insB_yes (fun i hi => (HA.out i hi).2)] at hcn
        clear hok
        generalize sumL (piece e.1 e.2 size) k = q at *
        rcases hq with ⟨rfl, rfl⟩ | ⟨hk0, rfl⟩
        · go_wp2_with fail
          refine (HeldW.call (s := s) (ht _ (HSL.out.below s.below))).mono ?_
          rintro e _ ⟨rfl, t1, rfl⟩
          go_wp2_with fail
          refine (HeldW.call (s := t1) (alive_gives _)).mono ?_
          rintro e _ ⟨rfl, t2, rfl⟩
          obtain ⟨v0, v1, v2⟩ := held_ext2 t2 (w.heap.size) e (by simp)
          go_wp2_with fail
          clear v0 v1 v2
          refine (HeldW.call (s := t2) (hcn _ (HSL.out.below t2.below))).mono ?_
          rintro e _ ⟨rfl, t3, rfl⟩
          go_wp2_with fail
          go_wp2
          go_ret
          exact ⟨rfl, s2.below.trans (t3.below.mono s2.below.size)⟩
        · have z1 : ((k : Int) == 0) = false := by simp; omega
          have z2 : decide (0 < (k : Int)) = true := by simp; omega
          have hk0' : (0 : Int) < (k : Int) := by omega
          go_wp2_with fail
          refine (HeldW.call (s := s) (ht _ (HSL.out.below s.below))).mono ?_
          rintro e _ ⟨rfl, t1, rfl⟩
          go_wp2_with fail
          refine (HeldW.call (s := t1) (alive_gives _)).mono ?_
          rintro e _ ⟨rfl, t2, rfl⟩
          obtain ⟨v0, v1, v2⟩ := held_ext2 t2 (w.heap.size) e (by simp)
          go_wp2_with fail
          clear v0 v1 v2
          refine (HeldW.call (s := t2) (hcn _ (HSL.out.below t2.below))).mono ?_
          rintro e _ ⟨rfl, t3, rfl⟩
          obtain ⟨v0, v1, v2⟩ := held_ext2 t3 (w.heap.size) e (by simp)
          go_wp2_with fail
          go_wp2
          go_ret
          exact ⟨by simp, s2.below.trans (t3.below.mono s2.below.size)⟩

theorem extentSplits_walk (e : Int × Int) (size : Int) (h0 : I64 e.1) (h1 : I64 e.2) (hs : I64 size) (w : World) : Calls Try.prog 7 #[extV e, .int .i64 size] w (Gives (.bool true) w) := by
  cases he : okE e
  · exact extentSplits_bad e size h0 h1 he w
  by_cases hc : 3000 < e.2 ∧ 0 < size ∧ 3000 < e.2 / size ∧ e.2 / size < 2097152
  · exact extentSplits_early e size h0 h1 hs he hc.1 hc.2.1 hc.2.2.1 hc.2.2.2 w
  · exact extentSplits_main e size h0 h1 hs he hc w
end Go.Proofs.Ytbhpipkaojlgfaa
