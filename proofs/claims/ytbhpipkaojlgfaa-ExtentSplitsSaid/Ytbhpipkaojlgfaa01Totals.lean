/- Total of package extent and of its reference, and All of the reference, at a slice of extents. -/
import Derived.Test.Ytbhpipkaojlgfaa01Contains
namespace Go.Proofs.Ytbhpipkaojlgfaa
open Go.RowKit Go.Shelf Go.Proofs.Ytbhpipkaojlgfaa.Plain01

/-- The sum of the lengths of the first k. -/
def sumL (f : Nat → Int × Int) : Nat → Int
  | 0 => 0
  | k + 1 => sumL f k + (f k).2
def totV (n : Nat) (f : Nat → Int × Int) : Value := if sumL f n ≤ 4611686018427387903 then .tuple #[.int .i64 (sumL f n), .bool true] else .tuple #[.int .i64 0, .bool false]

theorem sumL_mono {f : Nat → Int × Int} {n k : Nat} (hf : ∀ i, i < n → okE (f i) = true) (hk : k ≤ n) : 0 ≤ sumL f k ∧ sumL f k ≤ sumL f n := by
  induction n with
  | zero => obtain rfl : k = 0 := by omega
            exact ⟨by simp [sumL], by omega⟩
  | succ n ih =>
    have hn := (okE_iff.1 (hf n (by omega))).2.1
    by_cases h : k ≤ n
    · have := ih (fun i hi => hf i (by omega)) h
      simp only [sumL]; omega
    · obtain rfl : k = n + 1 := by omega
      have := ih (fun i hi => hf i (by omega))
      have hk' : ∀ j, j ≤ n → 0 ≤ sumL f j := by
        intro j hj
        induction j with
        | zero => simp [sumL]
        | succ j ihj => have := (okE_iff.1 (hf j (by omega))).2.1; have := ihj (by omega); simp only [sumL]; omega
      have := hk' n (by omega)
      simp only [sumL]; omega
theorem totV_no {n k : Nat} {f : Nat → Int × Int} (hf : ∀ i, i < n → okE (f i) = true) (hk : k < n) (h : 4611686018427387903 < sumL f k + (f k).2) : totV n f = .tuple #[.int .i64 0, .bool false] := by
  have := (sumL_mono hf (k := k + 1) (by omega)).2
  simp only [sumL] at this
  unfold totV; rw [if_neg (by omega)]
theorem totV_yes {n : Nat} {f : Nat → Int × Int} (h : sumL f n ≤ 4611686018427387903) : totV n f = .tuple #[.int .i64 (sumL f n), .bool true] := by unfold totV; rw [if_pos h]

set_option maxRecDepth 100000 in
set_option maxHeartbeats 4000000 in
theorem total_gives (a : Option Addr) (n cap : Nat) (f : Nat → Int × Int) (hn : n ≤ 9223372036854775807) (w : World) (hs : ExtSlice w a n f) (hf : ∀ i, i < n → okE (f i) = true) :
    Calls Try.prog 22 #[.slice a n cap] w (Gives (totV n f) w) := by
  have HF := Lib.hid hf
  clear hf
  go_enter Try.func22, Try.ntmps22
  go_wp2
  go_loopw [4, 9] (fun t i wr => ∃ k : Nat, k ≤ n ∧ i = .int .i64 k ∧ t = .int .i64 (sumL f k) ∧ sumL f k ≤ 4611686018427387903 ∧ Below w.heap.size w wr) (fun _ i _ => n - (intOf i).toNat)
  case atStart => exact ⟨0, Nat.zero_le _, rfl, rfl, by simp [sumL], Below.refl _ _⟩
  case round =>
    obtain ⟨k, hk, rfl, rfl, hle, hB⟩ := hrel
    have hp := (sumL_mono HF.out hk).1
    by_cases hlt : k < n
    · obtain ⟨b, o, rfl, hr⟩ := hs (by omega)
      have hb := hr.lt (by omega)
      obtain ⟨x0, x1⟩ := hr.below hB hb k hlt
      obtain ⟨f0, f1, f2⟩ := okE_iff.1 (HF.out k hlt)
      have hsu : sumL f (k + 1) = sumL f k + (f k).2 := rfl
      have HS := Lib.hid hsu
      clear hsu hs hr
      by_cases hc : 4611686018427387903 < sumL f k + (f k).2
      · have HT := Lib.hid (totV_no HF.out hlt hc)
        have hgt : 4611686018427387903 - sumL f k < (f k).2 := by omega
        clear hc
        go_wp2
        go_ret2
        exact ⟨by rw [HT.out]; rfl, hB.alloc hB.size _⟩
      · have hgt : (f k).2 ≤ 4611686018427387903 - sumL f k := by omega
        go_wp2
        go_roundw
        case rel => exact ⟨k + 1, by omega, by go_num, by rw [HS.out], by rw [HS.out]; omega, hB.alloc hB.size _⟩
        case measure => simp [intOf]; omega
    · obtain rfl : k = n := by omega
      have HT := Lib.hid (totV_yes hle)
      clear hs
      go_wp2
      go_ret2
      exact ⟨by rw [HT.out]; rfl, hB⟩

set_option maxRecDepth 100000 in
set_option maxHeartbeats 4000000 in
theorem rtotal_gives (a : Option Addr) (n cap : Nat) (f : Nat → Int × Int) (hn : n ≤ 9223372036854775807) (w : World) (hs : ExtSlice w a n f) (hf : ∀ i, i < n → okE (f i) = true) :
    Calls Try.prog 24 #[.slice a n cap] w (Gives (totV n f) w) := by
  have HF := Lib.hid hf
  clear hf
  go_enter Try.func24, Try.ntmps24
  go_wp2
  go_loopw [4, 5] (fun t i wr => ∃ k : Nat, k ≤ n ∧ i = .int .i64 k ∧ t = .int .i64 (sumL f k) ∧ sumL f k ≤ 4611686018427387903 ∧ Below w.heap.size w wr) (fun _ i _ => n - (intOf i).toNat)
  case atStart => exact ⟨0, Nat.zero_le _, rfl, rfl, by simp [sumL], Below.refl _ _⟩
  case round =>
    obtain ⟨k, hk, rfl, rfl, hle, hB⟩ := hrel
    have hp := (sumL_mono HF.out hk).1
    by_cases hlt : k < n
    · obtain ⟨b, o, rfl, hr⟩ := hs (by omega)
      have hb := hr.lt (by omega)
      obtain ⟨x0, x1⟩ := hr.below hB hb k hlt
      obtain ⟨f0, f1, f2⟩ := okE_iff.1 (HF.out k hlt)
      have hsu : sumL f (k + 1) = sumL f k + (f k).2 := rfl
      have HS := Lib.hid hsu
      clear hsu hs hr
      by_cases hc : 4611686018427387903 < sumL f k + (f k).2
      · have HT := Lib.hid (totV_no HF.out hlt hc)
        have hgt : 4611686018427387903 - sumL f k < (f k).2 := by omega
        clear hc
        go_wp2
        go_quiet ((go_at_call 18; exact Calls.quiet_of_same (rmax_any _)))
        go_wp2
        go_ret2
        exact ⟨by rw [HT.out]; rfl, below_drewN hB _⟩
      · have hgt : (f k).2 ≤ 4611686018427387903 - sumL f k := by omega
        go_wp2
        go_quiet ((go_at_call 18; exact Calls.quiet_of_same (rmax_any _)))
        go_wp2
        go_roundw
        case rel => exact ⟨k + 1, by omega, by go_num, by rw [HS.out], by rw [HS.out]; omega, below_drewN hB _⟩
        case measure => simp [intOf]; omega
    · obtain rfl : k = n := by omega
      have HT := Lib.hid (totV_yes hle)
      clear hs
      go_wp2
      go_ret2
      exact ⟨by rw [HT.out]; rfl, hB⟩

/-- All are valid. -/
def allB (n : Nat) (f : Nat → Int × Int) : Bool := decide (∀ i, i < n → okE (f i) = true)
theorem allB_no {n k : Nat} {f : Nat → Int × Int} (hk : k < n) (h : okE (f k) = false) : allB n f = false := by
  unfold allB; simp only [decide_eq_false_iff_not]; intro h'; rw [h' k hk] at h; cases h
theorem allB_yes {n : Nat} {f : Nat → Int × Int} (h : ∀ i, i < n → okE (f i) = true) : allB n f = true := by unfold allB; simp only [decide_eq_true_eq]; exact h

set_option maxRecDepth 100000 in
set_option maxHeartbeats 4000000 in
theorem rall_gives (a : Option Addr) (n cap : Nat) (f : Nat → Int × Int) (hn : n ≤ 9223372036854775807) (w : World) (hs : ExtSlice w a n f) (hi : ∀ i, i < n → I64 (f i).1 ∧ I64 (f i).2) :
    Calls Try.prog 23 #[.slice a n cap] w (Gives (.bool (allB n f)) w) := by
  have HI := Lib.hid hi
  clear hi
  go_enter Try.func23, Try.ntmps23
  go_wp2
  go_loopw [3] (fun i wr => ∃ k : Nat, k ≤ n ∧ i = .int .i64 k ∧ (∀ j, j < k → okE (f j) = true) ∧ Below w.heap.size w wr) (fun i _ => n - (intOf i).toNat)
  case atStart => exact ⟨0, Nat.zero_le _, rfl, fun j hj => by omega, Below.refl _ _⟩
  case round =>
    obtain ⟨k, hk, rfl, hin, hB⟩ := hrel
    have HIN := Lib.hid hin
    clear hin
    by_cases hlt : k < n
    · obtain ⟨b, o, rfl, hr⟩ := hs (by omega)
      have hb := hr.lt (by omega)
      obtain ⟨x0, x1⟩ := hr.below hB hb k hlt
      have hv := rvalid_gives (f k) (HI.out k hlt).1 (HI.out k hlt).2
      clear hs hr
      cases hc : okE (f k)
      · have HN := Lib.hid (allB_no hlt hc)
        rw [hc] at hv
        clear hc
        go_wp2_with fail
        refine (hv _).mono ?_
        rintro e w2 ⟨rfl, hb2⟩
        have HB := Lib.hid (hB.trans (hb2.mono hB.size))
        clear hb2 hB
        go_wp2
        go_ret
        exact ⟨by rw [HN.out]; rfl, HB.out⟩
      · have HC := Lib.hid hc
        rw [hc] at hv
        clear hc
        go_wp2_with fail
        refine (hv _).mono ?_
        rintro e w2 ⟨rfl, hb2⟩
        have HB := Lib.hid (hB.trans (hb2.mono hB.size))
        clear hb2 hB
        go_wp2
        go_roundw
        case rel => exact ⟨k + 1, by omega, by go_num, all_succ HIN.out HC.out, HB.out⟩
        case measure => simp [intOf]; omega
    · obtain rfl : k = n := by omega
      have HN := Lib.hid (allB_yes HIN.out)
      clear hs
      go_wp2
      go_ret
      exact ⟨by rw [HN.out]; rfl, hB⟩
end Go.Proofs.Ytbhpipkaojlgfaa
