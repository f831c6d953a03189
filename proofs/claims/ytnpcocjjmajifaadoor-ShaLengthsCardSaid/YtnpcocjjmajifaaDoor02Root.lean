/- root of the reference. -/
import Derived.Test.YtnpcocjjmajifaaDoor02Consts
namespace Go.Proofs.YtnpcocjjmajifaaDoor
open Go.RowKit
set_option linter.unusedVariables false

theorem least_any (m n : Int) (cubes : Bool) (h0 : 0 ≤ m) (h1 : m < 18446744073709551616) (w : World) : Calls Tryd.prog 42 #[.int .u64 m, .int .u64 n, .bool cubes] w (Gives (.bool (leastB m n cubes)) w) := by
  cases cubes
  · exact least_false m n h0 h1 w
  · exact least_true m n h0 h1 w
theorem bis_end (n : Int) (cubes : Bool) (f : Nat) (lo hi : Int) (h : ¬ 1 < hi - lo) : bis n cubes f lo hi = lo := by
  cases f with
  | zero => rfl
  | succ f => unfold bis; rw [if_neg h]
theorem bis_step (n : Int) (cubes : Bool) (f : Nat) (lo hi : Int) (h : 1 < hi - lo) (hp : hi - lo ≤ 2 ^ f) : ∃ g, f = g + 1 ∧ bis n cubes f lo hi = (if leastB ((lo + hi) / 2) n cubes then bis n cubes g ((lo + hi) / 2) hi else bis n cubes g lo ((lo + hi) / 2)) ∧
    (lo + hi) / 2 - lo ≤ 2 ^ g ∧ hi - (lo + hi) / 2 ≤ 2 ^ g := by
  cases f with
  | zero => simp at hp; omega
  | succ f =>
    rw [Int.pow_succ] at hp
    exact ⟨f, rfl, by rw [bis, if_pos h], by omega, by omega⟩

set_option maxRecDepth 100000 in
set_option maxHeartbeats 4000000 in
theorem root_false (n : Int) (w : World) : Calls Tryd.prog 38 #[.int .u64 n, .bool false] w (Gives (.int .u32 (rootI n false)) w) := by
  obtain ⟨R, hR⟩ : ∃ R, R = bis n false 36 0 68719476736 := ⟨_, rfl⟩
  rw [show rootI n false = IntKind.u32.wrap R by rw [hR]; rfl]
  go_enter Tryd.func38, Tryd.ntmps38
  go_wp2
  go_loopw [5, 6, 7] (fun l h _ wr => ∃ (lo hi : Int) (f : Nat), l = .int .u64 lo ∧ h = .int .u64 hi ∧ 0 ≤ lo ∧ lo < hi ∧ hi ≤ 68719476736 ∧ Hid (hi - lo ≤ 2 ^ f) ∧ Hid (R = bis n false f lo hi) ∧ ∃ s : HeldW w [], wr = s.w) (fun l h _ _ => (intOf h - intOf l).toNat)
  case atStart => exact ⟨0, 68719476736, 36, rfl, rfl, by omega, by omega, by omega, Lib.hid (by decide), hR, HeldW.start w, rfl⟩
  case round =>
    clear hR
    obtain ⟨lo, hi, f, rfl, rfl, h0, h1, h2, hf, hres, s, rfl⟩ := hrel
    have w1 : IntKind.u64.wrap (hi - lo) = hi - lo := by rw [IntKind.wrap_u64]; omega
    have w2 : IntKind.u64.wrap (lo + hi) = lo + hi := by rw [IntKind.wrap_u64]; omega
    by_cases hgt : 1 < hi - lo
    · have hd : decide (1 < hi - lo) = true := by simp; omega
      obtain ⟨g, hfg, hst, hb1, hb2⟩ := bis_step n false f lo hi hgt hf.out
      obtain ⟨m, hm⟩ : ∃ m, m = (lo + hi) / 2 := ⟨_, rfl⟩
      have HM := Lib.hid hm
      rw [← hm] at hst hb1 hb2
      have hlo : lo < m := by omega
      have hhi : m < hi := by omega
      have HST := Lib.hid (hres.out.trans hst)
      have HB1 := Lib.hid hb1
      have HB2 := Lib.hid hb2
      have hl := least_any m n false (by omega) (by omega)
      clear hst hb1 hb2 hm hf hres hfg
      go_wp2_with fail
      rw [show (lo + hi) / 2 = m from HM.out.symm]
      refine (HeldW.call (s := s) (hl s.w)).mono ?_
      rintro e _ ⟨rfl, s2, rfl⟩
      clear hl s
      generalize leastB m n false = b at HST
      cases b with
      | true =>
        go_wp2
        go_roundw
        case rel => exact ⟨m, hi, g, rfl, rfl, by omega, by omega, by omega, HB2, Lib.hid (HST.out.trans (if_pos trivial)), s2, rfl⟩
        case measure => simp [intOf]; omega
      | false =>
        go_wp2
        go_roundw
        case rel => exact ⟨lo, m, g, rfl, rfl, by omega, by omega, by omega, HB1, Lib.hid (HST.out.trans (if_neg (by decide))), s2, rfl⟩
        case measure => simp [intOf]; omega
    · have hd : decide (1 < hi - lo) = false := by simp; omega
      have HE := Lib.hid (hres.out.trans (bis_end n false f lo hi hgt))
      clear hres hf hgt
      go_wp2
      go_ret
      exact ⟨by rw [HE.out]; rfl, s.below⟩

set_option maxRecDepth 100000 in
set_option maxHeartbeats 4000000 in
theorem root_true (n : Int) (w : World) : Calls Tryd.prog 38 #[.int .u64 n, .bool true] w (Gives (.int .u32 (rootI n true)) w) := by
  obtain ⟨R, hR⟩ : ∃ R, R = bis n true 36 0 34359738368 := ⟨_, rfl⟩
  rw [show rootI n true = IntKind.u32.wrap R by rw [hR]; rfl]
  go_enter Tryd.func38, Tryd.ntmps38
  go_wp2
  go_loopw [5, 6, 7] (fun l h _ wr => ∃ (lo hi : Int) (f : Nat), l = .int .u64 lo ∧ h = .int .u64 hi ∧ 0 ≤ lo ∧ lo < hi ∧ hi ≤ 68719476736 ∧ Hid (hi - lo ≤ 2 ^ f) ∧ Hid (R = bis n true f lo hi) ∧ ∃ s : HeldW w [], wr = s.w) (fun l h _ _ => (intOf h - intOf l).toNat)
  case atStart => exact ⟨0, 34359738368, 36, rfl, rfl, by omega, by omega, by omega, Lib.hid (by decide), hR, HeldW.start w, rfl⟩
  case round =>
    clear hR
    obtain ⟨lo, hi, f, rfl, rfl, h0, h1, h2, hf, hres, s, rfl⟩ := hrel
    have w1 : IntKind.u64.wrap (hi - lo) = hi - lo := by rw [IntKind.wrap_u64]; omega
    have w2 : IntKind.u64.wrap (lo + hi) = lo + hi := by rw [IntKind.wrap_u64]; omega
    by_cases hgt : 1 < hi - lo
    · have hd : decide (1 < hi - lo) = true := by simp; omega
      obtain ⟨g, hfg, hst, hb1, hb2⟩ := bis_step n true f lo hi hgt hf.out
      obtain ⟨m, hm⟩ : ∃ m, m = (lo + hi) / 2 := ⟨_, rfl⟩
      have HM := Lib.hid hm
      rw [← hm] at hst hb1 hb2
      have hlo : lo < m := by omega
      have hhi : m < hi := by omega
      have HST := Lib.hid (hres.out.trans hst)
      have HB1 := Lib.hid hb1
      have HB2 := Lib.hid hb2
      have hl := least_any m n true (by omega) (by omega)
      clear hst hb1 hb2 hm hf hres hfg
      go_wp2_with fail
      rw [show (lo + hi) / 2 = m from HM.out.symm]
      refine (HeldW.call (s := s) (hl s.w)).mono ?_
      rintro e _ ⟨rfl, s2, rfl⟩
      clear hl s
      generalize leastB m n true = b at HST
      cases b with
      | true =>
        go_wp2
        go_roundw
        case rel => exact ⟨m, hi, g, rfl, rfl, by omega, by omega, by omega, HB2, Lib.hid (HST.out.trans (if_pos trivial)), s2, rfl⟩
        case measure => simp [intOf]; omega
      | false =>
        go_wp2
        go_roundw
        case rel => exact ⟨lo, m, g, rfl, rfl, by omega, by omega, by omega, HB1, Lib.hid (HST.out.trans (if_neg (by decide))), s2, rfl⟩
        case measure => simp [intOf]; omega
    · have hd : decide (1 < hi - lo) = false := by simp; omega
      have HE := Lib.hid (hres.out.trans (bis_end n true f lo hi hgt))
      clear hres hf hgt
      go_wp2
      go_ret
      exact ⟨by rw [HE.out]; rfl, s.below⟩

theorem root_any (n : Int) (cubes : Bool) (w : World) : Calls Tryd.prog 38 #[.int .u64 n, .bool cubes] w (Gives (.int .u32 (rootI n cubes)) w) := by
  cases cubes
  · exact root_false n w
  · exact root_true n w
end Go.Proofs.YtnpcocjjmajifaaDoor
