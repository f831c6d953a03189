/- schedule of the reference. -/
import Derived.Test.YtnpcocjjmajifaaDoor02Sched
import Derived.Test.YtnpcocjjmajifaaDoor02Table
namespace Go.Proofs.YtnpcocjjmajifaaDoor
open Go.RowKit
set_option linter.unusedVariables false

theorem rot_gives (x n : Int) (hn : Amt n) (w : World) : Calls Tryd.prog 36 #[.int .u32 x, .int .i64 n] w (Gives (.int .u32 (ror x n)) w) := gives_drawn (rotate_any x n hn w)

set_option maxRecDepth 100000 in
set_option maxHeartbeats 8000000 in
theorem rsched_any (b o cap : Nat) (f : Nat → Int) (hcap : 64 ≤ cap) (hcap2 : cap ≤ 9223372036854775807) (w : World) (hf : ∀ i, i < 64 → w.cell? ⟨b, o + i, none⟩ = some (.int .u8 (f i))) :
    Calls Tryd.prog 32 #[.slice (some ⟨b, o, none⟩) 64 cap] w (MakesR 48 ((wl f 64).map (Value.int .u32)) w) := by
  obtain ⟨E⟩ := elem_of (P := Tryd.prog) (t := 44) (e := 48) (z := .int .u32 0) (n := 4) Tryd.underlying44 (by kernel_rfl) rfl (by omega)
  have HF := Lib.hid hf
  clear hf
  go_enter Tryd.func32, Tryd.ntmps32
  go_wp2
  go_loopw [3, 4] (fun out i wr => ∃ k : Nat, k ≤ 16 ∧ i = .int .i64 k ∧ ∃ s : OwnW w 48 out ((wl f k).map (Value.int .u32)), wr = s.w) (fun _ i _ => 16 - (intOf i).toNat)
  case atStart => exact ⟨0, by omega, rfl, ⟨w, Below.refl _ _, World.ownsRow_nil w w.heap.size 48 1⟩, rfl⟩
  case round =>
    obtain ⟨k, hk, rfl, s, rfl⟩ := hrel
    by_cases hlt : k < 16
    · skip
      have hc : ∀ j, j < 4 → ∀ s : OwnW w 48 u3 ((wl f k).map (Value.int .u32)), s.w.cell? ⟨b, o + (4 * k + j), none⟩ = some (.int .u8 (f (4 * k + j))) := fun j hj s => by
        have h := HF.out (4 * k + j) (by omega)
        rw [← h]
        exact s.below.cell (p := ⟨b, _, none⟩) (World.block_lt_of_cell? w _ h)
      have hc0 := hc 0 (by omega)
      rw [Nat.add_zero] at hc0
      have hc1 := hc 1 (by omega)
      have hc2 := hc 2 (by omega)
      have hc3 := hc 3 (by omega)
      clear hc
      have HLN := Lib.hid (show ((wl f k).map (Value.int .u32)).length + ([Value.int .u32 (word0 f k)] : List Value).length ≤ 1099511627776 by rw [List.length_map, wl_length]; simp; omega)
      go_wp2
      refine wp_region_O_tail1 34 s (.tmp 3) rfl rfl (by kernel_rfl) (by kernel_rfl) (fun _ _ _ h => h) (fun hne => ?_)
      simp only [List.take_succ_cons, List.take_zero, List.drop_succ_cons, List.drop_zero]
      clear s
      repeat (go_big_quiet_step (fail))
      refine wpQuiet_nil ?_
      rintro _ ⟨s, rfl⟩
      clear hne hc0 hc1 hc2 hc3
      go_wp2_with (refine wpList_append_O E s [.int .u32 (word0 f k)] _ rfl (.tmp 14) (.tmp 48) rfl rfl rfl 1 1 rfl rfl (by simp [Value.oneCell']) HLN.out ?_; intro v' s3)
      go_roundw
      case rel => exact ⟨k + 1, by omega, by go_num, s3.as (by rw [wl_low f hlt, List.map_append]; rfl), rfl⟩
      case measure => simp [intOf]; omega
    · obtain rfl : k = 16 := by omega
      go_wp2
      rw [show ((16 : Nat) : Int) = 16 from rfl]
      go_loopw [3, 5, 6, 7, 8, 9] (fun out i _ _ _ _ wr => ∃ k : Nat, 16 ≤ k ∧ k ≤ 64 ∧ i = .int .i64 k ∧ ∃ s : OwnW w 48 out ((wl f k).map (Value.int .u32)), wr = s.w) (fun _ i _ _ _ _ _ => 64 - (intOf i).toNat)
      case atStart => exact ⟨16, by omega, by omega, rfl, s, rfl⟩
      case round =>
        clear s
        obtain ⟨k, hk0, hk, rfl, s, rfl⟩ := hrel
        by_cases hlt : k < 64
        · obtain ⟨g, cap3, rfl, hg, hcp, hcm, hxx⟩ := s.row k (by rw [List.length_map, wl_length]) (by omega)
          have hc : ∀ j, j < k → ∀ s : OwnW w 48 (.slice (some ⟨g, 0, none⟩) k cap3) ((wl f k).map (Value.int .u32)), s.w.cell? ⟨g, j, none⟩ = some (.int .u32 ((wl f k)[j]?.getD 0)) := fun j hj s => by
            refine s.all j _ ?_
            rw [List.getElem?_map, List.getElem?_eq_getElem (by rw [wl_length]; exact hj)]; rfl
          have hs2 := hc (k - 2) (by omega) s
          have hs15 := hc (k - 15) (by omega) s
          have hc7 := hc (k - 7) (by omega)
          have hc16 := hc (k - 16) (by omega)
          have HLN := Lib.hid (show ((wl f k).map (Value.int .u32)).length + ([Value.int .u32 (word1 (wl f k) k)] : List Value).length ≤ 1099511627776 by rw [List.length_map, wl_length]; simp; omega)
          have hcx : cap3 ≤ 9223372036854775807 := by unfold maxLen at hcm; omega
          clear hc hcm hxx
          obtain ⟨s0, hs0⟩ : ∃ s0, s0 = s := ⟨_, rfl⟩
          rw [← hs0] at hs2 hs15 ⊢
          clear hs0 s
          go_wp2_with fail
          refine (OwnW.call (s := s0) (rot_gives _ _ (by unfold Amt; simp) s0.w)).mono ?_
          rintro e _ ⟨rfl, s1, rfl⟩
          clear hs2 hs15 s0
          go_wp2_with fail
          refine (OwnW.call (s := s1) (rot_gives _ _ (by unfold Amt; simp) s1.w)).mono ?_
          rintro e _ ⟨rfl, s2, rfl⟩
          clear s1
          go_wp2_with fail
          refine (OwnW.call (s := s2) (rot_gives _ _ (by unfold Amt; simp) s2.w)).mono ?_
          rintro e _ ⟨rfl, s3, rfl⟩
          clear s2
          go_wp2_with fail
          refine (OwnW.call (s := s3) (rot_gives _ _ (by unfold Amt; simp) s3.w)).mono ?_
          rintro e _ ⟨rfl, s4, rfl⟩
          clear s3
          go_wp2
          refine wp_region_O_tail1 16 s4 (.tmp 3) rfl rfl (by kernel_rfl) (by kernel_rfl) (fun _ _ _ h => h) (fun hne => ?_)
          simp only [List.take_succ_cons, List.take_zero, List.drop_succ_cons, List.drop_zero]
          clear s4
          repeat (go_big_quiet_step (fail))
          refine wpQuiet_nil ?_
          rintro _ ⟨s, rfl⟩
          clear hne hc7 hc16
          go_wp2_with (refine wpList_append_O E s [.int .u32 (word1 (wl f k) k)] _ rfl (.tmp 80) (.tmp 96) rfl rfl rfl 1 1 rfl rfl (by simp [Value.oneCell']) HLN.out ?_; intro v' s3)
          go_roundw
          case rel => exact ⟨k + 1, by omega, by omega, by go_num, s3.as (by rw [wl_high f hk0, List.map_append]; rfl), rfl⟩
          case measure => simp [intOf]; omega
        · obtain rfl : k = 64 := by omega
          go_wp2
          go_ret
          exact ⟨_, rfl, s, rfl⟩
end Go.Proofs.YtnpcocjjmajifaaDoor
