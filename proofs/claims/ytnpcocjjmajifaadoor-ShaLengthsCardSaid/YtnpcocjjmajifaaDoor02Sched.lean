/- The words of a block: sha's schedule. -/
import Derived.StillTailTactics
import Derived.Test.YtnpcocjjmajifaaDoor02Rot
import Derived.Great.BuildSlice
import Derived.Test.YtnpcocjjmajifaaDoor02Base
import Derived.Test.YtnpcocjjmajifaaDoor02Plain
namespace Go.Proofs.YtnpcocjjmajifaaDoor
open Go.RowKit
set_option linter.unusedVariables false

/-- A word out of four earlier ones. -/
def word1 (l : List Int) (k : Nat) : Int :=
  (bits .xor .u32 (bits .xor .u32 (ror (l[k - 2]?.getD 0) 17) (ror (l[k - 2]?.getD 0) 19)) (l[k - 2]?.getD 0 / 1024) + l[k - 7]?.getD 0 +
    bits .xor .u32 (bits .xor .u32 (ror (l[k - 15]?.getD 0) 7) (ror (l[k - 15]?.getD 0) 18)) (l[k - 15]?.getD 0 / 8) + l[k - 16]?.getD 0) % 4294967296
/-- The first k words. -/
def wl (f : Nat → Int) : Nat → List Int
  | 0 => []
  | k + 1 => wl f k ++ [if k < 16 then word0 f k else word1 (wl f k) k]
theorem wl_length (f : Nat → Int) (k : Nat) : (wl f k).length = k := by
  induction k with
  | zero => rfl
  | succ k ih => rw [wl, List.length_append, ih]; rfl
theorem wl_low (f : Nat → Int) {k : Nat} (h : k < 16) : wl f (k + 1) = wl f k ++ [word0 f k] := by rw [wl, if_pos h]
theorem wl_high (f : Nat → Int) {k : Nat} (h : 16 ≤ k) : wl f (k + 1) = wl f k ++ [word1 (wl f k) k] := by rw [wl, if_neg (by omega)]
/-- The block of the words while they come. -/
abbrev rowO (l : List Int) : Obj := .cells (rowW l) 69 (0, 0)
abbrev bsW (w : World) (l : List Int) : List (Nat × Obj) := [(w.heap.size + 1, rowO l), (w.heap.size, rowO [])]

theorem schedStart (w : World) : ∃ s : HeldW w (bsW w []), s.w = (w.alloc (rowO [])).alloc (rowO []) :=
  ⟨⟨_, ((Below.refl _ w).alloc (Nat.le_refl _) _).alloc (by simp) _, List.forall_mem_cons.2 ⟨heap_new _ _ (by simp), all1 (heap_old (heap_new _ _ rfl) _)⟩⟩, rfl⟩

set_option maxRecDepth 100000 in
set_option maxHeartbeats 1000000 in
theorem sched_any (b o cap : Nat) (f : Nat → Int) (hcap : 64 ≤ cap) (hcap2 : cap ≤ 9223372036854775807) (w : World) (hf : ∀ i, i < 64 → w.cell? ⟨b, o + i, none⟩ = some (.int .u8 (f i))) :
    Calls Tryd.prog 39 #[.slice (some ⟨b, o, none⟩) 64 cap] w (Gives (.agg (rowW (wl f 64))) w) := by
  have HF := Lib.hid hf
  clear hf
  go_enter Tryd.func39, Tryd.ntmps39
  go_wp2
  go_loopw [11] (fun i wr => ∃ k : Nat, k ≤ 16 ∧ i = .int .i64 k ∧ ∃ s : HeldW w (bsW w (wl f k)), wr = s.w) (fun i _ => 16 - (intOf i).toNat)
  case atStart =>
    obtain ⟨s, hs⟩ := schedStart w
    exact ⟨0, by omega, rfl, s, by rw [hs]; rfl⟩
  case round =>
    obtain ⟨k, hk, rfl, s, rfl⟩ := hrel
    by_cases hlt : k < 16
    · have hc : ∀ j, j < 4 → ∀ s : HeldW w (bsW w (wl f k)), s.w.cell? ⟨b, o + (4 * k) + j, none⟩ = some (.int .u8 (f (4 * k + j))) := fun j hj s => by
        have h := HF.out (4 * k + j) (by omega)
        rw [show o + (4 * k + j) = o + (4 * k) + j by omega] at h
        rw [← h]
        exact s.below.cell (p := ⟨b, _, none⟩) (World.block_lt_of_cell? w _ h)
      have hc0 := hc 0 (by omega)
      rw [Nat.add_zero, Nat.add_zero] at hc0
      have hc1 := hc 1 (by omega)
      have hc2 := hc 2 (by omega)
      have hc3 := hc 3 (by omega)
      clear hc
      go_wp2
      refine wp_region_class_tail 24 _ _ (by kernel_rfl) (by kernel_rfl) s.below s.blocks (fun hne => ?_)
      simp only [List.take_succ_cons, List.take_zero, List.drop_succ_cons, List.drop_zero]
      repeat (go_big_quiet_step (fail))
      refine wpQuiet_nil ?_
      rintro _ ⟨s2, rfl⟩
      have hst : s2.w.heap[w.heap.size + 1]? = some (rowO (wl f k)) := s2.blocks (_, _) List.mem_cons_self
      have hcell : s2.w.cell? ⟨w.heap.size + 1, k, none⟩ = some (.int .u32 0) := by rw [cell_of hst, rowW_zero _ _ (Nat.le_of_eq (wl_length f k)) (by omega)]
      have hfree := free_of hst k
      have HK : (rowW (wl f k)).setIfInBounds k (.int .u32 (word0 f k)) = rowW (wl f (k + 1)) := by
        have := rowW_set (wl f k) (word0 f k) (by rw [wl_length]; omega)
        rw [wl_length] at this
        rw [this, wl_low f hlt]
      have HKH := Lib.hid HK
      clear hne hc0 hc1 hc2 hc3 hst HK s
      go_wp2
      go_roundw
      case rel => exact ⟨k + 1, by omega, by go_num, s2.store (by simp) (by simp) HKH.out, rfl⟩
      case measure => simp [intOf]; omega
    · obtain rfl : k = 16 := by omega
      go_wp2
      rw [show ((16 : Nat) : Int) = 16 from rfl]
      go_loopw [6, 7, 8, 9, 10] (fun i _ _ _ _ wr => ∃ k : Nat, 16 ≤ k ∧ k ≤ 64 ∧ i = .int .i64 k ∧ ∃ s : HeldW w (bsW w (wl f k)), wr = s.w) (fun i _ _ _ _ _ => 64 - (intOf i).toNat)
      case atStart => exact ⟨16, by omega, by omega, rfl, s, rfl⟩
      case round =>
        clear s
        obtain ⟨k, hk0, hk, rfl, s, rfl⟩ := hrel
        by_cases hlt : k < 64
        · have hc : ∀ j, j < k → ∀ s : HeldW w (bsW w (wl f k)), s.w.cell? ⟨w.heap.size + 1, j, none⟩ = some (.int .u32 ((wl f k).getD j 0)) := fun j hj s => by
            rw [cell_of (s.blocks (_, _) List.mem_cons_self), rowW_get _ _ (by rw [wl_length]; exact hj)]
          have hc2 := hc (k - 2) (by omega)
          have hc15 := hc (k - 15) (by omega)
          have hc7 := hc (k - 7) (by omega)
          have hc16 := hc (k - 16) (by omega)
          clear hc
          go_wp2
          refine wp_region_class _ _ (by kernel_rfl) (by kernel_rfl) s.below s.blocks (fun hne => ?_)
          repeat (go_big_quiet_step (fail))
          refine wpQuiet_nil ?_
          rintro _ ⟨s2, rfl⟩
          clear s hne
          go_wp2_with (go_at_call 40; refine (right_any _ _ (by unfold Amt; simp) _).mono ?_; rintro e w' ⟨rfl, rfl⟩)
          refine wp_region_class_tail 15 _ _ (by kernel_rfl) (by kernel_rfl) s2.below s2.blocks (fun hne => ?_)
          simp only [List.take_succ_cons, List.take_zero, List.drop_succ_cons, List.drop_zero]
          clear s2
          repeat (go_big_quiet_step (fail))
          refine wpQuiet_nil ?_
          rintro _ ⟨s3, rfl⟩
          have hst : s3.w.heap[w.heap.size + 1]? = some (rowO (wl f k)) := s3.blocks (_, _) List.mem_cons_self
          have hcell : s3.w.cell? ⟨w.heap.size + 1, k, none⟩ = some (.int .u32 0) := by rw [cell_of hst, rowW_zero _ _ (Nat.le_of_eq (wl_length f k)) (by omega)]
          have hfree := free_of hst k
          have HK : (rowW (wl f k)).setIfInBounds k (.int .u32 (word1 (wl f k) k)) = rowW (wl f (k + 1)) := by
            have := rowW_set (wl f k) (word1 (wl f k) k) (by rw [wl_length]; omega)
            rw [wl_length] at this
            rw [this, wl_high f hk0]
          have HKH := Lib.hid HK
          clear hne hc2 hc15 hc7 hc16 hst HK
          go_wp2
          go_roundw
          case rel => exact ⟨k + 1, by omega, by omega, by go_num, s3.store (by simp) (by simp) HKH.out, rfl⟩
          case measure => simp [intOf]; omega
        · obtain rfl : k = 64 := by omega
          have hst : s.w.heap[w.heap.size + 1]? = some (rowO (wl f 64)) := s.blocks (_, _) List.mem_cons_self
          have hrs : s.w.heap[w.heap.size]? = some (rowO []) := s.blocks (_, _) (List.mem_cons_of_mem _ List.mem_cons_self)
          have hsz : (rowW (wl f 64)).size = 64 := rowW_size _ (Nat.le_of_eq (wl_length f 64))
          have hinf : (Tryd.prog.info? 69).map (·.size) = some (rowW (wl f 64)).size := by rw [hsz]; kernel_rfl
          have hsr : (rowW []).size = (rowW (wl f 64)).size := by rw [hsz]; rfl
          have hone := rowW_one (wl f 64)
          go_wp2_with (first
            | (refine wpList_load_row rfl 69 (.tmp 3) rfl (w.heap.size + 1) rfl 69 _ (0, 0) _ hst Tryd.underlying69 rfl hinf ?_)
            | (refine wpList_store_rowTo rfl 69 (.tmp 2) (.tmp 89) rfl rfl w.heap.size (rowW (wl f 64)) rfl rfl 69 (rowW []) hrs hinf hsr hone ?_))
          refine bodyPost_ret (v := .agg (rowW (wl f 64))) ?_ rfl ⟨rfl, below_setRow s.below (Nat.le_refl _) _⟩
          exact results_cell_row Tryd.results39 _ _ w.heap.size 69 _ (0, 0) _ rfl (setRow_heap _ _ _ _ _ _ hrs) Tryd.underlying69 rfl hinf
end Go.Proofs.YtnpcocjjmajifaaDoor
