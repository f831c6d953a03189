/- digest of package sha: the bytes of the words of a state. -/
import Derived.Test.YtnpcocjjmajifaaDoor02Pad
namespace Go.Proofs.YtnpcocjjmajifaaDoor
open Go.RowKit
set_option linter.unusedVariables false

/-- Byte j of a digest. -/
def digB (v : V8) (j : Nat) : Int := v.at (j / 4) / 2 ^ (24 - 8 * (j % 4)) % 256
/-- The first k bytes of a digest. -/
def digL (v : V8) (k : Nat) : List Int := (List.range k).map (digB v)
theorem digL_length (v : V8) (k : Nat) : (digL v k).length = k := by simp [digL]
/-- The cells of a digest while they come. -/
def digK (v : V8) (k : Nat) : List Int := digL v k ++ List.replicate (32 - k) 0
theorem digK_length (v : V8) {k : Nat} (h : k ≤ 32) : (digK v k).length = 32 := by unfold digK; rw [List.length_append, digL_length, List.length_replicate]; omega
theorem digK_set (v : V8) {k : Nat} (h : k < 32) : (digK v k).set k (digB v k) = digK v (k + 1) := by
  unfold digK
  obtain ⟨n, hn⟩ : ∃ n, 32 - k = n + 1 := ⟨31 - k, by omega⟩
  rw [hn, show 32 - (k + 1) = n by omega, List.set_append_right _ _ (by rw [digL_length]; omega), digL_length, Nat.sub_self, List.replicate_succ, List.set_cons_zero]
  unfold digL
  rw [List.range_succ, List.map_append]
  simp
theorem digK_end (v : V8) : digK v 32 = digL v 32 := by unfold digK; simp

theorem digB_at (v : V8) (k : Nat) {j : Nat} (hj : j < 4) : v.at k / 2 ^ (24 - 8 * j) % 256 = digB v (4 * k + j) := by
  unfold digB; rw [show (4 * k + j) / 4 = k by omega, show (4 * k + j) % 4 = j by omega]
abbrev dig0 (w : World) (v : V8) (k : Nat) : List (Nat × Obj) := [(w.heap.size + 1, .cells (byteA (digK v k)) 24 (0, 0)), (w.heap.size, .cells (byteA (digK v 0)) 24 (0, 0))]
theorem digStart (v : V8) (w : World) : ∃ s : HeldW w (dig0 w v 0), s.w = (w.alloc (.cells (byteA (digK v 0)) 24)).alloc (.cells (byteA (digK v 0)) 24) :=
  ⟨⟨_, ((Below.refl _ w).alloc (Nat.le_refl _) _).alloc (by simp) _, List.forall_mem_cons.2 ⟨heap_new _ _ (by simp), all1 (heap_old (heap_new _ _ rfl) _)⟩⟩, rfl⟩

set_option maxRecDepth 100000 in
set_option maxHeartbeats 4000000 in
theorem digest_any (h : Nat) (v : V8) (r : List Int) (n : Int) (w : World) (ho : w.heap[h]? = some (hashO v r n)) :
    Calls Tryd.prog 27 #[.pointer (some ⟨h, 0, none⟩)] w (Gives (.agg (byteA (digL v 32))) w) := by
  have HO := Lib.hid ho
  have hhw := (Array.getElem?_eq_some_iff.1 ho).1
  clear ho
  go_enter Tryd.func27, Tryd.ntmps27
  go_wp2
  go_loopw [4, 5, 6, 8, 14] (fun _ _ _ i _ wr => ∃ k : Nat, k ≤ 8 ∧ i = .int .i64 k ∧ ∃ s : HeldW w (dig0 w v (4 * k)), wr = s.w) (fun _ _ _ i _ _ => 8 - (intOf i).toNat)
  case atStart =>
    obtain ⟨s, hs⟩ := digStart v w
    exact ⟨0, by omega, rfl, s, by rw [hs]; rfl⟩
  case round =>
    obtain ⟨k, hk, rfl, s, rfl⟩ := hrel
    by_cases hlt : k < 8
    · have hc : ∀ s : HeldW w (dig0 w v (4 * k)), s.w.cell? ⟨h, k, none⟩ = some (.int .u32 (v.at k)) := fun s => by
        rw [s.below.cell (p := ⟨h, k, none⟩) hhw, cell_of HO.out, hash_at v r n hlt]
      go_wp2
      refine wp_region_class _ _ (by kernel_rfl) (by kernel_rfl) s.below s.blocks (fun hne => ?_)
      clear s
      repeat (go_big_quiet_step (fail))
      refine wpQuiet_nil ?_
      rintro _ ⟨s, rfl⟩
      clear hne hc
      go_wp2
      go_loopw [6, 14] (fun _ i wr => ∃ j : Nat, j ≤ 4 ∧ i = .int .i64 j ∧ ∃ s : HeldW w (dig0 w v (4 * k + j)), wr = s.w) (fun _ i _ => 4 - (intOf i).toNat)
      case atStart => exact ⟨0, by omega, rfl, s, rfl⟩
      case round =>
        clear s
        obtain ⟨j, hj, rfl, s, rfl⟩ := hrel
        have hblk : s.w.heap[w.heap.size + 1]? = some (.cells (byteA (digK v (4 * k + j))) 24 (0, 0)) := s.blocks (_, _) List.mem_cons_self
        by_cases hlj : j < 4
        · have hcell : s.w.cell? ⟨w.heap.size + 1, 4 * k + j, none⟩ = some (.int .u8 ((digK v (4 * k + j))[4 * k + j]?.getD 0)) := by
            rw [cell_of hblk, byteA_get _ (by rw [digK_length _ (by omega)]; omega)]
          have hfree := free_of hblk (4 * k + j)
          have HK := Lib.hid (show (byteA (digK v (4 * k + j))).setIfInBounds (4 * k + j) (.int .u8 (v.at k / 2 ^ (24 - 8 * j) % 256)) = byteA (digK v (4 * k + (j + 1))) by
            rw [digB_at v k hlj, byteA_set, digK_set v (by omega)]; rfl)
          clear hblk
          go_wp2
          go_roundw
          case rel => exact ⟨j + 1, by omega, by go_num, s.store (by simp) (by simp) HK.out, rfl⟩
          case measure => simp [intOf]; omega
        · obtain rfl : j = 4 := by omega
          clear hblk
          go_wp2
          go_roundw
          case rel => exact ⟨k + 1, by omega, by go_num, s, rfl⟩
          case measure => simp [intOf]; omega
    · obtain rfl : k = 8 := by omega
      have hst : s.w.heap[w.heap.size + 1]? = some (.cells (byteA (digK v 32)) 24 (0, 0)) := s.blocks (_, _) List.mem_cons_self
      have hrs : s.w.heap[w.heap.size]? = some (.cells (byteA (digK v 0)) 24 (0, 0)) := s.blocks (_, _) (List.mem_cons_of_mem _ List.mem_cons_self)
      rw [digK_end] at hst
      have hsz : (byteA (digL v 32)).size = 32 := by rw [byteA_size, digL_length]
      have hsr : (byteA (digK v 0)).size = (byteA (digL v 32)).size := by rw [hsz, byteA_size, digK_length _ (by omega)]
      have hinf : (Tryd.prog.info? 24).map (·.size) = some (byteA (digL v 32)).size := by rw [hsz]; kernel_rfl
      have hone := byteA_one (digL v 32)
      clear hsz
      go_wp2_with (first
        | (refine wpList_load_row rfl 24 (.tmp 3) rfl (w.heap.size + 1) rfl 24 _ (0, 0) _ hst Tryd.underlying24 rfl hinf ?_)
        | (refine wpList_store_rowTo rfl 24 (.tmp 2) (.tmp 30) rfl rfl w.heap.size (byteA (digL v 32)) rfl rfl 24 (byteA (digK v 0)) hrs hinf hsr hone ?_))
      refine bodyPost_ret (v := .agg (byteA (digL v 32))) ?_ rfl ⟨rfl, below_setRow s.below (Nat.le_refl _) _⟩
      exact results_cell_row Tryd.results27 _ _ w.heap.size 24 _ (0, 0) _ rfl (setRow_heap _ _ _ _ _ _ hrs) Tryd.underlying24 rfl hinf
end Go.Proofs.YtnpcocjjmajifaaDoor
