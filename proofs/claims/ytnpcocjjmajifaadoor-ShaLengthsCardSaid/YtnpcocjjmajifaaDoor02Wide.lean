/- The wide numbers of the reference: times 2^16, times a number, sums. -/
import Derived.Laws.Bits64b
import Derived.Test.YtnpcocjjmajifaaDoor02Sum
namespace Go.Proofs.YtnpcocjjmajifaaDoor
open Go.RowKit
set_option linter.unusedVariables false

def wideA (l : List Int) : Array Value := (l.map (Value.int .u64)).toArray
theorem wideA_get (l : List Int) {i : Nat} (h : i < l.length) : (wideA l)[i]? = some (.int .u64 (l[i]?.getD 0)) := by
  unfold wideA; rw [List.getElem?_toArray, List.getElem?_map, List.getElem?_eq_getElem h]; rfl
theorem wideA_set (l : List Int) (i : Nat) (v : Int) : (wideA l).setIfInBounds i (.int .u64 v) = wideA (l.set i v) := by
  unfold wideA; rw [List.setIfInBounds_toArray, List.map_set]
theorem wideA_size (l : List Int) : (wideA l).size = l.length := by unfold wideA; simp
theorem wideA_one (l : List Int) : (wideA l).all (·.oneCell') = true := by
  unfold wideA; rw [List.all_toArray, List.all_map, List.all_eq_true]; intro x _; rfl
/-- The carry before word i, and the words that have come. -/
def car (x : Nat → Int → Int) : Nat → Int
  | 0 => 0
  | k + 1 => x k (car x k) / 4294967296
def outL (x : Nat → Int → Int) (k : Nat) : List Int := (List.range k).map fun i => x i (car x i) % 4294967296
theorem outL_length (x : Nat → Int → Int) (k : Nat) : (outL x k).length = k := by simp [outL]
def outK (x : Nat → Int → Int) (k : Nat) : List Int := outL x k ++ List.replicate (4 - k) 0
theorem outK_length (x : Nat → Int → Int) {k : Nat} (h : k ≤ 4) : (outK x k).length = 4 := by unfold outK; rw [List.length_append, outL_length, List.length_replicate]; omega
theorem outK_set (x : Nat → Int → Int) {k : Nat} (h : k < 4) : (outK x k).set k (x k (car x k) % 4294967296) = outK x (k + 1) := by
  unfold outK
  obtain ⟨n, hn⟩ : ∃ n, 4 - k = n + 1 := ⟨3 - k, by omega⟩
  rw [hn, show 4 - (k + 1) = n by omega, List.set_append_right _ _ (by rw [outL_length]; omega), outL_length, Nat.sub_self, List.replicate_succ, List.set_cons_zero]
  unfold outL
  rw [List.range_succ, List.map_append]
  simp
theorem outK_end (x : Nat → Int → Int) : outK x 4 = outL x 4 := by unfold outK; simp
theorem three_blocks (w : World) (o1 o2 o3 : Obj) : ∃ s : HeldW w [(w.heap.size + 1 + 1, o3), (w.heap.size + 1, o2), (w.heap.size, o1)], s.w = ((w.alloc o1).alloc o2).alloc o3 := by
  obtain ⟨s, hs⟩ := two_blocks w o1 o2
  refine ⟨⟨_, (((Below.refl _ w).alloc (Nat.le_refl _) _).alloc (by simp) _).alloc (by simp; omega) _, ?_⟩, rfl⟩
  rw [← hs]
  refine List.forall_mem_cons.2 ⟨heap_new _ _ (by rw [hs]; simp), fun p hp => heap_old (s.blocks p hp) _⟩
theorem four_blocks (w : World) (o1 o2 o3 o4 : Obj) : ∃ s : HeldW w [(w.heap.size + 1 + 1 + 1, o4), (w.heap.size + 1 + 1, o3), (w.heap.size + 1, o2), (w.heap.size, o1)], s.w = (((w.alloc o1).alloc o2).alloc o3).alloc o4 := by
  obtain ⟨s, hs⟩ := three_blocks w o1 o2 o3
  refine ⟨⟨_, ((((Below.refl _ w).alloc (Nat.le_refl _) _).alloc (by simp) _).alloc (by simp; omega) _).alloc (by simp; omega) _, ?_⟩, rfl⟩
  rw [← hs]
  refine List.forall_mem_cons.2 ⟨heap_new _ _ (by rw [hs]; simp), fun p hp => heap_old (s.blocks p hp) _⟩
theorem u64_and32 (x : Int) (h0 : 0 ≤ x) (h1 : x < 18446744073709551616) : bits .and .u64 x 4294967295 = x % 4294967296 := by
  obtain ⟨n, rfl⟩ := Int.eq_ofNat_of_zero_le h0
  have := bits_and_u64_nat n 4294967295 (by omega) (by omega)
  rw [show (4294967295 : Int) = ((4294967295 : Nat) : Int) from rfl, this, show (4294967295 : Nat) = 2 ^ 32 - 1 from rfl, Nat.and_two_pow_sub_one_eq_mod]
  omega
theorem wrap64 (x : Int) : 0 ≤ IntKind.u64.wrap x ∧ IntKind.u64.wrap x < 18446744073709551616 := by
  have : IntKind.u64.wrap x = x % 18446744073709551616 := by simp [IntKind.wrap, IntKind.signed, IntKind.bits]
  omega
def zero4 : List Int := [0, 0, 0, 0]
def xShift (a : List Int) (i : Nat) (c : Int) : Int := IntKind.u64.wrap (IntKind.u64.wrap (a[i]?.getD 0 * 65536) + c)
def xScale (a : List Int) (m : Int) (i : Nat) (c : Int) : Int := IntKind.u64.wrap (IntKind.u64.wrap (a[i]?.getD 0 * m) + c)
def xPlus (a b : List Int) (i : Nat) (c : Int) : Int := IntKind.u64.wrap (IntKind.u64.wrap (a[i]?.getD 0 + b[i]?.getD 0) + c)

set_option maxRecDepth 100000 in
set_option maxHeartbeats 4000000 in
theorem shift_any (a : List Int) (ha : a.length = 4) (w : World) : Calls Tryd.prog 47 #[.agg (wideA a)] w (Gives (.agg (wideA (outL (xShift a) 4))) w) := by
  have HA := Lib.hid ha
  clear ha
  go_enter Tryd.func47, Tryd.ntmps47
  go_wp2
  go_loopw [3, 5, 6] (fun c i _ wr => ∃ k : Nat, k ≤ 4 ∧ i = .int .i64 k ∧ c = .int .u64 (car (xShift a) k) ∧ ∃ s : HeldW w [(w.heap.size + 1 + 1, .cells (wideA (outK (xShift a) k)) 73 (0, 0)), (w.heap.size + 1, .cells (wideA zero4) 73 (0, 0)), (w.heap.size, .cells (wideA a) 73 (0, 0))], wr = s.w) (fun _ i _ _ => 4 - (intOf i).toNat)
  case atStart =>
    obtain ⟨s, hs⟩ := three_blocks w (.cells (wideA a) 73 (0, 0)) (.cells (wideA zero4) 73 (0, 0)) (.cells (wideA zero4) 73 (0, 0))
    exact ⟨0, by omega, rfl, rfl, s, by rw [hs]; rfl⟩
  case round =>
    obtain ⟨k, hk, rfl, rfl, s, rfl⟩ := hrel
    have hblk : s.w.heap[w.heap.size + 1 + 1]? = some (.cells (wideA (outK (xShift a) k)) 73 (0, 0)) := s.blocks (_, _) List.mem_cons_self
    by_cases hlt : k < 4
    · have hc0 : s.w.cell? ⟨w.heap.size, k, none⟩ = some (.int .u64 (a[k]?.getD 0)) := by
        rw [cell_of (s.blocks (w.heap.size, .cells (wideA a) 73 (0, 0)) (by simp)), wideA_get _ (by rw [HA.out]; exact hlt)]
      have HK := Lib.hid (show (wideA (outK (xShift a) k)).setIfInBounds k (.int .u64 (xShift a k (car (xShift a) k) % 4294967296)) = wideA (outK (xShift a) (k + 1)) by
        rw [wideA_set, outK_set _ hlt])
      have hand := u64_and32 (xShift a k (car (xShift a) k)) (wrap64 _).1 (wrap64 _).2
      have hcell : s.w.cell? ⟨w.heap.size + 1 + 1, k, none⟩ = some (.int .u64 ((outK (xShift a) k)[k]?.getD 0)) := by
        rw [cell_of hblk, wideA_get _ (by rw [outK_length _ (by omega)]; omega)]
      have hfree := free_of hblk k
      clear hblk
      go_wp2
      go_roundw
      case rel => exact ⟨k + 1, by omega, by go_num, rfl, s.store (by omega) (by simp; omega) (by rw [← HK.out, ← hand]; rfl), rfl⟩
      case measure => simp [intOf]; omega
    · obtain rfl : k = 4 := by omega
      have hst : s.w.heap[w.heap.size + 1 + 1]? = some (.cells (wideA (outL (xShift a) 4)) 73 (0, 0)) := hblk.trans (by rw [outK_end])
      have hrs : s.w.heap[w.heap.size + 1]? = some (.cells (wideA zero4) 73 (0, 0)) := s.blocks (w.heap.size + 1, _) (by simp)
      have hsz : (wideA (outL (xShift a) 4)).size = 4 := by rw [wideA_size, outL_length]
      have hsr : (wideA zero4).size = (wideA (outL (xShift a) 4)).size := by rw [hsz]; rfl
      have hinf : (Tryd.prog.info? 73).map (·.size) = some (wideA (outL (xShift a) 4)).size := by rw [hsz]; kernel_rfl
      have hone := wideA_one (outL (xShift a) 4)
      clear hsz
      go_wp2_with (first
        | (refine wpList_load_row rfl 73 (.tmp 4) rfl (w.heap.size + 1 + 1) rfl 73 _ (0, 0) _ hst Tryd.underlying73 rfl hinf ?_)
        | (refine wpList_store_rowTo rfl 73 (.tmp 2) (.tmp 23) rfl rfl (w.heap.size + 1) (wideA (outL (xShift a) 4)) rfl rfl 73 (wideA zero4) hrs hinf hsr hone ?_))
      refine bodyPost_ret (v := .agg (wideA (outL (xShift a) 4))) ?_ rfl ⟨rfl, below_setRow s.below (by omega) _⟩
      exact results_cell_row Tryd.results47 _ _ (w.heap.size + 1) 73 _ (0, 0) _ rfl (setRow_heap _ _ _ _ _ _ hrs) Tryd.underlying73 rfl hinf

set_option maxRecDepth 100000 in
set_option maxHeartbeats 4000000 in
theorem scale_any (a : List Int) (m : Int) (ha : a.length = 4) (w : World) : Calls Tryd.prog 46 #[.agg (wideA a), .int .u64 m] w (Gives (.agg (wideA (outL (xScale a m) 4))) w) := by
  have HA := Lib.hid ha
  clear ha
  go_enter Tryd.func46, Tryd.ntmps46
  go_wp2
  go_loopw [5, 7, 8] (fun c i _ wr => ∃ k : Nat, k ≤ 4 ∧ i = .int .i64 k ∧ c = .int .u64 (car (xScale a m) k) ∧ ∃ s : HeldW w [(w.heap.size + 1 + 1, .cells (wideA (outK (xScale a m) k)) 73 (0, 0)), (w.heap.size + 1, .cells (wideA zero4) 73 (0, 0)), (w.heap.size, .cells (wideA a) 73 (0, 0))], wr = s.w) (fun _ i _ _ => 4 - (intOf i).toNat)
  case atStart =>
    obtain ⟨s, hs⟩ := three_blocks w (.cells (wideA a) 73 (0, 0)) (.cells (wideA zero4) 73 (0, 0)) (.cells (wideA zero4) 73 (0, 0))
    exact ⟨0, by omega, rfl, rfl, s, by rw [hs]; rfl⟩
  case round =>
    obtain ⟨k, hk, rfl, rfl, s, rfl⟩ := hrel
    have hblk : s.w.heap[w.heap.size + 1 + 1]? = some (.cells (wideA (outK (xScale a m) k)) 73 (0, 0)) := s.blocks (_, _) List.mem_cons_self
    by_cases hlt : k < 4
    · have hc0 : s.w.cell? ⟨w.heap.size, k, none⟩ = some (.int .u64 (a[k]?.getD 0)) := by
        rw [cell_of (s.blocks (w.heap.size, .cells (wideA a) 73 (0, 0)) (by simp)), wideA_get _ (by rw [HA.out]; exact hlt)]
      have HK := Lib.hid (show (wideA (outK (xScale a m) k)).setIfInBounds k (.int .u64 (xScale a m k (car (xScale a m) k) % 4294967296)) = wideA (outK (xScale a m) (k + 1)) by
        rw [wideA_set, outK_set _ hlt])
      have hand := u64_and32 (xScale a m k (car (xScale a m) k)) (wrap64 _).1 (wrap64 _).2
      have hcell : s.w.cell? ⟨w.heap.size + 1 + 1, k, none⟩ = some (.int .u64 ((outK (xScale a m) k)[k]?.getD 0)) := by
        rw [cell_of hblk, wideA_get _ (by rw [outK_length _ (by omega)]; omega)]
      have hfree := free_of hblk k
      clear hblk
      go_wp2
      go_roundw
      case rel => exact ⟨k + 1, by omega, by go_num, rfl, s.store (by omega) (by simp; omega) (by rw [← HK.out, ← hand]; rfl), rfl⟩
      case measure => simp [intOf]; omega
    · obtain rfl : k = 4 := by omega
      have hst : s.w.heap[w.heap.size + 1 + 1]? = some (.cells (wideA (outL (xScale a m) 4)) 73 (0, 0)) := hblk.trans (by rw [outK_end])
      have hrs : s.w.heap[w.heap.size + 1]? = some (.cells (wideA zero4) 73 (0, 0)) := s.blocks (w.heap.size + 1, _) (by simp)
      have hsz : (wideA (outL (xScale a m) 4)).size = 4 := by rw [wideA_size, outL_length]
      have hsr : (wideA zero4).size = (wideA (outL (xScale a m) 4)).size := by rw [hsz]; rfl
      have hinf : (Tryd.prog.info? 73).map (·.size) = some (wideA (outL (xScale a m) 4)).size := by rw [hsz]; kernel_rfl
      have hone := wideA_one (outL (xScale a m) 4)
      clear hsz
      go_wp2_with (first
        | (refine wpList_load_row rfl 73 (.tmp 6) rfl (w.heap.size + 1 + 1) rfl 73 _ (0, 0) _ hst Tryd.underlying73 rfl hinf ?_)
        | (refine wpList_store_rowTo rfl 73 (.tmp 4) (.tmp 26) rfl rfl (w.heap.size + 1) (wideA (outL (xScale a m) 4)) rfl rfl 73 (wideA zero4) hrs hinf hsr hone ?_))
      refine bodyPost_ret (v := .agg (wideA (outL (xScale a m) 4))) ?_ rfl ⟨rfl, below_setRow s.below (by omega) _⟩
      exact results_cell_row Tryd.results46 _ _ (w.heap.size + 1) 73 _ (0, 0) _ rfl (setRow_heap _ _ _ _ _ _ hrs) Tryd.underlying73 rfl hinf

set_option maxRecDepth 100000 in
set_option maxHeartbeats 4000000 in
theorem plus_any (a b : List Int) (ha : a.length = 4) (hb : b.length = 4) (w : World) : Calls Tryd.prog 45 #[.agg (wideA a), .agg (wideA b)] w (Gives (.agg (wideA (outL (xPlus a b) 4))) w) := by
  have HA := Lib.hid ha
  have HB := Lib.hid hb
  clear ha hb
  go_enter Tryd.func45, Tryd.ntmps45
  go_wp2
  go_loopw [5, 7, 8] (fun c i _ wr => ∃ k : Nat, k ≤ 4 ∧ i = .int .i64 k ∧ c = .int .u64 (car (xPlus a b) k) ∧ ∃ s : HeldW w [(w.heap.size + 1 + 1 + 1, .cells (wideA (outK (xPlus a b) k)) 73 (0, 0)), (w.heap.size + 1 + 1, .cells (wideA zero4) 73 (0, 0)), (w.heap.size + 1, .cells (wideA b) 73 (0, 0)), (w.heap.size, .cells (wideA a) 73 (0, 0))], wr = s.w) (fun _ i _ _ => 4 - (intOf i).toNat)
  case atStart =>
    obtain ⟨s, hs⟩ := four_blocks w (.cells (wideA a) 73 (0, 0)) (.cells (wideA b) 73 (0, 0)) (.cells (wideA zero4) 73 (0, 0)) (.cells (wideA zero4) 73 (0, 0))
    exact ⟨0, by omega, rfl, rfl, s, by rw [hs]; rfl⟩
  case round =>
    obtain ⟨k, hk, rfl, rfl, s, rfl⟩ := hrel
    have hblk : s.w.heap[w.heap.size + 1 + 1 + 1]? = some (.cells (wideA (outK (xPlus a b) k)) 73 (0, 0)) := s.blocks (_, _) List.mem_cons_self
    by_cases hlt : k < 4
    · have hc0 : ∀ s : HeldW w [(w.heap.size + 1 + 1 + 1, .cells (wideA (outK (xPlus a b) k)) 73 (0, 0)), (w.heap.size + 1 + 1, .cells (wideA zero4) 73 (0, 0)), (w.heap.size + 1, .cells (wideA b) 73 (0, 0)), (w.heap.size, .cells (wideA a) 73 (0, 0))], s.w.cell? ⟨w.heap.size, k, none⟩ = some (.int .u64 (a[k]?.getD 0)) := fun s => by
        rw [cell_of (s.blocks (w.heap.size, .cells (wideA a) 73 (0, 0)) (by simp)), wideA_get _ (by rw [HA.out]; exact hlt)]
      have hc1 : ∀ s : HeldW w [(w.heap.size + 1 + 1 + 1, .cells (wideA (outK (xPlus a b) k)) 73 (0, 0)), (w.heap.size + 1 + 1, .cells (wideA zero4) 73 (0, 0)), (w.heap.size + 1, .cells (wideA b) 73 (0, 0)), (w.heap.size, .cells (wideA a) 73 (0, 0))], s.w.cell? ⟨w.heap.size + 1, k, none⟩ = some (.int .u64 (b[k]?.getD 0)) := fun s => by
        rw [cell_of (s.blocks (w.heap.size + 1, .cells (wideA b) 73 (0, 0)) (by simp)), wideA_get _ (by rw [HB.out]; exact hlt)]
      have HK := Lib.hid (show (wideA (outK (xPlus a b) k)).setIfInBounds k (.int .u64 (xPlus a b k (car (xPlus a b) k) % 4294967296)) = wideA (outK (xPlus a b) (k + 1)) by
        rw [wideA_set, outK_set _ hlt])
      have hand := u64_and32 (xPlus a b k (car (xPlus a b) k)) (wrap64 _).1 (wrap64 _).2
      clear hblk
      go_wp2
      refine wp_region_class _ _ (by kernel_rfl) (by kernel_rfl) s.below s.blocks (fun hne => ?_)
      clear s
      repeat (go_big_quiet_step (fail))
      refine wpQuiet_nil ?_
      rintro _ ⟨s, rfl⟩
      clear hne hc0 hc1
      have hblk : s.w.heap[w.heap.size + 1 + 1 + 1]? = some (.cells (wideA (outK (xPlus a b) k)) 73 (0, 0)) := s.blocks (_, _) List.mem_cons_self
      have hcell : s.w.cell? ⟨w.heap.size + 1 + 1 + 1, k, none⟩ = some (.int .u64 ((outK (xPlus a b) k)[k]?.getD 0)) := by
        rw [cell_of hblk, wideA_get _ (by rw [outK_length _ (by omega)]; omega)]
      have hfree := free_of hblk k
      clear hblk
      go_wp2
      go_roundw
      case rel => exact ⟨k + 1, by omega, by go_num, rfl, s.store (by omega) (by simp; omega) (by rw [← HK.out, ← hand]; rfl), rfl⟩
      case measure => simp [intOf]; omega
    · obtain rfl : k = 4 := by omega
      have hst : s.w.heap[w.heap.size + 1 + 1 + 1]? = some (.cells (wideA (outL (xPlus a b) 4)) 73 (0, 0)) := hblk.trans (by rw [outK_end])
      have hrs : s.w.heap[w.heap.size + 1 + 1]? = some (.cells (wideA zero4) 73 (0, 0)) := s.blocks (w.heap.size + 1 + 1, _) (by simp)
      have hsz : (wideA (outL (xPlus a b) 4)).size = 4 := by rw [wideA_size, outL_length]
      have hsr : (wideA zero4).size = (wideA (outL (xPlus a b) 4)).size := by rw [hsz]; rfl
      have hinf : (Tryd.prog.info? 73).map (·.size) = some (wideA (outL (xPlus a b) 4)).size := by rw [hsz]; kernel_rfl
      have hone := wideA_one (outL (xPlus a b) 4)
      clear hsz
      go_wp2_with (first
        | (refine wpList_load_row rfl 73 (.tmp 6) rfl (w.heap.size + 1 + 1 + 1) rfl 73 _ (0, 0) _ hst Tryd.underlying73 rfl hinf ?_)
        | (refine wpList_store_rowTo rfl 73 (.tmp 4) (.tmp 28) rfl rfl (w.heap.size + 1 + 1) (wideA (outL (xPlus a b) 4)) rfl rfl 73 (wideA zero4) hrs hinf hsr hone ?_))
      refine bodyPost_ret (v := .agg (wideA (outL (xPlus a b) 4))) ?_ rfl ⟨rfl, below_setRow s.below (by omega) _⟩
      exact results_cell_row Tryd.results45 _ _ (w.heap.size + 1 + 1) 73 _ (0, 0) _ rfl (setRow_heap _ _ _ _ _ _ hrs) Tryd.underlying73 rfl hinf

end Go.Proofs.YtnpcocjjmajifaaDoor
