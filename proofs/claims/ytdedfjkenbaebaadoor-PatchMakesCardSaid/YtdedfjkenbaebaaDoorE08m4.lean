import Derived.Laws.Bits64b
import Derived.Test.YtdedfjkenbaebaaDoorE08a5
import Derived.Test.YtdedfjkenbaebaaDoorE08m3
/- The wide numbers of the reference: times 2^16, times a number, sums. -/
namespace Go.Proofs.YtdedfjkenbaebaaDoor
open Go.RowKit
set_option linter.unusedVariables false

def wideA (l : List Int) : Array Value := (l.map (Value.int .u64)).toArray
theorem wideA_get (l : List Int) {i : Nat} (h : i < l.length) : (wideA l)[i]? = some (.int .u64 (l[i]?.getD 0)) := by
  unfold wideA; rw [List.getElem?_toArray, List.getElem?_map, List.getElem?_eq_getElem h]; rfl
theorem wideA_set (l : List Int) (i : Nat) (v : Int) : (wideA l).setIfInBounds i (.int .u64 v) = wideA (l.set i v) := by
  unfold wideA; rw [List.setIfInBounds_toArray, List.map_set]
theorem wideA_size (l : List Int) : (wideA l).size = l.length := by unfold wideA; simp
theorem wideA_one (l : List Int) : (wideA l).all (·.oneCell') = true := by
  unfold wideA; rw [List.all_toArray, List.all_map, List.all_eq_true]; intro x _; rfl
/-- The carry before word i, and the words that have come. -/
def car (x : Nat → Int → Int) : Nat → Int
  | 0 => 0
  | k + 1 => x k (car x k) / 4294967296
def outL (x : Nat → Int → Int) (k : Nat) : List Int := (List.range k).map fun i => x i (car x i) % 4294967296
theorem outL_length (x : Nat → Int → Int) (k : Nat) : (outL x k).length = k := by simp [outL]
def outK (x : Nat → Int → Int) (k : Nat) : List Int := outL x k ++ List.replicate (4 - k) 0
theorem outK_length (x : Nat → Int → Int) {k : Nat} (h : k ≤ 4) : (outK x k).length = 4 := by unfold outK; rw [List.length_append, outL_length, List.length_replicate]; omega
theorem outK_set (x : Nat → Int → Int) {k : Nat} (h : k < 4) : (outK x k).set k (x k (car x k) % 4294967296) = outK x (k + 1) := by
  unfold outK
  obtain ⟨n, hn⟩ : ∃ n, 4 - k = n + 1 := ⟨3 - k, by omega⟩
  rw [hn, show 4 - (k + 1) = n by omega, List.set_append_right _ _ (by rw [outL_length]; omega), outL_length, Nat.sub_self, List.replicate_succ, List.set_cons_zero]
  unfold outL
  rw [List.range_succ, List.map_append]
  simp
theorem outK_end (x : Nat → Int → Int) : outK x 4 = outL x 4 := by unfold outK; simp
theorem three_blocks (w : World) (o1 o2 o3 : Obj) : ∃ s : HeldW w [(w.heap.size + 1 + 1, o3), (w.heap.size + 1, o2), (w.heap.size, o1)], s.w = ((w.alloc o1).alloc o2).alloc o3 := by
  obtain ⟨s, hs⟩ := two_blocks w o1 o2
  refine ⟨⟨_, (((Below.refl _ w).alloc (Nat.le_refl _) _).alloc (by simp) _).alloc (by simp; omega) _, ?_⟩, rfl⟩
  rw [← hs]
  refine List.forall_mem_cons.2 ⟨heap_new _ _ (by rw [hs]; simp), fun p hp => heap_old (s.blocks p hp) _⟩
theorem four_blocks (w : World) (o1 o2 o3 o4 : Obj) : ∃ s : HeldW w [(w.heap.size + 1 + 1 + 1, o4), (w.heap.size + 1 + 1, o3), (w.heap.size + 1, o2), (w.heap.size, o1)], s.w = (((w.alloc o1).alloc o2).alloc o3).alloc o4 := by
  obtain ⟨s, hs⟩ := three_blocks w o1 o2 o3
  refine ⟨⟨_, ((((Below.refl _ w).alloc (Nat.le_refl _) _).alloc (by simp) _).alloc (by simp; omega) _).alloc (by simp; omega) _, ?_⟩, rfl⟩
  rw [← hs]
  refine List.forall_mem_cons.2 ⟨heap_new _ _ (by rw [hs]; simp), fun p hp => heap_old (s.blocks p hp) _⟩
theorem u64_and32 (x : Int) (h0 : 0 ≤ x) (h1 : x < 18446744073709551616) : bits .and .u64 x 4294967295 = x % 4294967296 := by
  obtain ⟨n, rfl⟩ := Int.eq_ofNat_of_zero_le h0
  have := bits_and_u64_nat n 4294967295 (by omega) (by omega)
  rw [show (4294967295 : Int) = ((4294967295 : Nat) : Int) from rfl, this, show (4294967295 : Nat) = 2 ^ 32 - 1 from rfl, Nat.and_two_pow_sub_one_eq_mod]
  omega
theorem wrap64 (x : Int) : 0 ≤ IntKind.u64.wrap x ∧ IntKind.u64.wrap x < 18446744073709551616 := by
  have : IntKind.u64.wrap x = x % 18446744073709551616 := by simp [IntKind.wrap, IntKind.signed, IntKind.bits]
  omega
def zero4 : List Int := [0, 0, 0, 0]
def xShift (a : List Int) (i : Nat) (c : Int) : Int := IntKind.u64.wrap (IntKind.u64.wrap (a[i]?.getD 0 * 65536) + c)
def xScale (a : List Int) (m : Int) (i : Nat) (c : Int) : Int := IntKind.u64.wrap (IntKind.u64.wrap (a[i]?.getD 0 * m) + c)
def xPlus (a b : List Int) (i : Nat) (c : Int) : Int := IntKind.u64.wrap (IntKind.u64.wrap (a[i]?.getD 0 + b[i]?.getD 0) + c)

set_option maxRecDepth 100000 in
set_option maxHeartbeats 4000000 in
theorem shift_any (a : List Int) (ha : a.length = 4) (w : World) : Calls Tryd.prog 122 #[.agg (wideA a)] w (Gives (.agg (wideA (outL (xShift a) 4))) w) := by
  have HA := Lib.hid ha
  clear ha
  go_enter Tryd.func122, Tryd.ntmps122
  go_wp2
  go_loopw [3, 5, 6] (fun c i _ wr => ∃ k : Nat, k ≤ 4 ∧ i = .int .i64 k ∧ c = .int .u64 (car (xShift a) k) ∧ ∃ s : HeldW w [(w.heap.size + 1 + 1, .cells (wideA (outK (xShift a) k)) 159 (0, 0)), (w.heap.size + 1, .cells (wideA zero4) 159 (0, 0)), (w.heap.size, .cells (wideA a) 159 (0, 0))], wr = s.w) (fun _ i _ _ => 4 - (intOf i).toNat)
  case atStart =>
    obtain ⟨s, hs⟩ := three_blocks w (.cells (wideA a) 159 (0, 0)) (.cells (wideA zero4) 159 (0, 0)) (.cells (wideA zero4) 159 (0, 0))
    exact ⟨0, by omega, rfl, rfl, s, by rw [hs]; rfl⟩
  case round =>
    obtain ⟨k, hk, rfl, rfl, s, rfl⟩ := hrel
    have hblk : s.w.heap[w.heap.size + 1 + 1]? = some (.cells (wideA (outK (xShift a) k)) 159 (0, 0)) := s.blocks (_, _) List.mem_cons_self
    by_cases hlt : k < 4
    · have hc0 : s.w.cell? ⟨w.heap.size, k, none⟩ = some (.int .u64 (a[k]?.getD 0)) := by
        rw [cell_of (s.blocks (w.heap.size, .cells (wideA a) 159 (0, 0)) (by simp)), wideA_get _ (by rw [HA.out]; exact hlt)]
      have HK := Lib.hid (show (wideA (outK (xShift a) k)).setIfInBounds k (.int .u64 (xShift a k (car (xShift a) k) % 4294967296)) = wideA (outK (xShift a) (k + 1)) by
        rw [wideA_set, outK_set _ hlt])
      have hand := u64_and32 (xShift a k (car (xShift a) k)) (wrap64 _).1 (wrap64 _).2
      have hcell : s.w.cell? ⟨w.heap.size + 1 + 1, k, none⟩ = some (.int .u64 ((outK (xShift a) k)[k]?.getD 0)) := by
        rw [cell_of hblk, wideA_get _ (by rw [outK_length _ (by omega)]; omega)]
      have hfree := free_of hblk k
      clear hblk
      go_wp2
      go_roundw
      case rel => exact ⟨k + 1, by omega, by go_num, rfl, s.store (by omega) (by simp; omega) (by rw [← HK.out, ← hand]; rfl), rfl⟩
      case measure => simp [intOf]; omega
    · obtain rfl : k = 4 := by omega
      have hst : s.w.heap[w.heap.size + 1 + 1]? = some (.cells (wideA (outL (xShift a) 4)) 159 (0, 0)) := hblk.trans (by rw [outK_end])
      have hrs : s.w.heap[w.heap.size + 1]? = some (.cells (wideA zero4) 159 (0, 0)) := s.blocks (w.heap.size + 1, _) (by simp)
      have hsz : (wideA (outL (xShift a) 4)).size = 4 := by rw [wideA_size, outL_length]
      have hsr : (wideA zero4).size = (wideA (outL (xShift a) 4)).size := by rw [hsz]; rfl
      have hinf : (Tryd.prog.info? 159).map (·.size) = some (wideA (outL (xShift a) 4)).size := by rw [hsz]; kernel_rfl
      have hone := wideA_one (outL (xShift a) 4)
      clear hsz
      go_wp2_with (first
        | (refine wpList_load_row rfl 159 (.tmp 4) rfl (w.heap.size + 1 + 1) rfl 159 _ (0, 0) _ hst Tryd.underlying159 rfl hinf ?_)
        | (refine wpList_store_rowTo rfl 159 (.tmp 2) (.tmp 23) rfl rfl (w.heap.size + 1) (wideA (outL (xShift a) 4)) rfl rfl 159 (wideA zero4) hrs hinf hsr hone ?_))
      refine bodyPost_ret (v := .agg (wideA (outL (xShift a) 4))) ?_ rfl ⟨rfl, below_setRow s.below (by omega) _⟩
      exact results_cell_row Tryd.results122 _ _ (w.heap.size + 1) 159 _ (0, 0) _ rfl (setRow_heap _ _ _ _ _ _ hrs) Tryd.underlying159 rfl hinf

set_option maxRecDepth 100000 in
set_option maxHeartbeats 4000000 in
theorem scale_any (a : List Int) (m : Int) (ha : a.length = 4) (w : World) : Calls Tryd.prog 121 #[.agg (wideA a), .int .u64 m] w (Gives (.agg (wideA (outL (xScale a m) 4))) w) := by
  have HA := Lib.hid ha
  clear ha
  go_enter Tryd.func121, Tryd.ntmps121
  go_wp2
  go_loopw [5, 7, 8] (fun c i _ wr => ∃ k : Nat, k ≤ 4 ∧ i = .int .i64 k ∧ c = .int .u64 (car (xScale a m) k) ∧ ∃ s : HeldW w [(w.heap.size + 1 + 1, .cells (wideA (outK (xScale a m) k)) 159 (0, 0)), (w.heap.size + 1, .cells (wideA zero4) 159 (0, 0)), (w.heap.size, .cells (wideA a) 159 (0, 0))], wr = s.w) (fun _ i _ _ => 4 - (intOf i).toNat)
  case atStart =>
    obtain ⟨s, hs⟩ := three_blocks w (.cells (wideA a) 159 (0, 0)) (.cells (wideA zero4) 159 (0, 0)) (.cells (wideA zero4) 159 (0, 0))
    exact ⟨0, by omega, rfl, rfl, s, by rw [hs]; rfl⟩
  case round =>
    obtain ⟨k, hk, rfl, rfl, s, rfl⟩ := hrel
    have hblk : s.w.heap[w.heap.size + 1 + 1]? = some (.cells (wideA (outK (xScale a m) k)) 159 (0, 0)) := s.blocks (_, _) List.mem_cons_self
    by_cases hlt : k < 4
    · have hc0 : s.w.cell? ⟨w.heap.size, k, none⟩ = some (.int .u64 (a[k]?.getD 0)) := by
        rw [cell_of (s.blocks (w.heap.size, .cells (wideA a) 159 (0, 0)) (by simp)), wideA_get _ (by rw [HA.out]; exact hlt)]
      have HK := Lib.hid (show (wideA (outK (xScale a m) k)).setIfInBounds k (.int .u64 (xScale a m k (car (xScale a m) k) % 4294967296)) = wideA (outK (xScale a m) (k + 1)) by
        rw [wideA_set, outK_set _ hlt])
      have hand := u64_and32 (xScale a m k (car (xScale a m) k)) (wrap64 _).1 (wrap64 _).2
      have hcell : s.w.cell? ⟨w.heap.size + 1 + 1, k, none⟩ = some (.int .u64 ((outK (xScale a m) k)[k]?.getD 0)) := by
        rw [cell_of hblk, wideA_get _ (by rw [outK_length _ (by omega)]; omega)]
      have hfree := free_of hblk k
      clear hblk
      go_wp2
      go_roundw
      case rel => exact ⟨k + 1, by omega, by go_num, rfl, s.store (by omega) (by simp; omega) (by rw [← HK.out, ← hand]; rfl), rfl⟩
      case measure => simp [intOf]; omega
    · obtain rfl : k = 4 := by omega
      have hst : s.w.heap[w.heap.size + 1 + 1]? = some (.cells (wideA (outL (xScale a m) 4)) 159 (0, 0)) := hblk.trans (by rw [outK_end])
      have hrs : s.w.heap[w.heap.size + 1]? = some (.cells (wideA zero4) 159 (0, 0)) := s.blocks (w.heap.size + 1, _) (by simp)
      have hsz : (wideA (outL (xScale a m) 4)).size = 4 := by rw [wideA_size, outL_length]
      have hsr : (wideA zero4).size = (wideA (outL (xScale a m) 4)).size := by rw [hsz]; rfl
      have hinf : (Tryd.prog.info? 159).map (·.size) = some (wideA (outL (xScale a m) 4)).size := by rw [hsz]; kernel_rfl
      have hone := wideA_one (outL (xScale a m) 4)
      clear hsz
      go_wp2_with (first
        | (refine wpList_load_row rfl 159 (.tmp 6) rfl (w.heap.size + 1 + 1) rfl 159 _ (0, 0) _ hst Tryd.underlying159 rfl hinf ?_)
        | (refine wpList_store_rowTo rfl 159 (.tmp 4) (.tmp 26) rfl rfl (w.heap.size + 1) (wideA (outL (xScale a m) 4)) rfl rfl 159 (wideA zero4) hrs hinf hsr hone ?_))
      refine bodyPost_ret (v := .agg (wideA (outL (xScale a m) 4))) ?_ rfl ⟨rfl, below_setRow s.below (by omega) _⟩
      exact results_cell_row Tryd.results121 _ _ (w.heap.size + 1) 159 _ (0, 0) _ rfl (setRow_heap _ _ _ _ _ _ hrs) Tryd.underlying159 rfl hinf

set_option maxRecDepth 100000 in
set_option maxHeartbeats 4000000 in
theorem plus_any (a b : List Int) (ha : a.length = 4) (hb : b.length = 4) (w : World) : Calls Tryd.prog 120 #[.agg (wideA a), .agg (wideA b)] w (Gives (.agg (wideA (outL (xPlus a b) 4))) w) := by
  have HA := Lib.hid ha
  have HB := Lib.hid hb
  clear ha hb
  go_enter Tryd.func120, Tryd.ntmps120
  go_wp2
  go_loopw [5, 7, 8] (fun c i _ wr => ∃ k : Nat, k ≤ 4 ∧ i = .int .i64 k ∧ c = .int .u64 (car (xPlus a b) k) ∧ ∃ s : HeldW w [(w.heap.size + 1 + 1 + 1, .cells (wideA (outK (xPlus a b) k)) 159 (0, 0)), (w.heap.size + 1 + 1, .cells (wideA zero4) 159 (0, 0)), (w.heap.size + 1, .cells (wideA b) 159 (0, 0)), (w.heap.size, .cells (wideA a) 159 (0, 0))], wr = s.w) (fun _ i _ _ => 4 - (intOf i).toNat)
  case atStart =>
    obtain ⟨s, hs⟩ := four_blocks w (.cells (wideA a) 159 (0, 0)) (.cells (wideA b) 159 (0, 0)) (.cells (wideA zero4) 159 (0, 0)) (.cells (wideA zero4) 159 (0, 0))
    exact ⟨0, by omega, rfl, rfl, s, by rw [hs]; rfl⟩
  case round =>
    obtain ⟨k, hk, rfl, rfl, s, rfl⟩ := hrel
    have hblk : s.w.heap[w.heap.size + 1 + 1 + 1]? = some (.cells (wideA (outK (xPlus a b) k)) 159 (0, 0)) := s.blocks (_, _) List.mem_cons_self
    by_cases hlt : k < 4
    · have hc0 : ∀ s : HeldW w [(w.heap.size + 1 + 1 + 1, .cells (wideA (outK (xPlus a b) k)) 159 (0, 0)), (w.heap.size + 1 + 1, .cells (wideA zero4) 159 (0, 0)), (w.heap.size + 1, .cells (wideA b) 159 (0, 0)), (w.heap.size, .cells (wideA a) 159 (0, 0))], s.w.cell? ⟨w.heap.size, k, none⟩ = some (.int .u64 (a[k]?.getD 0)) := fun s => by
        rw [cell_of (s.blocks (w.heap.size, .cells (wideA a) 159 (0, 0)) (by simp)), wideA_get _ (by rw [HA.out]; exact hlt)]
      have hc1 : ∀ s : HeldW w [(w.heap.size + 1 + 1 + 1, .cells (wideA (outK (xPlus a b) k)) 159 (0, 0)), (w.heap.size + 1 + 1, .cells (wideA zero4) 159 (0, 0)), (w.heap.size + 1, .cells (wideA b) 159 (0, 0)), (w.heap.size, .cells (wideA a) 159 (0, 0))], s.w.cell? ⟨w.heap.size + 1, k, none⟩ = some (.int .u64 (b[k]?.getD 0)) := fun s => by
        rw [cell_of (s.blocks (w.heap.size + 1, .cells (wideA b) 159 (0, 0)) (by simp)), wideA_get _ (by rw [HB.out]; exact hlt)]
      have HK := Lib.hid (show (wideA (outK (xPlus a b) k)).setIfInBounds k (.int .u64 (xPlus a b k (car (xPlus a b) k) % 4294967296)) = wideA (outK (xPlus a b) (k + 1)) by
        rw [wideA_set, outK_set _ hlt])
      have hand := u64_and32 (xPlus a b k (car (xPlus a b) k)) (wrap64 _).1 (wrap64 _).2
      clear hblk
      go_wp2
      refine wp_region_class _ _ (by kernel_rfl) (by kernel_rfl) s.below s.blocks (fun hne => ?_)
      clear s
      repeat (go_big_quiet_step (fail))
      refine wpQuiet_nil ?_
      rintro _ ⟨s, rfl⟩
      clear hne hc0 hc1
      have hblk : s.w.heap[w.heap.size + 1 + 1 + 1]? = some (.cells (wideA (outK (xPlus a b) k)) 159 (0, 0)) := s.blocks (_, _) List.mem_cons_self
      have hcell : s.w.cell? ⟨w.heap.size + 1 + 1 + 1, k, none⟩ = some (.int .u64 ((outK (xPlus a b) k)[k]?.getD 0)) := by
        rw [cell_of hblk, wideA_get _ (by rw [outK_length _ (by omega)]; omega)]
      have hfree := free_of hblk k
      clear hblk
      go_wp2
      go_roundw
      case rel => exact ⟨k + 1, by omega, by go_num, rfl, s.store (by omega) (by simp; omega) (by rw [← HK.out, ← hand]; rfl), rfl⟩
      case measure => simp [intOf]; omega
    · obtain rfl : k = 4 := by omega
      have hst : s.w.heap[w.heap.size + 1 + 1 + 1]? = some (.cells (wideA (outL (xPlus a b) 4)) 159 (0, 0)) := hblk.trans (by rw [outK_end])
      have hrs : s.w.heap[w.heap.size + 1 + 1]? = some (.cells (wideA zero4) 159 (0, 0)) := s.blocks (w.heap.size + 1 + 1, _) (by simp)
      have hsz : (wideA (outL (xPlus a b) 4)).size = 4 := by rw [wideA_size, outL_length]
      have hsr : (wideA zero4).size = (wideA (outL (xPlus a b) 4)).size := by rw [hsz]; rfl
      have hinf : (Tryd.prog.info? 159).map (·.size) = some (wideA (outL (xPlus a b) 4)).size := by rw [hsz]; kernel_rfl
      have hone := wideA_one (outL (xPlus a b) 4)
      clear hsz
      go_wp2_with (first
        | (refine wpList_load_row rfl 159 (.tmp 6) rfl (w.heap.size + 1 + 1 + 1) rfl 159 _ (0, 0) _ hst Tryd.underlying159 rfl hinf ?_)
        | (refine wpList_store_rowTo rfl 159 (.tmp 4) (.tmp 28) rfl rfl (w.heap.size + 1 + 1) (wideA (outL (xPlus a b) 4)) rfl rfl 159 (wideA zero4) hrs hinf hsr hone ?_))
      refine bodyPost_ret (v := .agg (wideA (outL (xPlus a b) 4))) ?_ rfl ⟨rfl, below_setRow s.below (by omega) _⟩
      exact results_cell_row Tryd.results120 _ _ (w.heap.size + 1 + 1) 159 _ (0, 0) _ rfl (setRow_heap _ _ _ _ _ _ hrs) Tryd.underlying159 rfl hinf

end Go.Proofs.YtdedfjkenbaebaaDoor

/- A wide number times a number; whether a power is at most a bound. -/
namespace Go.Proofs.YtdedfjkenbaebaaDoor
open Go.RowKit
set_option linter.unusedVariables false

theorem load_wide (D : List Int) (hD : D.length = 4) {w : World} {g : Nat} (hb : w.heap[g]? = some (.cells (wideA D) 159 (0, 0))) : (Instr.loadAt 159 (.pointer (some ⟨g, 0, none⟩))).run Tryd.prog w = .ok (.agg (wideA D)) w := by
  simp only [Instr.loadAt, Instr.sureAddr, Sem.run_bind, Sem.run_pure, Result.andThen_ok]
  exact run_loadVar_row w g 159 159 (wideA D) (0, 0) _ hb Tryd.underlying159 rfl (by rw [wideA_size, hD]; kernel_rfl)
theorem u64_and16 (x : Int) (h0 : 0 ≤ x) (h1 : x < 18446744073709551616) : bits .and .u64 x 65535 = x % 65536 := by
  obtain ⟨n, rfl⟩ := Int.eq_ofNat_of_zero_le h0
  have := bits_and_u64_nat n 65535 (by omega) (by omega)
  rw [show (65535 : Int) = ((65535 : Nat) : Int) from rfl, this, show (65535 : Nat) = 2 ^ 16 - 1 from rfl, Nat.and_two_pow_sub_one_eq_mod]
  omega
def scaleL (a : List Int) (m : Int) : List Int := outL (xScale a m) 4
def shiftL (a : List Int) : List Int := outL (xShift a) 4
def plusL (a b : List Int) : List Int := outL (xPlus a b) 4
def timesL (a : List Int) (m : Int) : List Int := plusL (scaleL a (m % 65536)) (shiftL (scaleL a (m / 65536)))
theorem timesL_length (a : List Int) (m : Int) : (timesL a m).length = 4 := outL_length _ _

set_option maxRecDepth 100000 in
set_option maxHeartbeats 4000000 in
theorem times_any (a : List Int) (m : Int) (ha : a.length = 4) (h0 : 0 ≤ m) (h1 : m < 18446744073709551616) (w : World) : Calls Tryd.prog 116 #[.agg (wideA a), .int .u64 m] w (Gives (.agg (wideA (timesL a m))) w) := by
  have HA := Lib.hid ha
  have hand := u64_and16 m h0 h1
  clear ha h0 h1
  go_enter Tryd.func116, Tryd.ntmps116
  go_wp2
  obtain ⟨s, hs⟩ := two_blocks w (.cells (wideA a) 159 (0, 0)) (.cells (wideA zero4) 159 (0, 0))
  rw [show (w.alloc (.cells (wideA a) 159)).alloc (.cells #[.int .u64 0, .int .u64 0, .int .u64 0, .int .u64 0] 159) = s.w from hs.symm]
  clear hs hand
  have hld := fun (s : HeldW w [(w.heap.size + 1, .cells (wideA zero4) 159 (0, 0)), (w.heap.size, .cells (wideA a) 159 (0, 0))]) => load_wide a HA.out (s.blocks (w.heap.size, .cells (wideA a) 159 (0, 0)) (by simp))
  refine wp_region_class_tail 8 _ _ (by kernel_rfl) (by kernel_rfl) s.below s.blocks (fun hne => ?_)
  simp only [List.take_succ_cons, List.take_zero, List.drop_succ_cons, List.drop_zero]
  repeat (first | (refine quiet_load 159 (.tmp 2) (.agg (wideA a)) s.w ⟨s, rfl⟩ (by rintro _ ⟨s, rfl⟩; exact hld s) ?_; go_big_quiet_step (fail)) | go_big_quiet_step (first | (go_at_call 121; exact HeldW.call (scale_any _ _ HA.out _)) | (go_at_call 122; exact HeldW.call (shift_any _ (outL_length _ _) _)) | (go_at_call 120; exact HeldW.call (plus_any _ _ (outL_length _ _) (outL_length _ _) _))))
  clear s
  refine wpQuiet_nil ?_
  rintro _ ⟨s, rfl⟩
  clear hne hld
  have hrs : s.w.heap[w.heap.size + 1]? = some (.cells (wideA zero4) 159 (0, 0)) := s.blocks (w.heap.size + 1, _) (by simp)
  have hsz : (wideA (timesL a m)).size = 4 := by rw [wideA_size, timesL_length]
  have hsr : (wideA zero4).size = (wideA (timesL a m)).size := by rw [hsz]; rfl
  have hinf : (Tryd.prog.info? 159).map (·.size) = some (wideA (timesL a m)).size := by rw [hsz]; kernel_rfl
  have hone := wideA_one (timesL a m)
  clear hsz
  go_wp2_with (refine wpList_store_rowTo rfl 159 (.tmp 4) (.tmp 18) rfl rfl (w.heap.size + 1) (wideA (timesL a m)) rfl rfl 159 (wideA zero4) hrs hinf hsr hone ?_)
  refine bodyPost_ret (v := .agg (wideA (timesL a m))) ?_ rfl ⟨rfl, below_setRow s.below (by omega) _⟩
  exact results_cell_row Tryd.results116 _ _ (w.heap.size + 1) 159 _ (0, 0) _ rfl (setRow_heap _ _ _ _ _ _ hrs) Tryd.underlying159 rfl hinf
end Go.Proofs.YtdedfjkenbaebaaDoor

/- Whether a power is at most a bound. -/
namespace Go.Proofs.YtdedfjkenbaebaaDoor
open Go.RowKit
set_option linter.unusedVariables false

/-- The words below word k, the highest first. -/
def lexB (A B : List Int) : Nat → Bool
  | 0 => true
  | k + 1 => if A[k]?.getD 0 ≠ B[k]?.getD 0 then decide (A[k]?.getD 0 < B[k]?.getD 0) else lexB A B k
def powL (m : Int) (cubes : Bool) : List Int := if cubes then timesL (timesL [m % 4294967296, m / 4294967296, 0, 0] m) m else timesL [m % 4294967296, m / 4294967296, 0, 0] m
def bndL (n : Int) (cubes : Bool) : List Int := if cubes then [0, 0, 0, n] else [0, 0, n, 0]
def leastB (m n : Int) (cubes : Bool) : Bool := lexB (powL m cubes) (bndL n cubes) 4

set_option maxRecDepth 100000 in
set_option maxHeartbeats 8000000 in
theorem least_false (m n : Int) (h0 : 0 ≤ m) (h1 : m < 18446744073709551616) (w : World) : Calls Tryd.prog 104 #[.int .u64 m, .int .u64 n, .bool false] w (Gives (.bool (leastB m n false)) w) := by
  unfold leastB
  have hand := u64_and32 m h0 h1
  have HT := Lib.hid (fun a (ha : a.length = 4) => times_any a m ha h0 h1)
  obtain ⟨A1, hA1⟩ : ∃ A1, A1 = timesL [m % 4294967296, m / 4294967296, 0, 0] m := ⟨_, rfl⟩
  obtain ⟨A0, hA0⟩ : ∃ A0, A0 = [m % 4294967296, m / 4294967296, 0, 0] := ⟨_, rfl⟩
  have HLA1 := Lib.hid (show A1.length = 4 by rw [hA1, timesL_length])
  have ht := HT.out A0 (by rw [hA0]; rfl)
  rw [hA0, ← hA1] at ht
  rw [show powL m false = A1 from hA1.symm, show bndL n false = [0, 0, n, 0] from rfl]
  clear h0 h1 hA1 hA0 HT
  obtain ⟨B0, hB0⟩ : ∃ B0 : List Int, B0 = [0, 0, n, 0] := ⟨_, rfl⟩
  have HLB0 := Lib.hid (show B0.length = 4 by rw [hB0]; rfl)
  have hbl0 : Tryd.prog.built 159 [(0, .int .u64 (m % 4294967296)), (1, .int .u64 (m / 4294967296)), (2, .int .u64 0), (3, .int .u64 0)] = some (wideA [m % 4294967296, m / 4294967296, 0, 0]) := by kernel_rfl
  have hbl1 : Tryd.prog.built 159 [(0, .int .u64 0), (1, .int .u64 0), (2, .int .u64 n), (3, .int .u64 0)] = some (wideA B0) := by rw [hB0]; kernel_rfl
  go_enter Tryd.func104, Tryd.ntmps104
  go_wp2_with (refine wpList_buildTo rfl 159 _ rfl (some 14) rfl _ hbl0 ?_)
  refine (HeldW.call (s := HeldW.start w) (ht w)).mono ?_
  rintro e _ ⟨rfl, s1, rfl⟩
  clear ht hbl0 hand
  have hn1 := heap_new s1.w (.cells (wideA zero4) 159 (0, 0)) rfl
  have hsz1 : (wideA A1).size = 4 := by rw [wideA_size, HLA1.out]
  have hsr1 : (wideA zero4).size = (wideA A1).size := by rw [hsz1]; rfl
  have hinf7 : (Tryd.prog.info? 159).map (·.size) = some (wideA A1).size := by rw [hsz1]; kernel_rfl
  have hone1 := wideA_one A1
  obtain ⟨w7, s2, hs2, hw7, hg7⟩ : ∃ (w7 : Nat) (s2 : HeldW w [(w7, .cells (wideA A1) 159 (0, 0))]), s1.w.alloc (.cells (wideA A1) 159 (0, 0)) = s2.w ∧ w7 = s1.w.heap.size ∧ w.heap.size ≤ w7 := ⟨_, s1.push _, rfl, rfl, s1.below.size⟩
  have hn2 := heap_new s2.w (.cells (wideA zero4) 159 (0, 0)) rfl
  have hszb : (wideA B0).size = 4 := by rw [wideA_size, HLB0.out]
  have hsrb : (wideA zero4).size = (wideA B0).size := by rw [hszb]; rfl
  have hinfb : (Tryd.prog.info? 159).map (·.size) = some (wideA B0).size := by rw [hszb]; kernel_rfl
  have honeb := wideA_one B0
  obtain ⟨w8, s3, hs3, hw8, hg8, hne8⟩ : ∃ (w8 : Nat) (s3 : HeldW w [(w8, .cells (wideA B0) 159 (0, 0)), (w7, .cells (wideA A1) 159 (0, 0))]), s2.w.alloc (.cells (wideA B0) 159 (0, 0)) = s3.w ∧ w8 = s2.w.heap.size ∧ w.heap.size ≤ w8 ∧ w8 ≠ w7 :=
    ⟨_, s2.push _, rfl, rfl, s2.below.size, by have := (Array.getElem?_eq_some_iff.1 (s2.blocks (w7, _) List.mem_cons_self)).1; omega⟩
  clear hsz1 hszb
  have hs3' : s2.w.alloc (.cells #[.int .u64 0, .int .u64 0, .int .u64 n, .int .u64 0] 159) = s3.w := by rw [← hs3, hB0]; rfl
  have h7 : (s2.w.alloc (.cells #[.int .u64 0, .int .u64 0, .int .u64 n, .int .u64 0] 159)).heap[w7]? = some (.cells (wideA A1) 159 (0, 0)) := by rw [hs3']; exact s3.blocks (w7, .cells (wideA A1) 159 (0, 0)) (by simp)
  have HS3 := Lib.hid hs3'
  have HW8 := Lib.hid hw8
  have HS2 := Lib.hid hs2
  have HW7 := Lib.hid hw7
  clear hs3' hs3 hw8 hs2 hw7
  go_wp2_with (first
    | (refine wpList_store_rowTo rfl 159 (.tmp 7) (.tmp 16) rfl rfl s1.w.heap.size (wideA A1) rfl rfl 159 (wideA zero4) hn1 hinf7 hsr1 hone1 ?_; rw [World.setRow_alloc_new, HS2.out, ← HW7.out])
    | (refine wpList_buildTo rfl 159 _ rfl (some 18) rfl _ hbl1 ?_)
    | (refine wpList_load_row rfl 159 (.tmp 7) rfl w7 rfl 159 _ (0, 0) _ h7 Tryd.underlying159 rfl hinf7 ?_))
  rw [show s2.w.alloc (.cells #[.int .u64 0, .int .u64 0, .int .u64 n, .int .u64 0] 159) = s3.w from HS3.out, show s2.w.heap.size = w8 from HW8.out.symm]
  clear hn1 hsr1 hone1 hn2 hsrb honeb hinfb h7 HS3 HW8 HS2 HW7 hbl1 s2 s1
  rw [show ([0, 0, n, 0] : List Int) = B0 from hB0.symm]
  have HB := Lib.hid hB0
  clear hB0 hinf7
  go_loopw [9] (fun i wr => ((i = .int .i64 (-1) ∧ lexB A1 B0 4 = true) ∨ ∃ j : Nat, j < 4 ∧ i = .int .i64 j ∧ lexB A1 B0 4 = lexB A1 B0 (j + 1)) ∧ ∃ s : HeldW w [(w8, .cells (wideA B0) 159 (0, 0)), (w7, .cells (wideA A1) 159 (0, 0))], wr = s.w) (fun i _ => (intOf i + 1).toNat)
  case atStart => exact ⟨.inr ⟨3, by omega, rfl, rfl⟩, s3, rfl⟩
  case round =>
    clear s3
    obtain ⟨hi, s, rfl⟩ := hrel
    rcases hi with ⟨rfl, hres⟩ | ⟨j, hj, rfl, hres⟩
    · have HX := Lib.hid hres
      clear hres
      go_wp2
      go_ret
      exact ⟨by first | (rw [HX.out]; rfl) | (rw [← HB.out, HX.out]; rfl), s.below⟩
    · have cA := fun s : HeldW w [(w8, .cells (wideA B0) 159 (0, 0)), (w7, .cells (wideA A1) 159 (0, 0))] => show s.w.cell? ⟨w7, j, none⟩ = some (.int .u64 (A1[j]?.getD 0)) by
        rw [cell_of (s.blocks (w7, .cells (wideA A1) 159 (0, 0)) (by simp)), wideA_get _ (by rw [HLA1.out]; exact hj)]
      have cB := fun s : HeldW w [(w8, .cells (wideA B0) 159 (0, 0)), (w7, .cells (wideA A1) 159 (0, 0))] => show s.w.cell? ⟨w8, j, none⟩ = some (.int .u64 (B0[j]?.getD 0)) by
        rw [cell_of (s.blocks (w8, .cells (wideA B0) 159 (0, 0)) (by simp)), wideA_get _ (by rw [HLB0.out]; exact hj)]
      have HE := Lib.hid (hres.trans (show lexB A1 B0 (j + 1) = if A1[j]?.getD 0 ≠ B0[j]?.getD 0 then decide (A1[j]?.getD 0 < B0[j]?.getD 0) else lexB A1 B0 j from rfl))
      clear hres
      by_cases he : A1[j]?.getD 0 = B0[j]?.getD 0
      · have hd : (A1[j]?.getD 0 != B0[j]?.getD 0) = false := by simp [he]
        have HR2 := Lib.hid (HE.out.trans (if_neg (by simp [he])))
        generalize A1[j]?.getD 0 = x at cA hd he
        generalize B0[j]?.getD 0 = y at cB hd he
        clear HE
        go_wp2
        refine wp_region_class _ _ (by kernel_rfl) (by kernel_rfl) s.below s.blocks (fun hne => ?_)
        clear s
        repeat (go_big_quiet_step (fail))
        refine wpQuiet_nil ?_
        rintro _ ⟨s, rfl⟩
        clear hne cA cB
        go_wp2
        go_roundw
        case rel =>
          refine ⟨?_, s, rfl⟩
          cases j with
          | zero => exact .inl ⟨rfl, HR2.out⟩
          | succ j => exact .inr ⟨j, by omega, by go_num, HR2.out⟩
        case measure => simp [intOf]; try omega
      · have hd : (A1[j]?.getD 0 != B0[j]?.getD 0) = true := by simp [he]
        have HR2 := Lib.hid (HE.out.trans (if_pos he))
        generalize A1[j]?.getD 0 = x at cA hd HR2
        generalize B0[j]?.getD 0 = y at cB hd HR2
        clear HE he
        go_wp2
        refine wp_region_class _ _ (by kernel_rfl) (by kernel_rfl) s.below s.blocks (fun hne => ?_)
        clear s
        repeat (go_big_quiet_step (fail))
        refine wpQuiet_nil ?_
        rintro _ ⟨s, rfl⟩
        clear hne
        go_wp2
        refine wp_region_class _ _ (by kernel_rfl) (by kernel_rfl) s.below s.blocks (fun hne => ?_)
        clear s
        repeat (go_big_quiet_step (fail))
        refine wpQuiet_nil ?_
        rintro _ ⟨s, rfl⟩
        clear hne cA cB
        go_wp2
        go_ret
        exact ⟨by first | (rw [HR2.out]; rfl) | (rw [← HB.out, HR2.out]; rfl), s.below⟩
set_option maxRecDepth 100000 in
set_option maxHeartbeats 8000000 in
theorem least_true (m n : Int) (h0 : 0 ≤ m) (h1 : m < 18446744073709551616) (w : World) : Calls Tryd.prog 104 #[.int .u64 m, .int .u64 n, .bool true] w (Gives (.bool (leastB m n true)) w) := by
  unfold leastB
  have hand := u64_and32 m h0 h1
  have HT := Lib.hid (fun a (ha : a.length = 4) => times_any a m ha h0 h1)
  obtain ⟨A1, hA1⟩ : ∃ A1, A1 = timesL [m % 4294967296, m / 4294967296, 0, 0] m := ⟨_, rfl⟩
  obtain ⟨A0, hA0⟩ : ∃ A0, A0 = [m % 4294967296, m / 4294967296, 0, 0] := ⟨_, rfl⟩
  have HLA1 := Lib.hid (show A1.length = 4 by rw [hA1, timesL_length])
  have ht := HT.out A0 (by rw [hA0]; rfl)
  rw [hA0, ← hA1] at ht
  obtain ⟨A2, hA2⟩ : ∃ A2, A2 = timesL A1 m := ⟨_, rfl⟩
  have HLA2 := Lib.hid (show A2.length = 4 by rw [hA2, timesL_length])
  rw [show powL m true = A2 by rw [hA2, hA1]; rfl, show bndL n true = [0, 0, 0, n] from rfl]
  have HT2 := Lib.hid (HT.out A1 HLA1.out)
  rw [← hA2] at HT2
  clear hA2
  clear h0 h1 hA1 hA0 HT
  obtain ⟨B0, hB0⟩ : ∃ B0 : List Int, B0 = [0, 0, n, 0] := ⟨_, rfl⟩
  have HLB0 := Lib.hid (show B0.length = 4 by rw [hB0]; rfl)
  have hbl0 : Tryd.prog.built 159 [(0, .int .u64 (m % 4294967296)), (1, .int .u64 (m / 4294967296)), (2, .int .u64 0), (3, .int .u64 0)] = some (wideA [m % 4294967296, m / 4294967296, 0, 0]) := by kernel_rfl
  have hbl1 : Tryd.prog.built 159 [(0, .int .u64 0), (1, .int .u64 0), (2, .int .u64 n), (3, .int .u64 0)] = some (wideA B0) := by rw [hB0]; kernel_rfl
  go_enter Tryd.func104, Tryd.ntmps104
  go_wp2_with (refine wpList_buildTo rfl 159 _ rfl (some 14) rfl _ hbl0 ?_)
  refine (HeldW.call (s := HeldW.start w) (ht w)).mono ?_
  rintro e _ ⟨rfl, s1, rfl⟩
  clear ht hbl0 hand
  have hn1 := heap_new s1.w (.cells (wideA zero4) 159 (0, 0)) rfl
  have hsz1 : (wideA A1).size = 4 := by rw [wideA_size, HLA1.out]
  have hsr1 : (wideA zero4).size = (wideA A1).size := by rw [hsz1]; rfl
  have hinf7 : (Tryd.prog.info? 159).map (·.size) = some (wideA A1).size := by rw [hsz1]; kernel_rfl
  have hone1 := wideA_one A1
  obtain ⟨w7, s2, hs2, hw7, hg7⟩ : ∃ (w7 : Nat) (s2 : HeldW w [(w7, .cells (wideA A1) 159 (0, 0))]), s1.w.alloc (.cells (wideA A1) 159 (0, 0)) = s2.w ∧ w7 = s1.w.heap.size ∧ w.heap.size ≤ w7 := ⟨_, s1.push _, rfl, rfl, s1.below.size⟩
  have hn2 := heap_new s2.w (.cells (wideA zero4) 159 (0, 0)) rfl
  have hszb : (wideA B0).size = 4 := by rw [wideA_size, HLB0.out]
  have hsrb : (wideA zero4).size = (wideA B0).size := by rw [hszb]; rfl
  have hinfb : (Tryd.prog.info? 159).map (·.size) = some (wideA B0).size := by rw [hszb]; kernel_rfl
  have honeb := wideA_one B0
  obtain ⟨w8, s3, hs3, hw8, hg8, hne8⟩ : ∃ (w8 : Nat) (s3 : HeldW w [(w8, .cells (wideA B0) 159 (0, 0)), (w7, .cells (wideA A1) 159 (0, 0))]), s2.w.alloc (.cells (wideA B0) 159 (0, 0)) = s3.w ∧ w8 = s2.w.heap.size ∧ w.heap.size ≤ w8 ∧ w8 ≠ w7 :=
    ⟨_, s2.push _, rfl, rfl, s2.below.size, by have := (Array.getElem?_eq_some_iff.1 (s2.blocks (w7, _) List.mem_cons_self)).1; omega⟩
  clear hsz1 hszb
  have hs3' : s2.w.alloc (.cells #[.int .u64 0, .int .u64 0, .int .u64 n, .int .u64 0] 159) = s3.w := by rw [← hs3, hB0]; rfl
  have h7 : (s2.w.alloc (.cells #[.int .u64 0, .int .u64 0, .int .u64 n, .int .u64 0] 159)).heap[w7]? = some (.cells (wideA A1) 159 (0, 0)) := by rw [hs3']; exact s3.blocks (w7, .cells (wideA A1) 159 (0, 0)) (by simp)
  have HS3 := Lib.hid hs3'
  have HW8 := Lib.hid hw8
  have HS2 := Lib.hid hs2
  have HW7 := Lib.hid hw7
  clear hs3' hs3 hw8 hs2 hw7
  go_wp2_with (first
    | (refine wpList_store_rowTo rfl 159 (.tmp 7) (.tmp 16) rfl rfl s1.w.heap.size (wideA A1) rfl rfl 159 (wideA zero4) hn1 hinf7 hsr1 hone1 ?_; rw [World.setRow_alloc_new, HS2.out, ← HW7.out])
    | (refine wpList_buildTo rfl 159 _ rfl (some 18) rfl _ hbl1 ?_)
    | (refine wpList_load_row rfl 159 (.tmp 7) rfl w7 rfl 159 _ (0, 0) _ h7 Tryd.underlying159 rfl hinf7 ?_))
  rw [show s2.w.alloc (.cells #[.int .u64 0, .int .u64 0, .int .u64 n, .int .u64 0] 159) = s3.w from HS3.out, show s2.w.heap.size = w8 from HW8.out.symm]
  clear hn1 hsr1 hone1 hn2 hsrb honeb hinfb h7 HS3 HW8 HS2 HW7 hbl1 s2 s1
  refine (HeldW.call (s := s3) (HT2.out s3.w)).mono ?_
  rintro e _ ⟨rfl, s4, rfl⟩
  clear s3
  obtain ⟨B2, hB2⟩ : ∃ B2 : List Int, B2 = [0, 0, 0, n] := ⟨_, rfl⟩
  have HLB2 := Lib.hid (show B2.length = 4 by rw [hB2]; rfl)
  have hbl2 : Tryd.prog.built 159 [(0, .int .u64 0), (1, .int .u64 0), (2, .int .u64 0), (3, .int .u64 n)] = some (wideA B2) := by rw [hB2]; kernel_rfl
  have h7 := s4.blocks (w7, .cells (wideA A1) 159 (0, 0)) (by simp)
  have hsz2 : (wideA A2).size = 4 := by rw [wideA_size, HLA2.out]
  have hsr2 : (wideA A1).size = (wideA A2).size := by rw [hsz2, wideA_size, HLA1.out]
  have hinf2 : (Tryd.prog.info? 159).map (·.size) = some (wideA A2).size := by rw [hsz2]; kernel_rfl
  have hone2 := wideA_one A2
  obtain ⟨s5, hs5⟩ : ∃ s5 : HeldW w [(w7, .cells (wideA A2) 159 (0, 0)), (w8, .cells (wideA B0) 159 (0, 0))], s4.w.setRow w7 (wideA A2) = s5.w :=
    ⟨(s4.sub (bs' := [(w7, .cells (wideA A1) 159 (0, 0)), (w8, .cells (wideA B0) 159 (0, 0))]) (fun p hp => by simp only [List.mem_cons, List.not_mem_nil, or_false] at hp ⊢; rcases hp with h | h <;> simp [h])).row hg7 (by simpa using hne8), rfl⟩
  have h8 := s5.blocks (w8, .cells (wideA B0) 159 (0, 0)) (by simp)
  have hszc : (wideA B2).size = 4 := by rw [wideA_size, HLB2.out]
  have hsrc : (wideA B0).size = (wideA B2).size := by rw [hszc, wideA_size, HLB0.out]
  have hinfc : (Tryd.prog.info? 159).map (·.size) = some (wideA B2).size := by rw [hszc]; kernel_rfl
  have honec := wideA_one B2
  obtain ⟨s6, hs6⟩ : ∃ s6 : HeldW w [(w8, .cells (wideA B2) 159 (0, 0)), (w7, .cells (wideA A2) 159 (0, 0))], s5.w.setRow w8 (wideA B2) = s6.w :=
    ⟨(s5.sub (bs' := [(w8, .cells (wideA B0) 159 (0, 0)), (w7, .cells (wideA A2) 159 (0, 0))]) (fun p hp => by simp only [List.mem_cons, List.not_mem_nil, or_false] at hp ⊢; rcases hp with h | h <;> simp [h])).row hg8 (by simpa using (fun h => hne8 h.symm)), rfl⟩
  have HS5 := Lib.hid hs5
  have HS6 := Lib.hid hs6
  clear hs5 hs6 hsz2 hszc HT2
  go_wp2_with (first
    | (refine wpList_store_rowTo rfl 159 (.tmp 7) (.tmp 22) rfl rfl w7 (wideA A2) rfl rfl 159 (wideA A1) h7 hinf2 hsr2 hone2 ?_; rw [HS5.out])
    | (refine wpList_buildTo rfl 159 _ rfl (some 24) rfl _ hbl2 ?_)
    | (refine wpList_store_rowTo rfl 159 (.tmp 8) (.tmp 24) rfl rfl w8 (wideA B2) rfl (by rw [hB2]; rfl) 159 (wideA B0) h8 hinfc hsrc honec ?_; rw [HS6.out]))
  rw [show ([0, 0, 0, n] : List Int) = B2 from hB2.symm]
  have HB := Lib.hid hB2
  clear h7 h8 hsr2 hinf2 hone2 hsrc hinfc honec HS5 HS6 hbl2 hB2 hB0 hinf7 s4 s5 hne8
  go_loopw [9] (fun i wr => ((i = .int .i64 (-1) ∧ lexB A2 B2 4 = true) ∨ ∃ j : Nat, j < 4 ∧ i = .int .i64 j ∧ lexB A2 B2 4 = lexB A2 B2 (j + 1)) ∧ ∃ s : HeldW w [(w8, .cells (wideA B2) 159 (0, 0)), (w7, .cells (wideA A2) 159 (0, 0))], wr = s.w) (fun i _ => (intOf i + 1).toNat)
  case atStart => exact ⟨.inr ⟨3, by omega, rfl, rfl⟩, s6, rfl⟩
  case round =>
    clear s6
    obtain ⟨hi, s, rfl⟩ := hrel
    rcases hi with ⟨rfl, hres⟩ | ⟨j, hj, rfl, hres⟩
    · have HX := Lib.hid hres
      clear hres
      go_wp2
      go_ret
      exact ⟨by first | (rw [HX.out]; rfl) | (rw [← HB.out, HX.out]; rfl), s.below⟩
    · have cA := fun s : HeldW w [(w8, .cells (wideA B2) 159 (0, 0)), (w7, .cells (wideA A2) 159 (0, 0))] => show s.w.cell? ⟨w7, j, none⟩ = some (.int .u64 (A2[j]?.getD 0)) by
        rw [cell_of (s.blocks (w7, .cells (wideA A2) 159 (0, 0)) (by simp)), wideA_get _ (by rw [HLA2.out]; exact hj)]
      have cB := fun s : HeldW w [(w8, .cells (wideA B2) 159 (0, 0)), (w7, .cells (wideA A2) 159 (0, 0))] => show s.w.cell? ⟨w8, j, none⟩ = some (.int .u64 (B2[j]?.getD 0)) by
        rw [cell_of (s.blocks (w8, .cells (wideA B2) 159 (0, 0)) (by simp)), wideA_get _ (by rw [HLB2.out]; exact hj)]
      have HE := Lib.hid (hres.trans (show lexB A2 B2 (j + 1) = if A2[j]?.getD 0 ≠ B2[j]?.getD 0 then decide (A2[j]?.getD 0 < B2[j]?.getD 0) else lexB A2 B2 j from rfl))
      clear hres
      by_cases he : A2[j]?.getD 0 = B2[j]?.getD 0
      · have hd : (A2[j]?.getD 0 != B2[j]?.getD 0) = false := by simp [he]
        have HR2 := Lib.hid (HE.out.trans (if_neg (by simp [he])))
        generalize A2[j]?.getD 0 = x at cA hd he
        generalize B2[j]?.getD 0 = y at cB hd he
        clear HE
        go_wp2
        refine wp_region_class _ _ (by kernel_rfl) (by kernel_rfl) s.below s.blocks (fun hne => ?_)
        clear s
        repeat (go_big_quiet_step (fail))
        refine wpQuiet_nil ?_
        rintro _ ⟨s, rfl⟩
        clear hne cA cB
        go_wp2
        go_roundw
        case rel =>
          refine ⟨?_, s, rfl⟩
          cases j with
          | zero => exact .inl ⟨rfl, HR2.out⟩
          | succ j => exact .inr ⟨j, by omega, by go_num, HR2.out⟩
        case measure => simp [intOf]; try omega
      · have hd : (A2[j]?.getD 0 != B2[j]?.getD 0) = true := by simp [he]
        have HR2 := Lib.hid (HE.out.trans (if_pos he))
        generalize A2[j]?.getD 0 = x at cA hd HR2
        generalize B2[j]?.getD 0 = y at cB hd HR2
        clear HE he
        go_wp2
        refine wp_region_class _ _ (by kernel_rfl) (by kernel_rfl) s.below s.blocks (fun hne => ?_)
        clear s
        repeat (go_big_quiet_step (fail))
        refine wpQuiet_nil ?_
        rintro _ ⟨s, rfl⟩
        clear hne
        go_wp2
        refine wp_region_class _ _ (by kernel_rfl) (by kernel_rfl) s.below s.blocks (fun hne => ?_)
        clear s
        repeat (go_big_quiet_step (fail))
        refine wpQuiet_nil ?_
        rintro _ ⟨s, rfl⟩
        clear hne cA cB
        go_wp2
        go_ret
        exact ⟨by first | (rw [HR2.out]; rfl) | (rw [← HB.out, HR2.out]; rfl), s.below⟩
end Go.Proofs.YtdedfjkenbaebaaDoor

/- The constants of the reference are those of the table: bisection by the kernel. -/
namespace Go.Proofs.YtdedfjkenbaebaaDoor
open Go.RowKit
set_option linter.unusedVariables false

def bis (n : Int) (cubes : Bool) : Nat → Int → Int → Int
  | 0, lo, _ => lo
  | f + 1, lo, hi => if 1 < hi - lo then (if leastB ((lo + hi) / 2) n cubes then bis n cubes f ((lo + hi) / 2) hi else bis n cubes f lo ((lo + hi) / 2)) else lo
def rootI (n : Int) (cubes : Bool) : Int := IntKind.u32.wrap (bis n cubes 36 0 (if cubes then 34359738368 else 68719476736))
def primeL : List Int := [2, 3, 5, 7, 11, 13, 17, 19, 23, 29, 31, 37, 41, 43, 47, 53, 59, 61, 67, 71, 73, 79, 83, 89, 97, 101, 103, 107, 109, 113, 127, 131, 137, 139, 149, 151, 157, 163, 167, 173, 179, 181, 191, 193, 197, 199, 211, 223, 227, 229, 233, 239, 241, 251, 257, 263, 269, 271, 277, 281, 283, 293, 307, 311]
set_option maxRecDepth 100000 in
theorem squares : (primeL.take 8).map (fun p => rootI p false) = [1779033703, 3144134277, 1013904242, 2773480762, 1359893119, 2600822924, 528734635, 1541459225] := by decide +kernel
set_option maxRecDepth 100000 in
theorem cubesAll : primeL.map (fun p => rootI p true) = rootsL := by decide +kernel
end Go.Proofs.YtdedfjkenbaebaaDoor
