/- A wide number times a number; whether a power is at most a bound. -/
import Derived.Test.YtnpcocjjmajifaaDoor02LawParts
import Derived.Test.YtnpcocjjmajifaaDoor02Wide
namespace Go.Proofs.YtnpcocjjmajifaaDoor
open Go.RowKit
set_option linter.unusedVariables false

theorem load_wide (D : List Int) (hD : D.length = 4) {w : World} {g : Nat} (hb : w.heap[g]? = some (.cells (wideA D) 73 (0, 0))) : (Instr.loadAt 73 (.pointer (some ⟨g, 0, none⟩))).run Tryd.prog w = .ok (.agg (wideA D)) w := by
  simp only [Instr.loadAt, Instr.sureAddr, Sem.run_bind, Sem.run_pure, Result.andThen_ok]
  exact run_loadVar_row w g 73 73 (wideA D) (0, 0) _ hb Tryd.underlying73 rfl (by rw [wideA_size, hD]; kernel_rfl)
theorem u64_and16 (x : Int) (h0 : 0 ≤ x) (h1 : x < 18446744073709551616) : bits .and .u64 x 65535 = x % 65536 := by
  obtain ⟨n, rfl⟩ := Int.eq_ofNat_of_zero_le h0
  have := bits_and_u64_nat n 65535 (by omega) (by omega)
  rw [show (65535 : Int) = ((65535 : Nat) : Int) from rfl, this, show (65535 : Nat) = 2 ^ 16 - 1 from rfl, Nat.and_two_pow_sub_one_eq_mod]
  omega
def scaleL (a : List Int) (m : Int) : List Int := outL (xScale a m) 4
def shiftL (a : List Int) : List Int := outL (xShift a) 4
def plusL (a b : List Int) : List Int := outL (xPlus a b) 4
def timesL (a : List Int) (m : Int) : List Int := plusL (scaleL a (m % 65536)) (shiftL (scaleL a (m / 65536)))
theorem timesL_length (a : List Int) (m : Int) : (timesL a m).length = 4 := outL_length _ _

set_option maxRecDepth 100000 in
set_option maxHeartbeats 4000000 in
theorem times_any (a : List Int) (m : Int) (ha : a.length = 4) (h0 : 0 ≤ m) (h1 : m < 18446744073709551616) (w : World) : Calls Tryd.prog 44 #[.agg (wideA a), .int .u64 m] w (Gives (.agg (wideA (timesL a m))) w) := by
  have HA := Lib.hid ha
  have hand := u64_and16 m h0 h1
  clear ha h0 h1
  go_enter Tryd.func44, Tryd.ntmps44
  go_wp2
  obtain ⟨s, hs⟩ := two_blocks w (.cells (wideA a) 73 (0, 0)) (.cells (wideA zero4) 73 (0, 0))
  rw [show (w.alloc (.cells (wideA a) 73)).alloc (.cells #[.int .u64 0, .int .u64 0, .int .u64 0, .int .u64 0] 73) = s.w from hs.symm]
  clear hs hand
  have hld := fun (s : HeldW w [(w.heap.size + 1, .cells (wideA zero4) 73 (0, 0)), (w.heap.size, .cells (wideA a) 73 (0, 0))]) => load_wide a HA.out (s.blocks (w.heap.size, .cells (wideA a) 73 (0, 0)) (by simp))
  refine wp_region_class_tail 8 _ _ (by kernel_rfl) (by kernel_rfl) s.below s.blocks (fun hne => ?_)
  simp only [List.take_succ_cons, List.take_zero, List.drop_succ_cons, List.drop_zero]
  repeat (first | (refine quiet_load 73 (.tmp 2) (.agg (wideA a)) s.w ⟨s, rfl⟩ (by rintro _ ⟨s, rfl⟩; exact hld s) ?_; go_big_quiet_step (fail)) | go_big_quiet_step (first | (go_at_call 46; exact HeldW.call (scale_any _ _ HA.out _)) | (go_at_call 47; exact HeldW.call (shift_any _ (outL_length _ _) _)) | (go_at_call 45; exact HeldW.call (plus_any _ _ (outL_length _ _) (outL_length _ _) _))))
  clear s
  refine wpQuiet_nil ?_
  rintro _ ⟨s, rfl⟩
  clear hne hld
  have hrs : s.w.heap[w.heap.size + 1]? = some (.cells (wideA zero4) 73 (0, 0)) := s.blocks (w.heap.size + 1, _) (by simp)
  have hsz : (wideA (timesL a m)).size = 4 := by rw [wideA_size, timesL_length]
  have hsr : (wideA zero4).size = (wideA (timesL a m)).size := by rw [hsz]; rfl
  have hinf : (Tryd.prog.info? 73).map (·.size) = some (wideA (timesL a m)).size := by rw [hsz]; kernel_rfl
  have hone := wideA_one (timesL a m)
  clear hsz
  go_wp2_with (refine wpList_store_rowTo rfl 73 (.tmp 4) (.tmp 18) rfl rfl (w.heap.size + 1) (wideA (timesL a m)) rfl rfl 73 (wideA zero4) hrs hinf hsr hone ?_)
  refine bodyPost_ret (v := .agg (wideA (timesL a m))) ?_ rfl ⟨rfl, below_setRow s.below (by omega) _⟩
  exact results_cell_row Tryd.results44 _ _ (w.heap.size + 1) 73 _ (0, 0) _ rfl (setRow_heap _ _ _ _ _ _ hrs) Tryd.underlying73 rfl hinf
end Go.Proofs.YtnpcocjjmajifaaDoor
