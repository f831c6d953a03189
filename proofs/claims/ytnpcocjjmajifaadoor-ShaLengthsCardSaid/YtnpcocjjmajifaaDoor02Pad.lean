/- padding of package sha. -/
import Derived.Laws.MakeOwn
import Derived.Test.YtnpcocjjmajifaaDoor02Write
namespace Go.Proofs.YtnpcocjjmajifaaDoor
open Go.RowKit
set_option linter.unusedVariables false

/-- Bytes as cells. -/
def byteA (l : List Int) : Array Value := (l.map (Value.int .u8)).toArray
theorem byteA_get (l : List Int) {i : Nat} (h : i < l.length) : (byteA l)[i]? = some (.int .u8 (l[i]?.getD 0)) := by
  unfold byteA; rw [List.getElem?_toArray, List.getElem?_map, List.getElem?_eq_getElem h]; rfl
theorem byteA_set (l : List Int) (i : Nat) (v : Int) : (byteA l).setIfInBounds i (.int .u8 v) = byteA (l.set i v) := by
  unfold byteA; apply Array.toList_inj.1; rw [Array.toList_setIfInBounds]; simp only [List.map_set]
theorem byteA_one (l : List Int) : (byteA l).all (·.oneCell') = true := by
  rw [Array.all_eq_true_iff_forall_mem]
  intro v hv
  unfold byteA at hv
  rw [List.mem_toArray] at hv
  exact one_bytes l v hv
theorem byteA_size (l : List Int) : (byteA l).size = l.length := by unfold byteA; simp

/-- How many zero bytes follow. -/
def zerosOf (n : Nat) : Nat := (119 - n % 64) % 64
/-- The j lowest bytes of a number, the most significant one first. -/
def lowB (b : Nat) : Nat → List Int
  | 0 => []
  | j + 1 => ((b / 256 ^ j % 256 : Nat) : Int) :: lowB b j
theorem lowB_length (b j : Nat) : (lowB b j).length = j := by induction j with | zero => rfl | succ j ih => rw [lowB, List.length_cons, ih]
/-- The padding while it comes. -/
def padK (z b j : Nat) : List Int := 128 :: (List.replicate (z + 8 - j) 0 ++ lowB b j)
/-- What follows the bytes in a message. -/
def padL (n : Nat) : List Int := padK (zerosOf n) (n * 8) 8
theorem padK_length (z b : Nat) {j : Nat} (h : j ≤ z + 8) : (padK z b j).length = z + 9 := by
  unfold padK; rw [List.length_cons, List.length_append, List.length_replicate, lowB_length]; omega
theorem padK_set (z b : Nat) {j : Nat} (h : j < z + 8) : (padK z b j).set (z + 8 - j) ((b / 256 ^ j % 256 : Nat) : Int) = padK z b (j + 1) := by
  unfold padK
  obtain ⟨k, hk⟩ : ∃ k, z + 8 - j = k + 1 := ⟨z + 8 - j - 1, by omega⟩
  rw [hk, List.set_cons_succ, show z + 8 - (j + 1) = k by omega, List.replicate_succ', lowB]
  rw [List.append_assoc, List.set_append_right _ _ (by simp)]
  simp

theorem made_zero (k : Nat) : madeCells (Value.int .u8 0).cells (k * 1) = byteA (List.replicate k 0) := by
  apply Array.ext_getElem?
  intro i
  unfold madeCells byteA
  rw [Nat.mul_one]
  by_cases h : i < k
  · simp [h, Value.cells, Nat.mod_one]
  · simp [h]
theorem make_cap (l k : Nat) (hl : l ≤ k) (hk : k ≤ 1000) (w : World) : (Instr.makeSlice 22 (.int .i64 (l : Int)) (.int .i64 (k : Int))).run Tryd.prog w = .ok (.slice (some ⟨w.heap.size, 0, none⟩) l k) (w.alloc (.cells (byteA (List.replicate k 0)) 5)) := by
  have hi : ∃ i, Tryd.prog.info? 5 = some i ∧ i.zero = some (.int .u8 0) ∧ i.size = 1 ∧ i.bytes = 1 := by
    have h : (Tryd.prog.info? 5).map (fun i => (i.zero, i.size, i.bytes)) = some (some (.int .u8 0), 1, 1) := by kernel_rfl
    obtain ⟨i, hi, he⟩ := Option.map_eq_some_iff.1 h
    simp only [Prod.mk.injEq] at he
    exact ⟨i, hi, he.1, he.2.1, he.2.2⟩
  obtain ⟨i, hi, hz, hs, hb⟩ := hi
  rw [run_make w 22 5 i _ Tryd.underlying22 hi hz .i64 .i64 l k (by omega) (by omega) (by rw [hb]; omega) (by omega)]
  rw [hs, Int.toNat_natCast, Int.toNat_natCast, made_zero]
theorem make_bytes (k : Nat) (hk : k ≤ 1000) (w : World) : (Instr.makeSlice 22 (.int .i64 (k : Int)) (.int .i64 (k : Int))).run Tryd.prog w = .ok (.slice (some ⟨w.heap.size, 0, none⟩) k k) (w.alloc (.cells (byteA (List.replicate k 0)) 5)) := make_cap k k (Nat.le_refl _) hk w

set_option maxRecDepth 100000 in
set_option maxHeartbeats 4000000 in
theorem padding_any (n : Nat) (w : World) (hn : n < 2305843009213693952) :
    Calls Tryd.prog 26 #[.int .i64 n] w fun e w' => e = .returned (.slice (some ⟨w.heap.size, 0, none⟩) (zerosOf n + 9) (zerosOf n + 9)) ∧ Below w.heap.size w w' ∧ w'.heap[w.heap.size]? = some (.cells (byteA (padL n)) 5 (0, 0)) := by
  have hz : (119 - (n : Int) % 64) % 64 = (zerosOf n : Int) := by unfold zerosOf; omega
  have hz2 : zerosOf n < 64 := by unfold zerosOf; omega
  have hz3 : 0 ≤ (n : Int) % 64 := by omega
  have hz4 : (n : Int) % 64 < 64 := by omega
  unfold padL
  generalize zerosOf n = z at hz hz2 ⊢
  have hmk : ∀ w, (Instr.makeSlice 22 (.int .i64 (1 + (z : Int) + 8)) (.int .i64 (1 + (z : Int) + 8))).run Tryd.prog w = .ok (.slice (some ⟨w.heap.size, 0, none⟩) (z + 9) (z + 9)) (w.alloc (.cells (byteA (List.replicate (z + 9) 0)) 5)) := fun w => by
    have := make_bytes (z + 9) (by omega) w
    rw [show ((z + 9 : Nat) : Int) = 1 + (z : Int) + 8 by omega] at this
    exact this
  obtain ⟨A, hA⟩ : ∃ A, A = byteA (List.replicate (z + 9) 0) := ⟨_, rfl⟩
  rw [← hA] at hmk
  have hA0 : A[0]? = some (.int .u8 0) := by rw [hA, byteA_get _ (by simp)]; simp
  have HA : Hid (A.setIfInBounds 0 (.int .u8 128) = byteA (padK z (n * 8) 0)) := Lib.hid (by rw [hA, byteA_set]; unfold padK lowB; simp [List.replicate_succ])
  have hA1 : 0 < A.size := by rw [hA, byteA_size]; simp
  clear hA
  go_enter Tryd.func26, Tryd.ntmps26
  go_wp2
  rw [hz, HA.out]
  clear hz hmk hA0 HA hA1 A
  obtain ⟨s0, hs0⟩ : ∃ s0 : HeldW w [(w.heap.size, .cells (byteA (padK z (n * 8) 0)) 5 (0, 0))], w.alloc (.cells (byteA (padK z (n * 8) 0)) 5) = s0.w := ⟨(HeldW.start w).push _, rfl⟩
  rw [hs0]
  clear hs0
  go_loopw [5, 6] (fun q i wr => ∃ j : Nat, j ≤ 8 ∧ i = .int .i64 ((z : Int) + 8 - j) ∧ ∃ b : Nat, Hid (b = n * 8 / 256 ^ j) ∧ b < 18446744073709551616 ∧ q = .int .u64 b ∧ ∃ s : HeldW w [(w.heap.size, .cells (byteA (padK z (n * 8) j)) 5 (0, 0))], wr = s.w) (fun _ i _ => (intOf i).toNat - z)
  case atStart => exact ⟨0, by omega, congrArg (Value.int .i64) (by omega), n * 8, Lib.hid (by simp), by omega, congrArg (Value.int .u64) (by omega), s0, rfl⟩
  case round =>
    clear s0
    obtain ⟨j, hj, rfl, b, hb, hb2, rfl, s, rfl⟩ := hrel
    have hblk : s.w.heap[w.heap.size]? = some (.cells (byteA (padK z (n * 8) j)) 5 (0, 0)) := s.blocks (_, _) List.mem_cons_self
    by_cases hlt : j < 8
    · have hcell : s.w.cell? ⟨w.heap.size, z + 8 - j, none⟩ = some (.int .u8 ((padK z (n * 8) j)[z + 8 - j]?.getD 0)) := by
        rw [cell_of hblk, byteA_get _ (by rw [padK_length _ _ (by omega)]; omega)]
      have hfree := free_of hblk (z + 8 - j)
      have HK : (byteA (padK z (n * 8) j)).setIfInBounds (z + 8 - j) (.int .u8 ((b : Int) % 256)) = byteA (padK z (n * 8) (j + 1)) := by
        rw [show ((b : Int) % 256) = ((n * 8 / 256 ^ j % 256 : Nat) : Int) by rw [← hb.out]; omega, byteA_set, padK_set z _ (by omega)]
      have HKH := Lib.hid HK
      have hidx : ((z : Int) + 8 - j).toNat = z + 8 - j := by omega
      have hi0 : 0 ≤ (z : Int) + 8 - j := by omega
      have hi1 : (z : Int) + 8 - j < z + 9 := by omega
      have hgt : (z : Int) < (z : Int) + 8 - j := by omega
      clear HK hblk
      go_wp2
      go_roundw
      case rel => exact ⟨j + 1, by omega, congrArg (Value.int .i64) (by omega), b / 256, Lib.hid (by rw [hb.out, Nat.div_div_eq_div_mul, Nat.pow_succ]), by omega, congrArg (Value.int .u64) (by omega), s.store (Nat.le_refl _) (by simp) HKH.out, rfl⟩
      case measure => simp only [intOf]; omega
    · obtain rfl : j = 8 := by omega
      have hle : ¬ (z : Int) < (z : Int) + 8 - ((8 : Nat) : Int) := by omega
      go_wp2
      go_ret
      exact ⟨rfl, s.below, hblk⟩
end Go.Proofs.YtnpcocjjmajifaaDoor
