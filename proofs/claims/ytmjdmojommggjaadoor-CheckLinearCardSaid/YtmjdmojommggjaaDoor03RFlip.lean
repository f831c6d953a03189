/- Flip of the reference, where there is such a bit. -/
import Derived.Test.YtmjdmojommggjaaDoor00Clone8
import Derived.Test.YtmjdmojommggjaaDoor03Flip
namespace Go.Proofs.YtmjdmojommggjaaDoor
open Go.RowKit
set_option linter.unusedVariables false

/-- A block of bytes, as a slice. -/
theorem bytesIn_block {w : World} {g : Nat} {l : List Int} {t : TypeId} {fr : Nat × Nat} (h : w.heap[g]? = some (.cells (byteA l) t fr)) (hl : l.length ≤ 9223372036854775807) : BytesIn w (some ⟨g, 0, none⟩) l l.length :=
  ⟨Nat.le_refl _, hl, fun _ => ⟨g, 0, rfl, fun i hi => by rw [Nat.zero_add, cell_of_row w g _ _ _ _ h, byteA_get l hi]⟩, fun h => by cases h⟩

set_option maxRecDepth 100000 in
set_option maxHeartbeats 1000000 in
theorem rcflip_bit (n B : Nat) (w : World) (hn : n ≤ 1000) (hB : B < 8 * n) : Calls Tryd.prog 19 #[.int .i64 (n : Int), .int .i64 (B : Int)] w (Gives (.int .u32 (flipN n B : Int)) w) := by
  have d1 : decide ((n : Int) < 1) = false := by simp; omega
  have d2 : decide ((65536 : Int) < (n : Int)) = false := by simp; omega
  have d3 : decide ((B : Int) < 0) = false := by simp
  have d4 : decide ((8 : Int) * (n : Int) ≤ (B : Int)) = false := by simp; omega
  have hmk := make_bytes n (by omega)
  obtain ⟨Z, hZ⟩ : ∃ Z, Z = List.replicate n (0 : Int) := ⟨_, rfl⟩
  have hZl : Z.length = n := by rw [hZ, List.length_replicate]
  obtain ⟨q, hq2⟩ : ∃ q, q = B / 8 := ⟨_, rfl⟩
  obtain ⟨k, hk⟩ : ∃ k, k = B % 8 := ⟨_, rfl⟩
  have hq : q < n := by omega
  have HX := Lib.hid (show crc Z ^^^ crc (Z.set q ((2 ^ k : Nat) : Int)) = flipN n B by
    rw [hq2, hk, hZ, crc_flip_zero (by omega), xor_twice])
  have hz0 : Z[q]?.getD 0 = 0 := by rw [hZ, List.getElem?_replicate, if_pos hq]; rfl
  have hsh := shl8 (k := k) (by omega)
  have hmod : (B : Int) % 8 = (k : Int) := by omega
  have hdiv : (B : Int) / 8 = (q : Int) := by omega
  rw [← hZ] at hmk
  obtain ⟨g, s0, hg, hmk2⟩ : ∃ (g : Nat) (s0 : HeldW w [(g, .cells (byteA Z) 5 (0, 0))]), w.heap.size ≤ g ∧ (Instr.makeSlice 24 (.int .i64 (n : Int)) (.int .i64 (n : Int))).run Tryd.prog w = .ok (.slice (some ⟨g, 0, none⟩) n n) s0.w :=
    ⟨w.heap.size, (HeldW.start w).push _, Nat.le_refl _, hmk w⟩
  clear hmk hZ
  have hb0 : s0.w.heap[g]? = some (.cells (byteA Z) 5 (0, 0)) := s0.blocks (_, _) List.mem_cons_self
  have h1 := rcof_any Z (some ⟨g, 0, none⟩) Z.length s0.w (bytesIn_block hb0 (by omega))
  have hcell : s0.w.cell? ⟨g, q, none⟩ = some (.int .u8 0) := by rw [cell_of hb0, byteA_get Z (by omega), hz0]
  have hfree := free_of hb0 (q)
  generalize hp : ((2 ^ (k) : Nat) : Int) = P at hsh HX
  obtain ⟨s1, hs1⟩ : ∃ s1 : HeldW w [(g, .cells (byteA (Z.set (q) P)) 5 (0, 0))], s0.w.setCell ⟨g, q, none⟩ (.int .u8 P) = s1.w := ⟨s0.store hg (by simp) (byteA_set _ _ _), rfl⟩
  have HS1 := Lib.hid hs1
  have h2 := rcof_any (Z.set (q) P) (some ⟨g, 0, none⟩) (Z.set (q) P).length s1.w (bytesIn_block (s1.blocks (_, _) List.mem_cons_self) (by rw [List.length_set]; omega))
  have hx : bits .xor .u32 (crc Z : Int) (crc (Z.set (q) P) : Int) = (flipN n B : Int) := by rw [bits_xor32 (crc_lt _) (crc_lt _), HX.out]
  rw [List.length_set, hZl] at h2
  rw [hZl] at h1
  generalize crc (Z.set (q) P) = c2 at h2 hx
  generalize crc Z = c1 at h1 hx
  generalize flipN n B = F at hx ⊢
  clear hZl HX hz0 hb0 hs1 hp hk hq2
  go_enter Tryd.func19, Tryd.ntmps19
  go_wp2_with fail
  refine h1.mono ?_
  rintro e _ ⟨rfl, rfl⟩
  go_wp2_with fail
  rw [HS1.out]
  refine h2.mono ?_
  rintro e _ ⟨rfl, rfl⟩
  go_wp2
  go_ret
  exact ⟨rfl, s1.below⟩
end Go.Proofs.YtmjdmojommggjaaDoor
