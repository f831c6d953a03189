/- ShaLengths returns true for all bytes and numbers, and changes nothing that was there. -/
import Derived.Test.YtnpcocjjmajifaaDoor02LawDigests
namespace Go.Proofs.YtnpcocjjmajifaaDoor
open Go.RowKit
set_option linter.unusedVariables false

def fillK (c : Int) (K j : Nat) : List Int := List.replicate j c ++ List.replicate (K - j) 0
theorem fillK_length (c : Int) {K j : Nat} (h : j ≤ K) : (fillK c K j).length = K := by unfold fillK; rw [List.length_append, List.length_replicate, List.length_replicate]; omega
theorem fillK_set (c : Int) {K j : Nat} (h : j < K) : (fillK c K j).set j c = fillK c K (j + 1) := by
  unfold fillK
  obtain ⟨n, hn⟩ : ∃ n, K - j = n + 1 := ⟨K - j - 1, by omega⟩
  rw [hn, show K - (j + 1) = n by omega, List.set_append_right _ _ (by simp), List.length_replicate, Nat.sub_self, List.replicate_succ, List.set_cons_zero, List.replicate_succ']
  simp

set_option maxRecDepth 100000 in
set_option maxHeartbeats 16000000 in
theorem shaLengths_walk (c n : Int) (w : World) (hR : Roots w) (hcb : 0 ≤ c ∧ c ≤ 255) (hnb : 0 ≤ n ∧ n ≤ 255) : Calls Tryd.prog 4 #[.int .u8 c, .int .u8 n] w (Gives (.bool true) w) := by
  obtain ⟨N, rfl⟩ := Int.eq_ofNat_of_zero_le hnb.1
  have HR0 := Lib.hid hR
  have hw0 : IntKind.i64.wrap (N : Int) = (N : Int) := by simp [IntKind.wrap, IntKind.bits, IntKind.signed]; omega
  obtain ⟨K, hK⟩ : ∃ K, K = N % 140 := ⟨_, rfl⟩
  have hmod : (N : Int) % 140 = (K : Int) := by omega
  have hK1 : K ≤ 1000 := by omega
  have hmk := fun w => make_bytes K hK1 w
  clear hR hK hcb hnb
  go_enter Tryd.func4, Tryd.ntmps4
  go_wp2
  clear hmk hw0
  go_loopw [6, 14] (fun _ i wr => ∃ j : Nat, j ≤ K ∧ i = .int .i64 j ∧ ∃ s : HeldW w [(w.heap.size, .cells (byteA (fillK c K j)) 5 (0, 0))], wr = s.w) (fun _ i _ => K - (intOf i).toNat)
  case atStart => exact ⟨0, by omega, rfl, (HeldW.start w).push (.cells (byteA (fillK c K 0)) 5 (0, 0)), rfl⟩
  case round =>
    obtain ⟨j, hj, rfl, s, rfl⟩ := hrel
    have hblk : s.w.heap[w.heap.size]? = some (.cells (byteA (fillK c K j)) 5 (0, 0)) := s.blocks (_, _) List.mem_cons_self
    by_cases hlt : j < K
    · have hcell : s.w.cell? ⟨w.heap.size, j, none⟩ = some (.int .u8 ((fillK c K j)[j]?.getD 0)) := by
        rw [cell_of hblk, byteA_get _ (by rw [fillK_length _ hj]; exact hlt)]
      have hfree := free_of hblk j
      have HKK := Lib.hid (show (byteA (fillK c K j)).setIfInBounds j (.int .u8 c) = byteA (fillK c K (j + 1)) by rw [byteA_set, fillK_set _ hlt])
      clear hblk hmod
      go_wp2
      go_roundw
      case rel => exact ⟨j + 1, by omega, by go_num, s.store (Nat.le_refl _) (by simp) HKK.out, rfl⟩
      case measure => simp [intOf]; omega
    · obtain rfl : j = K := by omega
      obtain ⟨m, hm⟩ : ∃ m, m = fillK c j j := ⟨_, rfl⟩
      have hml : j = m.length := by rw [hm, fillK_length _ (Nat.le_refl _)]
      have HB := Lib.hid (show BytesIn s.w (some ⟨w.heap.size, 0, none⟩) m m.length from ⟨Nat.le_refl _, by omega, fun _ => ⟨w.heap.size, 0, rfl, fun i hi => by rw [Nat.zero_add, cell_of hblk, ← hm, byteA_get _ hi]⟩, fun h => by cases h⟩)
      have HR := Lib.hid (HR0.out.W s)
      have HBL := Lib.hid s.below
      clear hblk hm hmod hlt hj
      subst hml
      generalize s.w = w3 at HB HR HBL ⊢
      clear s
      go_wp2_with fail
      refine (HeldW.makes (s := HeldW.start w3) (new_any _)).mono ?_
      rintro e _ ⟨g, o, rfl, hg, hgb, hi, s1, rfl⟩
      have hal := HeldW.call (s := s1) (alive_any s1.w (HR.out.W s1))
      go_wp2_with fail
      refine hal.mono ?_
      rintro e _ ⟨rfl, s2, rfl⟩
      clear hal
      have hlt2 := (Array.getElem?_eq_some_iff.1 (s2.blocks (_, _) List.mem_cons_self)).1
      go_wp2_with fail
      refine (write1 (s2.push (.cells #[.slice (some ⟨w.heap.size, 0, none⟩) m.length m.length] 22 (0, 0))) HR hi hg (Nat.ne_of_gt hlt2) (by simp) (HeldW.src HB.out hg _) HB.out.len HB.out.capb (by simp; omega)).mono ?_
      rintro e _ ⟨rfl, o1, hi1, s3, rfl⟩
      rw [List.nil_append] at hi1
      clear hlt2 hgb hi
      have hsu := HeldW.call (s := s3) (sum_any g m o1 s3.w hi1.out (s3.blocks (g, o1) (by simp)) (HR.out.W s3) (by omega))
      have hD := Lib.hid (shaL_length m)
      have hr := Lib.hid (fun s : HeldW w3 [(g, o1)] => rof_any m (some ⟨w.heap.size, 0, none⟩) m.length s.w (HB.out.W s) (by omega))
      generalize shaL m = D at hsu hD hr
      have heq := equal_same D hD.out
      have hgt := guard_arr
      go_wp2_with fail
      refine hsu.mono ?_
      rintro e _ ⟨rfl, s4, rfl⟩
      clear hsu
      go_wp2_with fail
      refine (HeldW.call (s := s4) (hr.out s4)).mono ?_
      rintro e _ ⟨rfl, s5, rfl⟩
      clear hr
      have hle := HeldW.call (s := s5) (gives_same (len_any g m o1 hi1.out s5.w (s5.blocks (g, o1) (by simp))))
      go_wp2_with fail
      refine hle.mono ?_
      rintro e _ ⟨rfl, s6, rfl⟩
      clear hle
      go_wp2
      go_ret
      exact ⟨rfl, HBL.out.trans (s6.below.mono HBL.out.size)⟩
end Go.Proofs.YtnpcocjjmajifaaDoor
