/- The example of the chapter holds. -/
import Derived.Lib.SlBytesConst
import Derived.Test.YtnpcocjjmajifaaDoor02Format
import Derived.Test.YtnpcocjjmajifaaDoor02Known
namespace Go.Proofs.YtnpcocjjmajifaaDoor
open Go.RowKit
set_option linter.unusedVariables false

theorem hasPrefix_yes (s p : ByteArray) (w : World) (hle : p.size ≤ s.size) (he : ((s.extract 0 p.size).toList == p.toList) = true) : Calls Tryd.prog 21 #[.string s, .string p] w fun e w' => e = .returned (.bool true) ∧ w' = w := by
  go_enter Tryd.func21, Tryd.ntmps21
  go_wp2
  go_ret
  exact ⟨rfl, rfl⟩

theorem prefix_empty (w : World) : Calls Tryd.prog 21 #[.string (strOf (hexL (shaL []))), .string ⟨#[101, 51, 98, 48, 99, 52, 52, 50]⟩] w fun e w' => e = .returned (.bool true) ∧ w' = w := by
  rw [sha_empty]
  exact hasPrefix_yes _ _ w (by decide +kernel) (by decide +kernel)
theorem prefix_abc (w : World) : Calls Tryd.prog 21 #[.string (strOf (hexL (shaL [97, 98, 99]))), .string ⟨#[98, 97, 55, 56, 49, 54, 98, 102]⟩] w fun e w' => e = .returned (.bool true) ∧ w' = w := by
  rw [sha_abc]
  exact hasPrefix_yes _ _ w (by decide +kernel) (by decide +kernel)

/-- One part. -/
theorem parts1 {w : World} {g b cap : Nat} {a : Option Addr} {l : List Int} {t : TypeId} {fr : Nat × Nat} (hb : w.heap[b]? = some (.cells #[.slice a l.length cap] t fr)) (hg : b ≠ g) (hcap : l.length ≤ cap) (hcap2 : cap ≤ 9223372036854775807) (hs : Src w g a l) : PartsAt w g (some ⟨b, 0, none⟩) [l] :=
  fun _ => ⟨b, 0, rfl, hg, fun i hi => by
    obtain rfl : i = 0 := by simp at hi; omega
    exact ⟨a, cap, by rw [cell_of_row w b _ _ _ _ hb]; rfl, hcap, hcap2, hs⟩⟩
/-- Two parts. -/
theorem parts2 {w : World} {g b cap cap' : Nat} {a a' : Option Addr} {l l' : List Int} {t : TypeId} {fr : Nat × Nat} (hb : w.heap[b]? = some (.cells #[.slice a l.length cap, .slice a' l'.length cap'] t fr)) (hg : b ≠ g) (hcap : l.length ≤ cap) (hcap2 : cap ≤ 9223372036854775807) (hs : Src w g a l)
    (hcap' : l'.length ≤ cap') (hcap2' : cap' ≤ 9223372036854775807) (hs' : Src w g a' l') : PartsAt w g (some ⟨b, 0, none⟩) [l, l'] :=
  fun _ => ⟨b, 0, rfl, hg, fun i hi => by
    have : i = 0 ∨ i = 1 := by simp at hi; omega
    rcases this with rfl | rfl
    · exact ⟨a, cap, by rw [cell_of_row w b _ _ _ _ hb]; rfl, hcap, hcap2, hs⟩
    · exact ⟨a', cap', by rw [cell_of_row w b _ _ _ _ hb]; rfl, hcap', hcap2', hs'⟩⟩
theorem conv_abc (w : World) : (convert 22 22 (.slice (some ⟨w.heap.size, 0, none⟩) 3 3)).run Tryd.prog (w.alloc (.cells #[.int .u8 97, .int .u8 98, .int .u8 99] 5)) = .ok (.slice (some ⟨w.heap.size, 0, none⟩) 3 3) (w.alloc (.cells #[.int .u8 97, .int .u8 98, .int .u8 99] 5 (3, 4))) :=
  Lib.run_convert_bytes_const w 22 5 #[.int .u8 97, .int .u8 98, .int .u8 99] 3 3 Tryd.underlying22 Tryd.underlying5

set_option maxRecDepth 100000 in
set_option maxHeartbeats 4000000 in
theorem alive_any (w : World) (hR : Roots w) : Calls Tryd.prog 9 #[] w (Gives (.bool true) w) := by
  have h1 := HeldW.call (s := HeldW.start w) (of_any [] none 0 w hR (fun g _ hp => by simp at hp) (by simp) (by simp))
  have HR := Lib.hid hR
  clear hR
  rw [List.flatten_nil] at h1
  go_enter Tryd.func9, Tryd.ntmps9
  go_wp2_with fail
  refine h1.mono ?_
  rintro e _ ⟨rfl, s1, rfl⟩
  clear h1
  have h2 := HeldW.call (s := s1) (format_any (shaL []) (shaL_length _) (shaL_bytes _) s1.w)
  have HP := Lib.hid (prefix_empty)
  have h3 := fun w => gives_same (prefix_empty w)
  generalize shaL [] = D at h2 h3
  go_wp2_with fail
  refine h2.mono ?_
  rintro e _ ⟨rfl, s2, rfl⟩
  clear h2 s1
  go_wp2_with fail
  refine (HeldW.call (s := s2) (h3 _)).mono ?_
  rintro e _ ⟨rfl, s3, rfl⟩
  clear h3 s2
  have hcv := conv_abc
  go_wp2_with fail
  have hb1 : ((s3.push (.cells #[.int .u8 97, .int .u8 98, .int .u8 99] 5 (3, 4))).push (.cells #[.slice (some ⟨s3.w.heap.size, 0, none⟩) 3 3] 22 (0, 0))).w.heap[s3.w.heap.size + 1]? = some (.cells #[.slice (some ⟨s3.w.heap.size, 0, none⟩) 3 3] 22 (0, 0)) := heap_new _ _ (by simp)
  have hb2 : ((s3.push (.cells #[.int .u8 97, .int .u8 98, .int .u8 99] 5 (3, 4))).push (.cells #[.slice (some ⟨s3.w.heap.size, 0, none⟩) 3 3] 22 (0, 0))).w.heap[s3.w.heap.size]? = some (.cells #[.int .u8 97, .int .u8 98, .int .u8 99] 5 (3, 4)) := heap_old (heap_new _ _ rfl) _
  have h4 := HeldW.call (s := (s3.push (.cells #[.int .u8 97, .int .u8 98, .int .u8 99] 5 (3, 4))).push (.cells #[.slice (some ⟨s3.w.heap.size, 0, none⟩) 3 3] 22 (0, 0))) (of_any [[97, 98, 99]] (some ⟨s3.w.heap.size + 1, 0, none⟩) 1 _ (HR.out.W _)
    (fun g hg => parts1 hb1 (by simp at hg; omega) (by simp) (by omega) (fun _ => ⟨s3.w.heap.size, 0, rfl, by simp at hg; omega, fun i hi => by
      rw [cell_of_row _ _ _ _ _ _ hb2]
      have : i = 0 ∨ i = 1 ∨ i = 2 := by simp at hi; omega
      rcases this with rfl | rfl | rfl <;> rfl⟩)) (by simp) (by simp))
  clear hb1 hb2
  rw [show ([[97, 98, 99]] : List (List Int)).flatten = [97, 98, 99] from rfl] at h4
  refine h4.mono ?_
  rintro e _ ⟨rfl, s4, rfl⟩
  clear h4 hcv
  have h5 := HeldW.call (s := s4) (format_any (shaL [97, 98, 99]) (shaL_length _) (shaL_bytes _) s4.w)
  have h6 := fun w => gives_same (prefix_abc w)
  generalize shaL [97, 98, 99] = D2 at h5 h6
  go_wp2_with fail
  refine h5.mono ?_
  rintro e _ ⟨rfl, s5, rfl⟩
  clear h5 s4
  go_wp2_with fail
  refine (HeldW.call (s := s5) (h6 _)).mono ?_
  rintro e _ ⟨rfl, s6, rfl⟩
  clear h6 s5
  go_wp2
  go_ret
  exact ⟨rfl, s6.below⟩
end Go.Proofs.YtnpcocjjmajifaaDoor
