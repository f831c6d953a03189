/- The example of the chapter holds. -/
import Derived.Lib.SlBytesConst
import Derived.Test.YtmjdmojommggjaaDoor00Str
import Derived.Test.YtmjdmojommggjaaDoor03Open
namespace Go.Proofs.YtmjdmojommggjaaDoor
open Go.RowKit
set_option linter.unusedVariables false

theorem body_seal (l : List Int) : bodyOf (sealL l) = l := by
  unfold bodyOf
  rw [sealL_length, Nat.add_sub_cancel]
  unfold sealL
  rw [List.take_left]
theorem tail_seal (l : List Int) : tailOf (sealL l) = le4 (crc l) := by
  unfold tailOf
  rw [sealL_length, Nat.add_sub_cancel]
  unfold sealL
  rw [List.drop_left]
theorem sealed_seal (l : List Int) : isSealed (sealL l) = true := by
  unfold isSealed
  rw [body_seal, tail_seal, sealL_length]
  simp
/-- Open of a sealed record. -/
theorem copen_seal (l : List Int) (a : Option Addr) (cap : Nat) (w : World) (hT : Tab w) (hb : BytesIn w a (sealL l) cap) (hm : l.length ≤ 100000) {n : Nat} (hn : n = l.length + 4) : Calls Tryd.prog 16 #[.slice a n cap] w fun e w' =>
    ∃ v, e = .returned (.tuple #[v, .bool true]) ∧ ∃ s : OwnW w 5 v (l.map (Value.int .u8)), w' = s.w := by
  subst hn
  have h := copen_long (sealL l) a cap w hT hb (by rw [sealL_length]; omega) (by rw [sealL_length]; omega)
  rw [sealL_length] at h
  refine h.mono ?_
  rintro e w' (⟨_, v, he, s, hs⟩ | ⟨h1, _⟩)
  · exact ⟨v, he, s.as (by rw [body_seal]), hs⟩
  · rw [sealed_seal] at h1; cases h1

theorem crc_example : crc [49, 50, 51, 52, 53, 54, 55, 56, 57] = 3421780262 := by decide +kernel
theorem crc_nil : crc [] = 0 := by decide +kernel
theorem conv_ab (w : World) : (convert 24 24 (.slice (some ⟨w.heap.size, 0, none⟩) 2 2)).run Tryd.prog (w.alloc (.cells #[.int .u8 97, .int .u8 98] 5)) = .ok (.slice (some ⟨w.heap.size, 0, none⟩) 2 2) (w.alloc (.cells #[.int .u8 97, .int .u8 98] 5 (2, 3))) :=
  Lib.run_convert_bytes_const w 24 5 #[.int .u8 97, .int .u8 98] 2 2 Tryd.underlying24 Tryd.underlying5
theorem conv_19 (w : World) : (convert 24 24 (.slice (some ⟨w.heap.size, 0, none⟩) 9 9)).run Tryd.prog (w.alloc (.cells #[.int .u8 49, .int .u8 50, .int .u8 51, .int .u8 52, .int .u8 53, .int .u8 54, .int .u8 55, .int .u8 56, .int .u8 57] 5)) = .ok (.slice (some ⟨w.heap.size, 0, none⟩) 9 9) (w.alloc (.cells #[.int .u8 49, .int .u8 50, .int .u8 51, .int .u8 52, .int .u8 53, .int .u8 54, .int .u8 55, .int .u8 56, .int .u8 57] 5 (9, 10))) :=
  Lib.run_convert_bytes_const w 24 5 #[.int .u8 49, .int .u8 50, .int .u8 51, .int .u8 52, .int .u8 53, .int .u8 54, .int .u8 55, .int .u8 56, .int .u8 57] 9 9 Tryd.underlying24 Tryd.underlying5
theorem str_ab : strOf [97, 98] = ⟨#[97, 98]⟩ := rfl

set_option maxRecDepth 100000 in
set_option maxHeartbeats 4000000 in
theorem alive03_any (w : World) (hT : Tab w) : Calls Tryd.prog 9 #[] w (Gives (.bool true) w) := by
  have HT := Lib.hid hT
  obtain ⟨s1, hs1, hb1⟩ : ∃ s1 : HeldW w [], w.alloc (.cells #[.int .u8 97, .int .u8 98] 5 (2, 3)) = s1.w ∧ BytesIn s1.w (some ⟨w.heap.size, 0, none⟩) [97, 98] 2 :=
    ⟨⟨_, (Below.refl _ w).alloc (Nat.le_refl _) _, by simp⟩, rfl, lit_bytes (w := w) (l := [97, 98]) rfl (by simp)⟩
  have h1 := cseal_any [97, 98] (some ⟨w.heap.size, 0, none⟩) 2 s1.w (HT.out.W s1) hb1 (by simp)
  have hcv := conv_ab w
  rw [hs1] at hcv
  rw [show ([97, 98] : List Int).length = 2 from rfl] at h1
  clear hT hs1 hb1
  go_enter Tryd.func9, Tryd.ntmps9
  go_wp2_with fail
  refine h1.mono ?_
  rintro e _ ⟨v, rfl, o2, rfl⟩
  obtain ⟨a2, cap2, rfl, hb2⟩ := o2.bytes
  obtain ⟨s2, hs2⟩ : ∃ s2 : HeldW w [], o2.w = s2.w := ⟨⟨o2.w, s1.below.trans (o2.below.mono s1.below.size), by simp⟩, rfl⟩
  rw [hs2] at hb2 ⊢
  rw [show (sealL [97, 98]).length = 6 from rfl]
  have h2 := copen_seal [97, 98] a2 cap2 s2.w (HT.out.W s2) hb2 (by simp) (n := 6) rfl
  clear h1 hcv hs2 hb2 o2 s1
  go_wp2_with fail
  refine h2.mono ?_
  rintro e _ ⟨v, rfl, o3, rfl⟩
  obtain ⟨a3, cap3, rfl, hb3⟩ := o3.bytes
  obtain ⟨s3, hs3⟩ : ∃ s3 : HeldW w [], o3.w = s3.w := ⟨⟨o3.w, s2.below.trans (o3.below.mono s2.below.size), by simp⟩, rfl⟩
  rw [hs3] at hb3 ⊢
  rw [show ([97, 98] : List Int).length = 2 from rfl]
  clear h2 hs3 o3 s2
  obtain ⟨W, hW⟩ : ∃ W, W = (s3.w.alloc (.cells #[.int .u8 49, .int .u8 50, .int .u8 51, .int .u8 52, .int .u8 53, .int .u8 54, .int .u8 55, .int .u8 56, .int .u8 57] 5 (9, 10))) := ⟨_, rfl⟩
  have hcv := conv_19 s3.w
  rw [← hW] at hcv
  have hbW : BytesIn W (some ⟨s3.w.heap.size, 0, none⟩) [49, 50, 51, 52, 53, 54, 55, 56, 57] 9 := by
    rw [hW]; exact lit_bytes (w := s3.w) (l := [49, 50, 51, 52, 53, 54, 55, 56, 57]) rfl (by simp)
  have hsz : W.heap.size = s3.w.heap.size + 1 := by rw [hW]; simp
  obtain ⟨s4, hs4⟩ : ∃ s4 : HeldW w [], W = s4.w := ⟨⟨W, by rw [hW]; exact s3.below.alloc s3.below.size _, by simp⟩, rfl⟩
  have hb4 : BytesIn s4.w a3 [97, 98] cap3 := by
    rw [← hs4, hW]; exact hb3.below ((Below.refl _ _).alloc (Nat.le_refl _) _)
  rw [hs4] at hcv hbW hsz
  obtain ⟨s5, hs5⟩ : ∃ s5 : HeldW w [], s4.w.alloc (.cells #[.slice (some ⟨s3.w.heap.size, 0, none⟩) 9 9] 24) = s5.w := ⟨⟨_, s4.below.alloc s4.below.size _, by simp⟩, rfl⟩
  have hb5 : BytesIn s5.w (some ⟨s3.w.heap.size, 0, none⟩) [49, 50, 51, 52, 53, 54, 55, 56, 57] 9 := by
    rw [← hs5]; exact hbW.below ((Below.refl _ _).alloc (Nat.le_refl _) _)
  have hb6 : BytesIn s5.w a3 [97, 98] cap3 := by
    rw [← hs5]; exact hb4.below ((Below.refl _ _).alloc (Nat.le_refl _) _)
  have h3 := cof_any [[49, 50, 51, 52, 53, 54, 55, 56, 57]] (some ⟨s4.w.heap.size, 0, none⟩) 1 s5.w (HT.out.W s5) (partsIn1 (by rw [← hs5]; exact World.alloc_heap_new _ _) hb5)
  rw [show ([[49, 50, 51, 52, 53, 54, 55, 56, 57]] : List (List Int)).flatten = [49, 50, 51, 52, 53, 54, 55, 56, 57] from rfl, crc_example, show ([[49, 50, 51, 52, 53, 54, 55, 56, 57]] : List (List Int)).length = 1 from rfl, hsz] at h3
  have h4 := cof_any [] none 0 s5.w (HT.out.W s5) ⟨by simp, fun h => absurd h (by simp)⟩
  rw [show ([] : List (List Int)).flatten = [] from rfl, crc_nil, show ([] : List (List Int)).length = 0 from rfl] at h4
  have h5 := conv_str hb6
  rw [str_ab, show ([97, 98] : List Int).length = 2 from rfl] at h5
  have HS5 := Lib.hid hs5
  clear hW hs4 hb3 hb4 hbW hb5 hb6 hs5
  go_wp2_with fail
  rw [HS5.out]
  refine h3.mono ?_
  rintro e _ ⟨rfl, rfl⟩
  go_wp2_with fail
  refine h4.mono ?_
  rintro e _ ⟨rfl, rfl⟩
  go_wp2
  go_ret
  exact ⟨rfl, s5.below⟩
end Go.Proofs.YtmjdmojommggjaaDoor
