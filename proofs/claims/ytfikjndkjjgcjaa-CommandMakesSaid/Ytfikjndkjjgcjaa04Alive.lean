/- The example of the chapter. -/
import Derived.Test.Ytfikjndkjjgcjaa04PartC
namespace Go.Proofs.Ytfikjndkjjgcjaa
open Go.RowKit Go.Shelf Go.Proofs.Ytfikjndkjjgcjaa.Plain01
set_option linter.unusedVariables false

theorem bytes_nil (w : World) : BytesIn w none [] 0 := ⟨by simp, by omega, fun h => absurd h (by simp), fun _ => rfl⟩
theorem okB_nil : OkB [] := fun x hx => absurd hx (by simp)
theorem rsame_nil (k t f n k' t' f' n' : Int) (w : World) : Calls Try.prog 12 #[cmdV k t f n (.slice none 0 0), cmdV k' t' f' n' (.slice none 0 0)] w (Gives (.bool (sameB k t f n [] k' t' f' n' [])) w) :=
  rsame_any k t f n k' t' f' n' [] [] none none 0 0 w (bytes_nil w) (bytes_nil w) okB_nil okB_nil
theorem msame_nil (k t f n k' t' f' n' : Int) (w : World) : Calls Try.prog 25 #[cmdV k t f n (.slice none 0 0), cmdV k' t' f' n' (.slice none 0 0)] w (Gives (.bool (sameB k t f n [] k' t' f' n' [])) w) :=
  msame_any k t f n k' t' f' n' [] [] none none 0 0 w (bytes_nil w) (bytes_nil w) okB_nil okB_nil

set_option maxRecDepth 100000 in
set_option maxHeartbeats 4000000 in
theorem alive04_gives (w : World) : Calls Try.prog 9 #[] w (Gives (.bool true) w) := by
  have hp : ∀ w, Calls Try.prog 22 #[cmdV 1 10 3 5 (.slice none 0 0), extV (12, 2)] w (Gives (.tuple #[cmdV 1 12 5 2 (.slice none 0 0), .bool true]) w) := fun w => part_copy 10 3 5 none 0 0 (12, 2) rfl rfl rfl (by decide) (by decide) w
  have hc1 := mcopy_any 10 3 5
  have hc2 := mcopy_any 12 5 2
  have hk := check_any 1 12 5 2 none 0 0 (by unfold I64; omega) (by unfold I64; omega) (by unfold I64; omega) i64_0
  rw [show chk 1 12 5 2 0 = 0 by decide] at hk
  have hs1 := rsame_nil 1 12 5 2 1 12 5 2
  have hs2 := msame_nil 1 12 5 2 1 12 5 2
  rw [sameB_refl] at hs1 hs2
  go_enter Try.func9, Try.ntmps9
  go_wp2_with fail
  refine (HeldW.call (s := HeldW.start w) (hc1 _)).mono ?_
  rintro e _ ⟨rfl, s1, rfl⟩
  go_wp2_with fail
  refine (HeldW.call (s := s1) (hp _)).mono ?_
  rintro e _ ⟨rfl, s2, rfl⟩
  go_wp2_with fail
  obtain ⟨B, S, hB, hB0, hS⟩ := s2.more (cmdO 1 12 5 2 (.slice none 0 0))
  rw [hS, ← hB]
  clear hS hB
  refine wp_region_class _ _ (by kernel_rfl) (by kernel_rfl) (S).below (S).blocks (fun hne => ?_)
  obtain ⟨d0, d1, d2, d3, d4⟩ := held_cmdA (S) (B) 1 12 5 2 (.slice none 0 0) (by simp)
  repeat (go_big_quiet_step ((first | (go_at_call 12; exact HeldW.call (hs1 _)) | (go_at_call 13; exact HeldW.call (hk _)) | (go_at_call 10; exact HeldW.call (hc2 _)) | (go_at_call 25; exact HeldW.call (hs2 _)))))
  refine wpQuiet_nil ?_
  rintro _ ⟨s3, rfl⟩
  clear hne d0 d1 d2 d3 d4
  go_wp2_with fail
  go_ret
  exact ⟨rfl, s3.below⟩
end Go.Proofs.Ytfikjndkjjgcjaa
