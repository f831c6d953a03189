/- The example of the chapter. -/
import Derived.Test.Ytifdeeaoaekokaa04PartC
namespace Go.Proofs.Ytifdeeaoaekokaa
open Go.RowKit Go.Shelf Go.Proofs.Ytifdeeaoaekokaa.Plain01
set_option linter.unusedVariables false

theorem bytes_nil (w : World) : BytesIn w none [] 0 := ⟨by simp, by omega, fun h => absurd h (by simp), fun _ => rfl⟩
theorem okB_nil : OkB [] := fun x hx => absurd hx (by simp)
theorem rsame_nil (k t f n k' t' f' n' : Int) (w : World) : Calls Try.prog 45 #[cmdV k t f n (.slice none 0 0), cmdV k' t' f' n' (.slice none 0 0)] w (Gives (.bool (sameB k t f n [] k' t' f' n' [])) w) :=
  rsame_any k t f n k' t' f' n' [] [] none none 0 0 w (bytes_nil w) (bytes_nil w) okB_nil okB_nil
theorem msame_nil (k t f n k' t' f' n' : Int) (w : World) : Calls Try.prog 44 #[cmdV k t f n (.slice none 0 0), cmdV k' t' f' n' (.slice none 0 0)] w (Gives (.bool (sameB k t f n [] k' t' f' n' [])) w) :=
  msame_any k t f n k' t' f' n' [] [] none none 0 0 w (bytes_nil w) (bytes_nil w) okB_nil okB_nil

end Go.Proofs.Ytifdeeaoaekokaa
