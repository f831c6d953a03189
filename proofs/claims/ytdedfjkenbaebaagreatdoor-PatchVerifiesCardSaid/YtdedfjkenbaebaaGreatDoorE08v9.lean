import Derived.Test.YtdedfjkenbaebaaGreatDoorE08v8
import Derived.Laws.StructEq
/- Part of package command: no part, and the part of a Copy. -/
namespace Go.Proofs.YtdedfjkenbaebaaGreatDoor
open Go.RowKit Go.Shelf Go.Proofs.YtdedfjkenbaebaaGreatDoor.Plain01
set_option linter.unusedVariables false

/-- Five cells of a new block are written. -/
theorem below_put5 {B : Nat} {a w : World} (h : Below B a w) {b : Nat} (hb : B ≤ b) (v0 v1 v2 v3 v4 : Value) : Below B a (((((w.setCell ⟨b, 0, none⟩ v0).setCell ⟨b, 1, none⟩ v1).setCell ⟨b, 2, none⟩ v2).setCell ⟨b, 3, none⟩ v3).setCell ⟨b, 4, none⟩ v4) :=
  ((((h.setCell (p := ⟨b, 0, none⟩) hb _).setCell (p := ⟨b, 1, none⟩) hb _).setCell (p := ⟨b, 2, none⟩) hb _).setCell (p := ⟨b, 3, none⟩) hb _).setCell (p := ⟨b, 4, none⟩) hb _

/-- The zero command and false. -/
abbrev noPart : Value := .tuple #[cmdV 0 0 0 0 (.slice none 0 0), .bool false]

end Go.Proofs.YtdedfjkenbaebaaGreatDoor

/- The example of the chapter. -/
namespace Go.Proofs.YtdedfjkenbaebaaGreatDoor
open Go.RowKit Go.Shelf Go.Proofs.YtdedfjkenbaebaaGreatDoor.Plain01
set_option linter.unusedVariables false

theorem bytes_nil (w : World) : BytesIn w none [] 0 := ⟨by simp, by omega, fun h => absurd h (by simp), fun _ => rfl⟩
theorem okB_nil : OkB [] := fun x hx => absurd hx (by simp)
theorem rsame_nil (k t f n k' t' f' n' : Int) (w : World) : Calls Tryz.prog 58 #[cmdV k t f n (.slice none 0 0), cmdV k' t' f' n' (.slice none 0 0)] w (Gives (.bool (sameB k t f n [] k' t' f' n' [])) w) :=
  rsame_any k t f n k' t' f' n' [] [] none none 0 0 w (bytes_nil w) (bytes_nil w) okB_nil okB_nil
end Go.Proofs.YtdedfjkenbaebaaGreatDoor

/- CommandExtents returns true for every command, and changes nothing that was there. -/
namespace Go.Proofs.YtdedfjkenbaebaaGreatDoor
open Go.RowKit Go.Shelf Go.Proofs.YtdedfjkenbaebaaGreatDoor.Plain01
set_option linter.unusedVariables false

/-- What a valid command is. -/
theorem chk_ok {k t f n : Int} {L : Nat} (h : chk k t f n L = 0) : (k = 1 ∧ L = 0 ∧ n ≠ 0 ∧ okE (t, n) = true ∧ okE (f, n) = true) ∨ (k = 2 ∧ f = 0 ∧ n = 0 ∧ 0 < L ∧ okE (t, (L : Int)) = true) := by
  unfold chk wlen at h
  by_cases h1 : k = 1
  · subst h1
    simp only [if_true] at h
    rw [if_neg (by omega)] at h
    left
    by_cases hn : n = 0
    · rw [if_pos hn] at h; omega
    rw [if_neg hn] at h
    cases o1 : okE (t, n) with
    | false => rw [o1, if_pos rfl] at h; omega
    | true =>
      rw [o1, if_neg (by simp)] at h
      cases o2 : okE (f, n) with
      | false => rw [if_pos ⟨trivial, .inr o2⟩] at h; omega
      | true =>
        by_cases hL : 0 < L
        · rw [if_pos ⟨trivial, .inl hL⟩] at h; omega
        · exact ⟨rfl, by omega, hn, rfl, rfl⟩
  · by_cases h2 : k = 2
    · subst h2
      simp only [show ¬ ((2 : Int) = 1) by omega, if_false] at h
      rw [if_neg (by omega)] at h
      right
      by_cases hn : (L : Int) = 0
      · rw [if_pos hn] at h; omega
      rw [if_neg hn] at h
      cases o1 : okE (t, (L : Int)) with
      | false => rw [o1, if_pos rfl] at h; omega
      | true =>
        rw [o1, if_neg (by simp), if_neg (by simp)] at h
        by_cases hf : f ≠ 0 ∨ n ≠ 0
        · rw [if_pos ⟨trivial, hf⟩] at h; omega
        · exact ⟨rfl, by omega, by omega, by omega, rfl⟩
    · rw [if_pos ⟨h1, h2⟩] at h; omega

end Go.Proofs.YtdedfjkenbaebaaGreatDoor
