/- CommandExtents returns true for every command, and changes nothing that was there. -/
import Derived.Laws.StructEq
import Derived.Test.Ytifdeeaoaekokaa04Alive
namespace Go.Proofs.Ytifdeeaoaekokaa
open Go.RowKit Go.Shelf Go.Proofs.Ytifdeeaoaekokaa.Plain01
set_option linter.unusedVariables false

/-- What a valid command is. -/
theorem chk_ok {k t f n : Int} {L : Nat} (h : chk k t f n L = 0) : (k = 1 ∧ L = 0 ∧ n ≠ 0 ∧ okE (t, n) = true ∧ okE (f, n) = true) ∨ (k = 2 ∧ f = 0 ∧ n = 0 ∧ 0 < L ∧ okE (t, (L : Int)) = true) := by
  unfold chk wlen at h
  by_cases h1 : k = 1
  · subst h1
    simp only [if_true] at h
    rw [if_neg (by omega)] at h
    left
    by_cases hn : n = 0
    · rw [if_pos hn] at h; omega
    rw [if_neg hn] at h
    cases o1 : okE (t, n) with
    | false => rw [o1, if_pos rfl] at h; omega
    | true =>
      rw [o1, if_neg (by simp)] at h
      cases o2 : okE (f, n) with
      | false => rw [if_pos ⟨trivial, .inr o2⟩] at h; omega
      | true =>
        by_cases hL : 0 < L
        · rw [if_pos ⟨trivial, .inl hL⟩] at h; omega
        · exact ⟨rfl, by omega, hn, rfl, rfl⟩
  · by_cases h2 : k = 2
    · subst h2
      simp only [show ¬ ((2 : Int) = 1) by omega, if_false] at h
      rw [if_neg (by omega)] at h
      right
      by_cases hn : (L : Int) = 0
      · rw [if_pos hn] at h; omega
      rw [if_neg hn] at h
      cases o1 : okE (t, (L : Int)) with
      | false => rw [o1, if_pos rfl] at h; omega
      | true =>
        rw [o1, if_neg (by simp), if_neg (by simp)] at h
        by_cases hf : f ≠ 0 ∨ n ≠ 0
        · rw [if_pos ⟨trivial, hf⟩] at h; omega
        · exact ⟨rfl, by omega, by omega, by omega, rfl⟩
    · rw [if_pos ⟨h1, h2⟩] at h; omega

end Go.Proofs.Ytifdeeaoaekokaa
