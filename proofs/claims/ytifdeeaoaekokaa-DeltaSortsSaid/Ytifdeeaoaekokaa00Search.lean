/- sort.Search, over a function value that may draw and lay blocks. -/
import Derived.LoopTactic
import Derived.BigQuiet
import Derived.Shelf.Abstract
import Derived.Test.Ytifdeeaoaekokaa02Own
import Derived.Test.YtifdeeaoaekokaaProg
namespace Go.Proofs.Ytifdeeaoaekokaa
open Go.RowKit
set_option linter.unusedVariables false
set_option linter.unusedSimpArgs false

/-- The first place at which p holds, or n. -/
structure FirstAt (n : Nat) (p : Nat → Bool) (r : Nat) : Prop where
  le : r ≤ n
  no : ∀ t, t < r → p t = false
  yes : r < n → p r = true
def SearchPost (n : Nat) (p : Nat → Bool) (w : World) (e : Ending) (w' : World) : Prop := ∃ r : Nat, e = .returned (.int .i64 r) ∧ FirstAt n p r ∧ Below w.heap.size w w'

set_option maxRecDepth 100000 in
set_option maxHeartbeats 2000000 in
theorem search_any (cb : Nat) (lb : Array Value) (n : Nat) (p : Nat → Bool) (w : World) (eg : ∀ args w, (callFunc cb args).run Try.prog w = .ok (.enter cb args) w) (hsz : n ≤ 4611686018427387903)
    (hf : ∀ (s : HeldW w []) (i : Nat), i < n → Calls Try.prog cb (#[.int .i64 i] ++ lb) s.w (Gives (.bool (p i)) s.w)) (hmono : ∀ a b, a ≤ b → b < n → p a = true → p b = true) :
    Calls Try.prog 49 #[.int .i64 n, .func (.func cb) #[] lb] w (SearchPost n p w) := by
  have HF := Lib.hid hf
  have HM := Lib.hid hmono
  have hpost : Hid (∀ (r : Nat) (s : HeldW w []), FirstAt n p r → SearchPost n p w (.returned (.int .i64 r)) s.w) := Lib.hid fun r s h => ⟨r, rfl, h, s.below⟩
  clear hf hmono
  go_enter Try.func49, Try.ntmps49
  go_wp2
  go_loopw [5, 6] (fun u v wr => ∃ i j : Nat, i ≤ j ∧ j ≤ n ∧ u = .int .i64 i ∧ v = .int .i64 j ∧ Hid ((∀ t, t < i → p t = false) ∧ (∀ t, j ≤ t → t < n → p t = true)) ∧ ∃ s : HeldW w [], wr = s.w) (fun u v _ => (intOf v).toNat - (intOf u).toNat)
  case atStart => exact ⟨0, n, by omega, by omega, rfl, rfl, Lib.hid ⟨fun t ht => by omega, fun t h1 h2 => by omega⟩, HeldW.start w, rfl⟩
  case round =>
    obtain ⟨i, j, hij, hjn, rfl, rfl, hI, s, rfl⟩ := hrel
    by_cases hlt : i < j
    · obtain ⟨H, hH⟩ : ∃ H, H = (i + j) / 2 := ⟨_, rfl⟩
      have rh : ((i : Int) + (j : Int)) / 2 = (H : Int) := by omega
      have l3 : i ≤ H := by omega
      have l4 : H < j := by omega
      have hc := HF.out s H (by omega)
      clear hH
      cases hp : p H with
      | true =>
        have hstep : Hid ((∀ t, t < i → p t = false) ∧ (∀ t, H ≤ t → t < n → p t = true)) := Lib.hid ⟨hI.out.1, fun t h1 h2 => HM.out H t h1 h2 hp⟩
        rw [hp] at hc
        clear hp
        go_wp2_with (go_at_fn cb; refine (HeldW.call hc).mono ?_; rintro e _ ⟨rfl, s2, rfl⟩)
        go_roundw
        case rel => exact ⟨i, H, by omega, by omega, rfl, by go_num, hstep, s2, rfl⟩
        case measure => simp [intOf]; omega
      | false =>
        have hstep : Hid ((∀ t, t < H + 1 → p t = false) ∧ (∀ t, j ≤ t → t < n → p t = true)) := Lib.hid ⟨fun t h1 => (by
          cases ht : p t with
          | false => rfl
          | true => exact absurd (HM.out t H (by omega) (by omega) ht) (by rw [hp]; simp)), hI.out.2⟩
        rw [hp] at hc
        clear hp
        go_wp2_with (go_at_fn cb; refine (HeldW.call hc).mono ?_; rintro e _ ⟨rfl, s2, rfl⟩)
        go_roundw
        case rel => exact ⟨H + 1, j, by omega, by omega, by go_num, rfl, hstep, s2, rfl⟩
        case measure => simp [intOf]; omega
    · obtain rfl : i = j := by omega
      go_wp2
      go_ret
      exact hpost.out i s ⟨hjn, hI.out.1, fun h => hI.out.2 i (Nat.le_refl _) h⟩
end Go.Proofs.Ytifdeeaoaekokaa
