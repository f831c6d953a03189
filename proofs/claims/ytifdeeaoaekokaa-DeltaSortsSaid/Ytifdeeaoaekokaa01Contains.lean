/- Contains of package extent, at a slice of extents that came in or was made. -/
import Derived.Test.Ytifdeeaoaekokaa01Calls
namespace Go.Proofs.Ytifdeeaoaekokaa
open Go.RowKit Go.Shelf Go.Proofs.Ytifdeeaoaekokaa.Plain01

/-- The first n of f lie within e. -/
def insE (e x : Int × Int) : Prop := e.1 ≤ x.1 ∧ x.1 + x.2 ≤ e.1 + e.2
instance (e x : Int × Int) : Decidable (insE e x) := by unfold insE; exact inferInstance
def insB (e : Int × Int) (n : Nat) (f : Nat → Int × Int) : Bool := decide (∀ i, i < n → insE e (f i))

theorem insB_no {e : Int × Int} {n k : Nat} {f : Nat → Int × Int} (hk : k < n) (h : ¬ insE e (f k)) : insB e n f = false := by
  unfold insB; simp only [decide_eq_false_iff_not]; intro h'; exact h (h' k hk)
theorem insB_yes {e : Int × Int} {n : Nat} {f : Nat → Int × Int} (h : ∀ i, i < n → insE e (f i)) : insB e n f = true := by
  unfold insB; simp only [decide_eq_true_eq]; exact h

theorem ins_succ {e : Int × Int} {k : Nat} {f : Nat → Int × Int} (h : ∀ j, j < k → insE e (f j)) (hk : insE e (f k)) : ∀ j, j < k + 1 → insE e (f j) := fun j hj => by
  by_cases hjk : j < k
  · exact h j hjk
  · obtain rfl : j = k := by omega
    exact hk

theorem all_succ {p : Nat → Bool} {k : Nat} (h : ∀ j, j < k → p j = true) (hk : p k = true) : ∀ j, j < k + 1 → p j = true := fun j hj => by
  by_cases hjk : j < k
  · exact h j hjk
  · obtain rfl : j = k := by omega
    exact hk

/-- A slice of n extents. -/
def ExtSlice (w : World) (a : Option Addr) (n : Nat) (f : Nat → Int × Int) : Prop := 0 < n → ∃ b o, a = some ⟨b, o, none⟩ ∧ ExtRow w b o n f

theorem ExtRow.lt {w : World} {b o n : Nat} {f : Nat → Int × Int} (h : ExtRow w b o n f) (hn : 0 < n) : b < w.heap.size := World.block_lt_of_cell? w _ (h 0 hn).1

theorem ExtSlice.below {w w' : World} {a : Option Addr} {n : Nat} {f : Nat → Int × Int} (h : ExtSlice w a n f) (hb : Below w.heap.size w w') : ExtSlice w' a n f := fun hn => by
  obtain ⟨b, o, ha, hr⟩ := h hn
  exact ⟨b, o, ha, hr.below hb (hr.lt hn)⟩

theorem insB_succ (e : Int × Int) (k : Nat) (f : Nat → Int × Int) : insB e (k + 1) f = (insB e k f && decide (insE e (f k))) := by
  by_cases hin : insE e (f k)
  · by_cases h : ∀ i, i < k → insE e (f i)
    · rw [insB_yes h, insB_yes (ins_succ h hin), decide_eq_true hin]; rfl
    · have : insB e k f = false := by unfold insB; simp only [decide_eq_false_iff_not]; exact h
      rw [this, Bool.false_and]
      unfold insB; simp only [decide_eq_false_iff_not]; exact fun h' => h fun i hi => h' i (by omega)
  · rw [insB_no (k := k) (by omega) hin, decide_eq_false hin, Bool.and_false]

end Go.Proofs.Ytifdeeaoaekokaa
