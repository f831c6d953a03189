/- Words of my own for the walks of laws: what a callee gives; a region that draws its order, walked once, in a class of worlds in which some cells hold what they held. -/
import Derived.BigQuiet
import Derived.WalkKit
import Derived.Below
import Derived.OwnWalk
import Derived.Lib.Hide
namespace Go.Proofs.Ytbhpipkaojlgfaa
open Go.RowKit

/-- It returns v, and nothing that was there has changed. -/
def Gives (v : Value) (w : World) (e : Ending) (w' : World) : Prop := e = .returned v ∧ Below w.heap.size w w'

theorem below_drewN {B : Nat} {a w : World} (h : Below B a w) (n : Nat) : Below B a (w.drewN n) := ⟨h.os, h.tape, h.output, h.size, h.block⟩

section
variable {P : Program} {f : FuncId} {args : Array Value} {w : World} {v : Value}
theorem gives_same (h : Calls P f args w fun e w' => e = .returned v ∧ w' = w) : Calls P f args w (Gives v w) :=
  h.mono fun _ _ ⟨he, hw⟩ => ⟨he, by subst hw; exact Below.refl _ _⟩
theorem gives_alloc {o : Obj} (h : Calls P f args w fun e w' => e = .returned v ∧ w' = w.alloc o) : Calls P f args w (Gives v w) :=
  h.mono fun _ _ ⟨he, hw⟩ => ⟨he, hw ▸ (Below.refl _ w).alloc (Nat.le_refl _) o⟩
theorem gives_drawn (h : Calls P f args w fun e w' => e = .returned v ∧ ∃ nq, w' = w.drewN nq) : Calls P f args w (Gives v w) :=
  h.mono fun _ _ ⟨he, nq, hw⟩ => ⟨he, hw ▸ below_drewN (Below.refl _ w) nq⟩
theorem gives_drew {o : Obj} (h : Calls P f args w fun e w' => e = .returned v ∧ ∃ nq, w' = (w.alloc o).drewN nq) : Calls P f args w (Gives v w) :=
  h.mono fun _ _ ⟨he, nq, hw⟩ => ⟨he, hw ▸ below_drewN ((Below.refl _ w).alloc (Nat.le_refl _) o) nq⟩
end

/-- A world in which nothing below w0's heap has changed since w0, and the listed cells hold the listed values. -/
structure HeldW (w0 : World) (cs : List (Addr × Value)) where
  w : World
  below : Below w0.heap.size w0 w
  cells : ∀ p ∈ cs, w.cell? p.1 = some p.2

def InHeld (w0 : World) (cs : List (Addr × Value)) (w' : World) : Prop := ∃ s : HeldW w0 cs, w' = s.w

theorem HeldW.call {P : Program} {f : FuncId} {args : Array Value} {v : Value} {w0 : World} {cs : List (Addr × Value)} {s : HeldW w0 cs} (h : Calls P f args s.w (Gives v s.w)) :
    Calls P f args s.w fun e w'' => e = .returned v ∧ ∃ s' : HeldW w0 cs, w'' = s'.w :=
  h.mono fun _ w'' ⟨he, hb⟩ => ⟨he, ⟨w'', s.below.trans (hb.mono s.below.size), fun p hp => (hb.cell (World.block_lt_of_cell? s.w p.1 (s.cells p hp))).trans (s.cells p hp)⟩, rfl⟩

/-- A region that draws its order, its operations written out: one walk, in the order of the text, in the class of worlds. -/
theorem wp_region_class {P : Program} {id : Nat} {Q : Exit → Act → World → Prop} {a : Act} {w : World} {l : List Oper} (w0 : World) (cs : List (Addr × Value)) (hm : P.follows .mixedOrders = true) (hB : Region.lexB .any l.toArray = true)
    (hb : Below w0.heap.size w0 w) (hc : ∀ p ∈ cs, w.cell? p.1 = some p.2)
    (h : Nonempty (HeldW w0 cs) → wpQuiet P l.toArray (fun w' => ∃ s : HeldW w0 cs, w' = s.w) (fun a' => ∀ w', (∃ s : HeldW w0 cs, w' = s.w) → Q .normal a' w') l a) : (Code.region id l.toArray true).wp P Q a w :=
  wp_region_quiet (C := fun w' => ∃ s : HeldW w0 cs, w' = s.w) hm hB ⟨⟨w.drew, hb.drew, hc⟩, rfl⟩ (by simpa using h ⟨⟨w, hb, hc⟩⟩)

/-- The two cells of a boxed value. -/
abbrev box2 (b : Nat) (v0 v1 : Value) : List (Addr × Value) := [(⟨b, 0, none⟩, v0), (⟨b, 1, none⟩, v1)]
theorem box2_all {w : World} {b : Nat} {v0 v1 : Value} (h0 : w.cell? ⟨b, 0, none⟩ = some v0) (h1 : w.cell? ⟨b, 1, none⟩ = some v1) : ∀ p ∈ box2 b v0 v1, w.cell? p.1 = some p.2 := by
  intro p hp
  simp only [box2, List.mem_cons, List.not_mem_nil, or_false] at hp
  rcases hp with rfl | rfl
  · exact h0
  · exact h1
theorem box2_0 (w0 : World) (b : Nat) (v0 v1 : Value) (s : HeldW w0 (box2 b v0 v1)) : s.w.cell? ⟨b, 0, none⟩ = some v0 := s.cells (⟨b, 0, none⟩, v0) (by simp)
theorem box2_1 (w0 : World) (b : Nat) (v0 v1 : Value) (s : HeldW w0 (box2 b v0 v1)) : s.w.cell? ⟨b, 1, none⟩ = some v1 := s.cells (⟨b, 1, none⟩, v1) (by simp)

end Go.Proofs.Ytbhpipkaojlgfaa
