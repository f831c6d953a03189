/- Words of my own for the walks of laws: what a callee gives; a region that draws its order, walked once, in a class of worlds in which some cells hold what they held. -/
import Derived.BigQuiet
import Derived.WalkKit
import Derived.Below
import Derived.OwnWalk
import Derived.Lib.Hide
import Derived.RangeFuncRecord
namespace Go.Proofs.Ytclalbiggnalfaa
open Go.RowKit

/-- It returns v, and nothing that was there has changed. -/
def Gives (v : Value) (w : World) (e : Ending) (w' : World) : Prop := e = .returned v ∧ Below w.heap.size w w'

theorem below_drewN {B : Nat} {a w : World} (h : Below B a w) (n : Nat) : Below B a (w.drewN n) := ⟨h.os, h.tape, h.output, h.size, h.block⟩

section
variable {P : Program} {f : FuncId} {args : Array Value} {w : World} {v : Value}
theorem gives_same (h : Calls P f args w fun e w' => e = .returned v ∧ w' = w) : Calls P f args w (Gives v w) :=
  h.mono fun _ _ ⟨he, hw⟩ => ⟨he, by subst hw; exact Below.refl _ _⟩
theorem gives_alloc {o : Obj} (h : Calls P f args w fun e w' => e = .returned v ∧ w' = w.alloc o) : Calls P f args w (Gives v w) :=
  h.mono fun _ _ ⟨he, hw⟩ => ⟨he, hw ▸ (Below.refl _ w).alloc (Nat.le_refl _) o⟩
theorem gives_drawn (h : Calls P f args w fun e w' => e = .returned v ∧ ∃ nq, w' = w.drewN nq) : Calls P f args w (Gives v w) :=
  h.mono fun _ _ ⟨he, nq, hw⟩ => ⟨he, hw ▸ below_drewN (Below.refl _ w) nq⟩
theorem gives_drew {o : Obj} (h : Calls P f args w fun e w' => e = .returned v ∧ ∃ nq, w' = (w.alloc o).drewN nq) : Calls P f args w (Gives v w) :=
  h.mono fun _ _ ⟨he, nq, hw⟩ => ⟨he, hw ▸ below_drewN ((Below.refl _ w).alloc (Nat.le_refl _) o) nq⟩
end

/-- A world in which nothing below w0's heap has changed since w0, and the listed blocks are what they were. -/
structure HeldW (w0 : World) (bs : List (Nat × Obj)) where
  w : World
  below : Below w0.heap.size w0 w
  blocks : ∀ p ∈ bs, w.heap[p.1]? = some p.2

theorem HeldW.call {P : Program} {f : FuncId} {args : Array Value} {v : Value} {w0 : World} {bs : List (Nat × Obj)} {s : HeldW w0 bs} (h : Calls P f args s.w (Gives v s.w)) :
    Calls P f args s.w fun e w'' => e = .returned v ∧ ∃ s' : HeldW w0 bs, w'' = s'.w :=
  h.mono fun _ w'' ⟨he, hb⟩ => ⟨he, ⟨w'', s.below.trans (hb.mono s.below.size), fun p hp => (hb.block _ (Array.getElem?_eq_some_iff.1 (s.blocks p hp)).1).trans (s.blocks p hp)⟩, rfl⟩

/-- The world at the start of a function; a new block laid in a held world. -/
abbrev HeldW.start (w : World) : HeldW w [] := ⟨w, Below.refl _ _, by simp⟩
abbrev HeldW.push {w0 : World} {bs : List (Nat × Obj)} (s : HeldW w0 bs) (o : Obj) : HeldW w0 ((s.w.heap.size, o) :: bs) :=
  ⟨s.w.alloc o, s.below.alloc s.below.size o, List.forall_mem_cons.2 ⟨World.alloc_heap_new s.w o, fun p hp => (Below.heap_alloc _ _ _ (Array.getElem?_eq_some_iff.1 (s.blocks p hp)).1).trans (s.blocks p hp)⟩⟩

/-- From here on: what lies now is old. -/
abbrev HeldW.rebase {w0 : World} {bs : List (Nat × Obj)} (s : HeldW w0 bs) : HeldW s.w bs := ⟨s.w, Below.refl _ _, s.blocks⟩

/-- Fewer blocks are listed. -/
abbrev HeldW.sub {w0 : World} {bs bs' : List (Nat × Obj)} (s : HeldW w0 bs) (h : ∀ p ∈ bs', p ∈ bs) : HeldW w0 bs' := ⟨s.w, s.below, fun p hp => s.blocks p (h p hp)⟩

/-- A callee that gives more than one value: what it gives, behind a definition of its own. -/
theorem HeldW.callQ {P : Program} {f : FuncId} {args : Array Value} {w0 : World} {bs : List (Nat × Obj)} {s : HeldW w0 bs} {R : Ending → World → Prop} {V : Value → World → Prop} (h : Calls P f args s.w R) (hR : ∀ e w', R e w' → ∃ v, e = .returned v ∧ V v w' ∧ Below s.w.heap.size s.w w') :
    Calls P f args s.w fun e w'' => ∃ v, e = .returned v ∧ ∃ s' : HeldW w0 bs, w'' = s'.w ∧ V v s'.w :=
  h.mono fun e w'' hr => by
    obtain ⟨v, he, hv, hb⟩ := hR e w'' hr
    exact ⟨v, he, ⟨w'', s.below.trans (hb.mono s.below.size), fun p hp => (hb.block _ (Array.getElem?_eq_some_iff.1 (s.blocks p hp)).1).trans (s.blocks p hp)⟩, rfl, hv⟩

/-- A region that draws its order, its operations written out: one walk, in the order of the text, in the class of worlds. -/
theorem wp_region_class {P : Program} {id : Nat} {Q : Exit → Act → World → Prop} {a : Act} {w : World} {l : List Oper} (w0 : World) (bs : List (Nat × Obj)) (hm : P.follows .mixedOrders = true) (hB : Region.lexB .any l.toArray = true)
    (hb : Below w0.heap.size w0 w) (hc : ∀ p ∈ bs, w.heap[p.1]? = some p.2)
    (h : Nonempty (HeldW w0 bs) → wpQuiet P l.toArray (fun w' => ∃ s : HeldW w0 bs, w' = s.w) (fun a' => ∀ w', (∃ s : HeldW w0 bs, w' = s.w) → Q .normal a' w') l a) : (Code.region id l.toArray true).wp P Q a w :=
  wp_region_quiet (C := fun w' => ∃ s : HeldW w0 bs, w' = s.w) hm hB ⟨⟨w.drew, hb.drew, hc⟩, rfl⟩ (by simpa using h ⟨⟨w, hb, hc⟩⟩)

/-- A cell of a block that is known whole; it may be written. -/
theorem cell_of {w : World} {b : Nat} {cs : Array Value} {t : TypeId} {fr : Nat × Nat} (h : w.heap[b]? = some (.cells cs t fr)) (i : Nat) : w.cell? ⟨b, i, none⟩ = cs[i]? := by simp [World.cell?, h]
theorem free_of {w : World} {b : Nat} {cs : Array Value} {t : TypeId} (h : w.heap[b]? = some (.cells cs t (0, 0))) (i : Nat) : w.frozen? ⟨b, i, none⟩ = false := by simp [World.frozen?, h]

/-- What is said of each of one, two .. listed things. -/
theorem all1 {α : Type} {Q : α → Prop} {a : α} (ha : Q a) : ∀ p ∈ [a], Q p := by simpa using ha
theorem all2 {α : Type} {Q : α → Prop} {a b : α} (ha : Q a) (hb : Q b) : ∀ p ∈ [a, b], Q p := List.forall_mem_cons.2 ⟨ha, all1 hb⟩
theorem all3 {α : Type} {Q : α → Prop} {a b c : α} (ha : Q a) (hb : Q b) (hc : Q c) : ∀ p ∈ [a, b, c], Q p := List.forall_mem_cons.2 ⟨ha, all2 hb hc⟩
theorem all4 {α : Type} {Q : α → Prop} {a b c d : α} (ha : Q a) (hb : Q b) (hc : Q c) (hd : Q d) : ∀ p ∈ [a, b, c, d], Q p := List.forall_mem_cons.2 ⟨ha, all3 hb hc hd⟩

/-- Blocks of new worlds. -/
theorem heap_new (w : World) (o : Obj) {n : Nat} (hn : n = w.heap.size) : (w.alloc o).heap[n]? = some o := by subst hn; exact World.alloc_heap_new w o
theorem heap_old {w : World} {k : Nat} {o' : Obj} (h : w.heap[k]? = some o') (o : Obj) : (w.alloc o).heap[k]? = some o' := (Below.heap_alloc _ _ _ (Array.getElem?_eq_some_iff.1 h).1).trans h
theorem heap_below {w w1 : World} {k : Nat} {o : Obj} (h : w.heap[k]? = some o) (hb : Below w.heap.size w w1) : w1.heap[k]? = some o := (hb.block _ (Array.getElem?_eq_some_iff.1 h).1).trans h

end Go.Proofs.Ytclalbiggnalfaa
