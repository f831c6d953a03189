/- Split of package extent: the pieces, in a slice of its own, at every valid extent and every size. -/
import Derived.Test.YtdedfjkenbaebaaDoorE08a5
import Derived.Deep.DeepMust
namespace Go.Proofs.YtdedfjkenbaebaaDoor
open Go.RowKit Go.Shelf Go.Proofs.YtdedfjkenbaebaaDoor.Plain01
attribute [local go_sem] Oper.semAt_some

theorem KpBoxes.trans {Be Bs : Nat} {A B C : World} (h : KpBoxes Be Bs A B) (k : KpBoxes Be Bs B C) : KpBoxes Be Bs A C := ⟨k.1.trans h.1, k.2.trans h.2⟩

/-- The cells of a list of extents. -/
def extCells (l : List (Int × Int)) : List Value := l.flatMap fun x => [.int .i64 x.1, .int .i64 x.2]
theorem extCells_snoc (l : List (Int × Int)) (x : Int × Int) : extCells (l ++ [x]) = extCells l ++ [.int .i64 x.1, .int .i64 x.2] := by simp [extCells]

theorem infoExtent : (Tryd.prog.info? 71).map (fun i => (i.zero, i.size, i.bytes)) = some (some (.agg #[.int .i64 0, .int .i64 0]), 2, 16) := by kernel_rfl

/-- What Split's caller is told. -/
def SplitPost (off len size : Int) (w : World) (e : Ending) (w' : World) : Prop :=
  ∃ v, e = .returned v ∧ w'.ownsRow w.heap.size 71 2 v (nsp len size) (extCells (upto (piece off len size) (nsp len size))) ∧ Below w.heap.size w w'

/-- The first of two new blocks, behind a growth that writes no row. -/
theorem first_kept {w w1 : World} {o0 o1 : Obj} (h : ((w.alloc o0).alloc o1).grownBy w1 none) : w1.heap[w.heap.size]? = some o0 :=
  (h.block _ (by simp; omega) (by simp)).trans ((Below.heap_alloc _ _ _ (by simp)).trans (World.alloc_heap_new w _))

/-- Three new blocks. -/
theorem three_new (w : World) (o0 : Obj) (o1 o2 : Obj) : (((w.alloc o0).alloc o1).alloc o2).heap.size = w.heap.size + 3 ∧ (((w.alloc o0).alloc o1).alloc o2).heap[w.heap.size + 1]? = some o1 ∧ (((w.alloc o0).alloc o1).alloc o2).heap[w.heap.size + 1 + 1]? = some o2 ∧ Below w.heap.size w (((w.alloc o0).alloc o1).alloc o2) := by
  refine ⟨by simp, ?_, ?_, (((Below.refl _ w).alloc (Nat.le_refl _) _).alloc (by simp) _).alloc (by simp; omega) _⟩
  · refine (Below.heap_alloc _ _ _ (by simp)).trans ?_
    have := World.alloc_heap_new (w.alloc o0) o1
    rwa [World.size_alloc] at this
  · have := World.alloc_heap_new ((w.alloc o0).alloc o1) o2
    rwa [World.size_alloc, World.size_alloc] at this

theorem two_new_cells (W : World) (a b : Value) (t : TypeId) : ∀ (j : Nat) (u : Value), [a, b][j]? = some u → (W.alloc (.cells #[a, b] t)).cell? ((⟨W.heap.size, 0, none⟩ : Addr).add j) = some u := by
  intro j u h
  have e : (⟨W.heap.size, 0, none⟩ : Addr).add j = ⟨W.heap.size, j, none⟩ := by simp [Addr.add]; omega
  rw [e, World.cell?_alloc_mark]
  simpa using h

theorem size_ownFrom {β : Type} (B m : Nat) : OwnFrom B (fun (_ : β) W => m ≤ W.heap.size) := fun _ _ _ _ hs hg _ => Nat.le_trans hs hg.size

theorem KpBoxes.refl (Be Bs : Nat) (A : World) : KpBoxes Be Bs A A := ⟨rfl, rfl⟩
theorem kpBoxes_alloc {Be Bs : Nat} {A : World} (h1 : Be < A.heap.size) (h2 : Bs < A.heap.size) (o : Obj) : KpBoxes Be Bs A (A.alloc o) := ⟨Below.heap_alloc _ _ _ h1, Below.heap_alloc _ _ _ h2⟩
/-- A growth that writes another row, then a store into another block. -/
theorem kpBoxes_grown_set {Be Bs g B : Nat} {A A' : World} (h1 : Be < A.heap.size) (h2 : Bs < A.heap.size) (hg : A.grownBy A' (some g)) (e1 : Be ≠ g) (e2 : Bs ≠ g) (e3 : Be ≠ B) (e4 : Bs ≠ B) (v : Value) : KpBoxes Be Bs A (A'.setCell ⟨B, 0, none⟩ v) :=
  ⟨(Below.heap_setCell _ _ _ _ e3).trans (hg.block _ h1 (by simpa using e1)), (Below.heap_setCell _ _ _ _ e4).trans (hg.block _ h2 (by simpa using e2))⟩

theorem cells_own {β : Type} (B : Nat) (cs : Array Value) (t : TypeId) : Own (fun (_ : β) W => W.heap[B]? = some (.cells cs t (0, 0))) := fun s X Y row hs hg hrow =>
  (hg.block B (Array.getElem?_eq_some_iff.1 hs).1 (fun e => by obtain ⟨o, ho, hc⟩ := hrow B e.symm; rw [hs] at ho; cases ho; cases hc)).trans hs

theorem kpBoxes_put {Be Bs : Nat} {w : World} (h1 : Be < w.heap.size) (h2 : Bs < w.heap.size) (W : World) (l : Nat) (o o' : Obj) (hl : w.heap.size ≤ l) (_ : W.heap[l]? = some o) (_ : o.isCells = false) (_ : o.isWalk = false) : KpBoxes Be Bs W (W.putObj l o') :=
  ⟨World.putObj_heap_other (by omega), World.putObj_heap_other (by omega)⟩

end Go.Proofs.YtdedfjkenbaebaaDoor
