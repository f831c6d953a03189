/- Overlap of package extent and of its reference: the same extent at every two valid extents. -/
import Derived.Test.Ytifdeeaoaekokaa01Plain2
import Derived.Test.Ytifdeeaoaekokaa01Calls
namespace Go.Proofs.Ytifdeeaoaekokaa
open Go.RowKit Go.Shelf Go.Proofs.Ytifdeeaoaekokaa.Plain01

/-- Three new blocks. -/
theorem three_ext (w : World) (o0 o1 o2 : Obj) : (((w.alloc o0).alloc o1).alloc o2).heap[w.heap.size]? = some o0 ∧ (((w.alloc o0).alloc o1).alloc o2).heap[w.heap.size + 1]? = some o1 ∧ (((w.alloc o0).alloc o1).alloc o2).heap[w.heap.size + 1 + 1]? = some o2 ∧ Below w.heap.size w (((w.alloc o0).alloc o1).alloc o2) :=
  ⟨heap_old (heap_old (heap_new w o0 rfl) _) _, heap_old (heap_new _ o1 (by simp)) _, heap_new _ o2 (by simp), (((Below.refl _ w).alloc (Nat.le_refl _) _).alloc (by simp) _).alloc (by simp; omega) _⟩

/-- The blocks of a function of two extents: the two boxed arguments, the result. -/
abbrev args2 (w : World) (a b : Int × Int) : List (Nat × Obj) := [(w.heap.size, extO a), (w.heap.size + 1, extO b), (w.heap.size + 1 + 1, extO (0, 0))]

set_option maxRecDepth 100000 in
set_option maxHeartbeats 4000000 in
theorem roverlap_gives (a b : Int × Int) (ha : okE a = true) (hb : okE b = true) (w : World) : Calls Try.prog 29 #[extV a, extV b] w (Gives (extV (ovl a b)) w) := by
  obtain ⟨a0, a1, a2⟩ := okE_iff.1 ha
  obtain ⟨b0, b1, b2⟩ := okE_iff.1 hb
  clear ha hb
  by_cases c3 : min (a.1 + a.2) (b.1 + b.2) ≤ max a.1 b.1 <;> by_cases c1 : a.1 < b.1 <;> by_cases c2 : b.1 + b.2 < a.1 + a.2
  all_goals
    go_enter Try.func29, Try.ntmps29
    go_wp2
    first
      | (have hv := (ovl_no c3).1)
      | (have hv := (ovl_yes (a := a) (b := b) (lo := b.1) (hi := b.1 + b.2) (by omega) (by omega) (by omega)).1)
      | (have hv := (ovl_yes (a := a) (b := b) (lo := b.1) (hi := a.1 + a.2) (by omega) (by omega) (by omega)).1)
      | (have hv := (ovl_yes (a := a) (b := b) (lo := a.1) (hi := b.1 + b.2) (by omega) (by omega) (by omega)).1)
      | (have hv := (ovl_yes (a := a) (b := b) (lo := a.1) (hi := a.1 + a.2) (by omega) (by omega) (by omega)).1)
    rw [hv]
    clear hv
    refine bodyPost_ret (v := .agg #[.int .i64 _, .int .i64 _]) (by simp [results, Try.results29, go_sem]) rfl ⟨rfl, ?_⟩
    exact (((Below.refl _ w).alloc (Nat.le_refl _) _).alloc (by simp) _).alloc (by simp; omega) _
end Go.Proofs.Ytifdeeaoaekokaa
