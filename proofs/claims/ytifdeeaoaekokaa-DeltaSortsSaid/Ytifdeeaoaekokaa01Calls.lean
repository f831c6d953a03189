/- What the small functions of package extent and of its reference return; each leaves what was there. -/
import Derived.Test.Ytifdeeaoaekokaa01Ext
namespace Go.Proofs.Ytifdeeaoaekokaa
open Go.RowKit Go.Shelf Go.Proofs.Ytifdeeaoaekokaa.Plain01

/-- A boxed extent: the block. -/
abbrev extO (x : Int × Int) : Obj := .cells #[.int .i64 x.1, .int .i64 x.2] 50 (0, 0)

/-- The cells of an extent's block. -/
theorem ext_cells {w : World} {b : Nat} {x : Int × Int} (h : w.heap[b]? = some (extO x)) : w.cell? ⟨b, 0, none⟩ = some (.int .i64 x.1) ∧ w.cell? ⟨b, 1, none⟩ = some (.int .i64 x.2) ∧ ∀ i, w.frozen? ⟨b, i, none⟩ = false :=
  ⟨by rw [cell_of h]; rfl, by rw [cell_of h]; rfl, fun i => free_of h i⟩
theorem held_ext (w0 : World) {bs : List (Nat × Obj)} (b : Nat) (x : Int × Int) (hm : (b, extO x) ∈ bs) :
    (∀ s : HeldW w0 bs, s.w.cell? ⟨b, 0, none⟩ = some (.int .i64 x.1)) ∧ (∀ s : HeldW w0 bs, s.w.cell? ⟨b, 1, none⟩ = some (.int .i64 x.2)) :=
  ⟨fun s => (ext_cells (s.blocks _ hm)).1, fun s => (ext_cells (s.blocks _ hm)).2.1⟩

theorem held_ext1 {w0 : World} {bs : List (Nat × Obj)} (s : HeldW w0 bs) (b : Nat) (x : Int × Int) (hm : (b, extO x) ∈ bs) :
    s.w.cell? ⟨b, 0, none⟩ = some (.int .i64 x.1) ∧ s.w.cell? ⟨b, 1, none⟩ = some (.int .i64 x.2) ∧ ∀ i, s.w.frozen? ⟨b, i, none⟩ = false := ext_cells (s.blocks _ hm)

theorem held_extA {w0 : World} {bs : List (Nat × Obj)} (_ : HeldW w0 bs) (b : Nat) (x : Int × Int) (hm : (b, extO x) ∈ bs) :
    (∀ s : HeldW w0 bs, s.w.cell? ⟨b, 0, none⟩ = some (.int .i64 x.1)) ∧ (∀ s : HeldW w0 bs, s.w.cell? ⟨b, 1, none⟩ = some (.int .i64 x.2)) := held_ext w0 b x hm
/-- The cells of a listed extent, and that its block is an old one. -/
theorem held_ext2 {w0 : World} {bs : List (Nat × Obj)} (s : HeldW w0 bs) (b : Nat) (x : Int × Int) (hm : (b, extO x) ∈ bs) :
    s.w.cell? ⟨b, 0, none⟩ = some (.int .i64 x.1) ∧ s.w.cell? ⟨b, 1, none⟩ = some (.int .i64 x.2) ∧ b < s.w.heap.size := ⟨(ext_cells (s.blocks _ hm)).1, (ext_cells (s.blocks _ hm)).2.1, (Array.getElem?_eq_some_iff.1 (s.blocks _ hm)).1⟩

/-- A boxed extent, behind a callee. -/
theorem boxed_ext {w w1 : World} {o : Obj} (hb1 : Below (w.alloc o).heap.size (w.alloc o) w1) :
    w1.heap[w.heap.size]? = some o ∧ Below w.heap.size w w1 :=
  ⟨heap_below (heap_new w o rfl) hb1, ((Below.refl w.heap.size w).alloc (Nat.le_refl _) _).trans (hb1.mono (by simp))⟩

theorem valid_gives (x : Int × Int) (h0 : I64 x.1) (h1 : I64 x.2) (w : World) : Calls Try.prog 47 #[extV x] w (Gives (.bool (okE x)) w) := gives_alloc (valid_any x.1 x.2 h0 h1 w)
theorem end_gives (x : Int × Int) (h : okE x = true) (w : World) : Calls Try.prog 38 #[extV x] w (Gives (.int .i64 (x.1 + x.2)) w) := by
  rw [okE_iff] at h
  exact gives_alloc (end_any x.1 x.2 h.1 h.2.1 h.2.2 w)

theorem end_gives2 (p q : Int) (hp : 0 ≤ p) (hq : 0 ≤ q) (hs : p + q ≤ 4611686018427387903) (w : World) : Calls Try.prog 38 #[.agg #[.int .i64 p, .int .i64 q]] w (Gives (.int .i64 (p + q)) w) :=
  gives_alloc (end_any p q hp hq hs w)

theorem okE_false {x : Int × Int} (h : ¬ (0 ≤ x.1 ∧ 0 ≤ x.2 ∧ x.1 + x.2 ≤ 4611686018427387903)) : okE x = false := by rw [Bool.eq_false_iff, Ne, okE_iff]; exact h

theorem rmax_any (w : World) : Calls Try.prog 27 #[] w fun e w' => e = .returned (.int .i64 4611686018427387903) ∧ w' = w := by
  go_enter Try.func27, Try.ntmps27
  go_wp2
  go_ret
  exact ⟨rfl, rfl⟩

theorem rvalid_any (off len : Int) (h0 : I64 off) (h1 : I64 len) (w : World) :
    Calls Try.prog 61 #[extV (off, len)] w fun e w' => e = .returned (.bool (okE (off, len))) ∧ ∃ nq, w' = (w.alloc (.cells #[.int .i64 off, .int .i64 len] 50)).drewN nq := by
  unfold I64 at h0 h1
  by_cases c1 : 0 ≤ off
  · by_cases c2 : 0 ≤ len
    · by_cases c3 : off ≤ 4611686018427387903
      · by_cases c4 : len ≤ 4611686018427387903 - off
        · have e : okE (off, len) = true := by rw [okE_iff]; simp; omega
          have d1 : decide (len ≤ 4611686018427387903 - off) = true := by simp; omega
          go_enter Try.func61, Try.ntmps61
          go_wp2
          go_quiet ((go_at_call 27; exact Calls.quiet_of_same (rmax_any _)))
          go_wp2
          go_ret
          exact ⟨by rw [e]; rfl, _, rfl⟩
        · have e : okE (off, len) = false := okE_false (by simp; omega)
          have d1 : decide (len ≤ 4611686018427387903 - off) = false := by simp; omega
          go_enter Try.func61, Try.ntmps61
          go_wp2
          go_quiet ((go_at_call 27; exact Calls.quiet_of_same (rmax_any _)))
          go_wp2
          go_ret
          exact ⟨by rw [e]; rfl, _, rfl⟩
      · have e : okE (off, len) = false := okE_false (by simp; omega)
        have d1 : decide (off ≤ 4611686018427387903) = false := by simp; omega
        go_enter Try.func61, Try.ntmps61
        go_wp2
        go_quiet ((go_at_call 27; exact Calls.quiet_of_same (rmax_any _)))
        go_wp2
        go_ret
        exact ⟨by rw [e]; rfl, _, rfl⟩
    · have e : okE (off, len) = false := okE_false (by simp; omega)
      have d1 : decide (0 ≤ len) = false := by simp; omega
      go_enter Try.func61, Try.ntmps61
      go_wp2
      go_quiet ((go_at_call 27; exact Calls.quiet_of_same (rmax_any _)))
      go_wp2
      go_ret
      exact ⟨by rw [e]; rfl, _, rfl⟩
  · have e : okE (off, len) = false := okE_false (by simp; omega)
    have d1 : decide (0 ≤ off) = false := by simp; omega
    go_enter Try.func61, Try.ntmps61
    go_wp2
    go_quiet ((go_at_call 27; exact Calls.quiet_of_same (rmax_any _)))
    go_wp2
    go_ret
    exact ⟨by rw [e]; rfl, _, rfl⟩
theorem rvalid_gives (x : Int × Int) (h0 : I64 x.1) (h1 : I64 x.2) (w : World) : Calls Try.prog 61 #[extV x] w (Gives (.bool (okE x)) w) := gives_drew (rvalid_any x.1 x.2 h0 h1 w)

end Go.Proofs.Ytifdeeaoaekokaa
