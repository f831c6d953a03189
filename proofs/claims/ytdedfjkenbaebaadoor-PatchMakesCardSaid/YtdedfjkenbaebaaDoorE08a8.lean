import Derived.Test.YtdedfjkenbaebaaDoorE08a5
import Derived.Test.YtdedfjkenbaebaaDoorE08a1
/- What the small functions of package extent and of its reference return; each leaves what was there. -/
namespace Go.Proofs.YtdedfjkenbaebaaDoor
open Go.RowKit Go.Shelf Go.Proofs.YtdedfjkenbaebaaDoor.Plain01

/-- A boxed extent: the block. -/
abbrev extO (x : Int × Int) : Obj := .cells #[.int .i64 x.1, .int .i64 x.2] 71 (0, 0)

/-- The cells of an extent's block. -/
theorem ext_cells {w : World} {b : Nat} {x : Int × Int} (h : w.heap[b]? = some (extO x)) : w.cell? ⟨b, 0, none⟩ = some (.int .i64 x.1) ∧ w.cell? ⟨b, 1, none⟩ = some (.int .i64 x.2) ∧ ∀ i, w.frozen? ⟨b, i, none⟩ = false :=
  ⟨by rw [cell_of h]; rfl, by rw [cell_of h]; rfl, fun i => free_of h i⟩
theorem held_ext (w0 : World) {bs : List (Nat × Obj)} (b : Nat) (x : Int × Int) (hm : (b, extO x) ∈ bs) :
    (∀ s : HeldW w0 bs, s.w.cell? ⟨b, 0, none⟩ = some (.int .i64 x.1)) ∧ (∀ s : HeldW w0 bs, s.w.cell? ⟨b, 1, none⟩ = some (.int .i64 x.2)) :=
  ⟨fun s => (ext_cells (s.blocks _ hm)).1, fun s => (ext_cells (s.blocks _ hm)).2.1⟩

theorem held_ext1 {w0 : World} {bs : List (Nat × Obj)} (s : HeldW w0 bs) (b : Nat) (x : Int × Int) (hm : (b, extO x) ∈ bs) :
    s.w.cell? ⟨b, 0, none⟩ = some (.int .i64 x.1) ∧ s.w.cell? ⟨b, 1, none⟩ = some (.int .i64 x.2) ∧ ∀ i, s.w.frozen? ⟨b, i, none⟩ = false := ext_cells (s.blocks _ hm)

theorem held_extA {w0 : World} {bs : List (Nat × Obj)} (_ : HeldW w0 bs) (b : Nat) (x : Int × Int) (hm : (b, extO x) ∈ bs) :
    (∀ s : HeldW w0 bs, s.w.cell? ⟨b, 0, none⟩ = some (.int .i64 x.1)) ∧ (∀ s : HeldW w0 bs, s.w.cell? ⟨b, 1, none⟩ = some (.int .i64 x.2)) := held_ext w0 b x hm
/-- The cells of a listed extent, and that its block is an old one. -/
theorem held_ext2 {w0 : World} {bs : List (Nat × Obj)} (s : HeldW w0 bs) (b : Nat) (x : Int × Int) (hm : (b, extO x) ∈ bs) :
    s.w.cell? ⟨b, 0, none⟩ = some (.int .i64 x.1) ∧ s.w.cell? ⟨b, 1, none⟩ = some (.int .i64 x.2) ∧ b < s.w.heap.size := ⟨(ext_cells (s.blocks _ hm)).1, (ext_cells (s.blocks _ hm)).2.1, (Array.getElem?_eq_some_iff.1 (s.blocks _ hm)).1⟩

/-- A boxed extent, behind a callee. -/
theorem boxed_ext {w w1 : World} {o : Obj} (hb1 : Below (w.alloc o).heap.size (w.alloc o) w1) :
    w1.heap[w.heap.size]? = some o ∧ Below w.heap.size w w1 :=
  ⟨heap_below (heap_new w o rfl) hb1, ((Below.refl w.heap.size w).alloc (Nat.le_refl _) _).trans (hb1.mono (by simp))⟩

theorem valid_gives (x : Int × Int) (h0 : I64 x.1) (h1 : I64 x.2) (w : World) : Calls Tryd.prog 83 #[extV x] w (Gives (.bool (okE x)) w) := gives_alloc (valid_any x.1 x.2 h0 h1 w)
theorem end_gives (x : Int × Int) (h : okE x = true) (w : World) : Calls Tryd.prog 48 #[extV x] w (Gives (.int .i64 (x.1 + x.2)) w) := by
  rw [okE_iff] at h
  exact gives_alloc (end_any x.1 x.2 h.1 h.2.1 h.2.2 w)

theorem end_gives2 (p q : Int) (hp : 0 ≤ p) (hq : 0 ≤ q) (hs : p + q ≤ 4611686018427387903) (w : World) : Calls Tryd.prog 48 #[.agg #[.int .i64 p, .int .i64 q]] w (Gives (.int .i64 (p + q)) w) :=
  gives_alloc (end_any p q hp hq hs w)

theorem okE_false {x : Int × Int} (h : ¬ (0 ≤ x.1 ∧ 0 ≤ x.2 ∧ x.1 + x.2 ≤ 4611686018427387903)) : okE x = false := by rw [Bool.eq_false_iff, Ne, okE_iff]; exact h

theorem rmax_any (w : World) : Calls Tryd.prog 70 #[] w fun e w' => e = .returned (.int .i64 4611686018427387903) ∧ w' = w := by
  go_enter Tryd.func70, Tryd.ntmps70
  go_wp2
  go_ret
  exact ⟨rfl, rfl⟩

theorem rvalid_any (off len : Int) (h0 : I64 off) (h1 : I64 len) (w : World) :
    Calls Tryd.prog 111 #[extV (off, len)] w fun e w' => e = .returned (.bool (okE (off, len))) ∧ ∃ nq, w' = (w.alloc (.cells #[.int .i64 off, .int .i64 len] 71)).drewN nq := by
  unfold I64 at h0 h1
  by_cases c1 : 0 ≤ off
  · by_cases c2 : 0 ≤ len
    · by_cases c3 : off ≤ 4611686018427387903
      · by_cases c4 : len ≤ 4611686018427387903 - off
        · have e : okE (off, len) = true := by rw [okE_iff]; simp; omega
          have d1 : decide (len ≤ 4611686018427387903 - off) = true := by simp; omega
          go_enter Tryd.func111, Tryd.ntmps111
          go_wp2
          go_quiet ((go_at_call 70; exact Calls.quiet_of_same (rmax_any _)))
          go_wp2
          go_ret
          exact ⟨by rw [e]; rfl, _, rfl⟩
        · have e : okE (off, len) = false := okE_false (by simp; omega)
          have d1 : decide (len ≤ 4611686018427387903 - off) = false := by simp; omega
          go_enter Tryd.func111, Tryd.ntmps111
          go_wp2
          go_quiet ((go_at_call 70; exact Calls.quiet_of_same (rmax_any _)))
          go_wp2
          go_ret
          exact ⟨by rw [e]; rfl, _, rfl⟩
      · have e : okE (off, len) = false := okE_false (by simp; omega)
        have d1 : decide (off ≤ 4611686018427387903) = false := by simp; omega
        go_enter Tryd.func111, Tryd.ntmps111
        go_wp2
        go_quiet ((go_at_call 70; exact Calls.quiet_of_same (rmax_any _)))
        go_wp2
        go_ret
        exact ⟨by rw [e]; rfl, _, rfl⟩
    · have e : okE (off, len) = false := okE_false (by simp; omega)
      have d1 : decide (0 ≤ len) = false := by simp; omega
      go_enter Tryd.func111, Tryd.ntmps111
      go_wp2
      go_quiet ((go_at_call 70; exact Calls.quiet_of_same (rmax_any _)))
      go_wp2
      go_ret
      exact ⟨by rw [e]; rfl, _, rfl⟩
  · have e : okE (off, len) = false := okE_false (by simp; omega)
    have d1 : decide (0 ≤ off) = false := by simp; omega
    go_enter Tryd.func111, Tryd.ntmps111
    go_wp2
    go_quiet ((go_at_call 70; exact Calls.quiet_of_same (rmax_any _)))
    go_wp2
    go_ret
    exact ⟨by rw [e]; rfl, _, rfl⟩
theorem rvalid_gives (x : Int × Int) (h0 : I64 x.1) (h1 : I64 x.2) (w : World) : Calls Tryd.prog 111 #[extV x] w (Gives (.bool (okE x)) w) := gives_drew (rvalid_any x.1 x.2 h0 h1 w)

end Go.Proofs.YtdedfjkenbaebaaDoor

/- Contains of package extent, at a slice of extents that came in or was made. -/
namespace Go.Proofs.YtdedfjkenbaebaaDoor
open Go.RowKit Go.Shelf Go.Proofs.YtdedfjkenbaebaaDoor.Plain01

/-- The first n of f lie within e. -/
def insE (e x : Int × Int) : Prop := e.1 ≤ x.1 ∧ x.1 + x.2 ≤ e.1 + e.2
instance (e x : Int × Int) : Decidable (insE e x) := by unfold insE; exact inferInstance
def insB (e : Int × Int) (n : Nat) (f : Nat → Int × Int) : Bool := decide (∀ i, i < n → insE e (f i))

theorem insB_no {e : Int × Int} {n k : Nat} {f : Nat → Int × Int} (hk : k < n) (h : ¬ insE e (f k)) : insB e n f = false := by
  unfold insB; simp only [decide_eq_false_iff_not]; intro h'; exact h (h' k hk)
theorem insB_yes {e : Int × Int} {n : Nat} {f : Nat → Int × Int} (h : ∀ i, i < n → insE e (f i)) : insB e n f = true := by
  unfold insB; simp only [decide_eq_true_eq]; exact h

theorem ins_succ {e : Int × Int} {k : Nat} {f : Nat → Int × Int} (h : ∀ j, j < k → insE e (f j)) (hk : insE e (f k)) : ∀ j, j < k + 1 → insE e (f j) := fun j hj => by
  by_cases hjk : j < k
  · exact h j hjk
  · obtain rfl : j = k := by omega
    exact hk

theorem all_succ {p : Nat → Bool} {k : Nat} (h : ∀ j, j < k → p j = true) (hk : p k = true) : ∀ j, j < k + 1 → p j = true := fun j hj => by
  by_cases hjk : j < k
  · exact h j hjk
  · obtain rfl : j = k := by omega
    exact hk

/-- A slice of n extents. -/
def ExtSlice (w : World) (a : Option Addr) (n : Nat) (f : Nat → Int × Int) : Prop := 0 < n → ∃ b o, a = some ⟨b, o, none⟩ ∧ ExtRow w b o n f

theorem ExtRow.lt {w : World} {b o n : Nat} {f : Nat → Int × Int} (h : ExtRow w b o n f) (hn : 0 < n) : b < w.heap.size := World.block_lt_of_cell? w _ (h 0 hn).1

theorem ExtSlice.below {w w' : World} {a : Option Addr} {n : Nat} {f : Nat → Int × Int} (h : ExtSlice w a n f) (hb : Below w.heap.size w w') : ExtSlice w' a n f := fun hn => by
  obtain ⟨b, o, ha, hr⟩ := h hn
  exact ⟨b, o, ha, hr.below hb (hr.lt hn)⟩

theorem insB_succ (e : Int × Int) (k : Nat) (f : Nat → Int × Int) : insB e (k + 1) f = (insB e k f && decide (insE e (f k))) := by
  by_cases hin : insE e (f k)
  · by_cases h : ∀ i, i < k → insE e (f i)
    · rw [insB_yes h, insB_yes (ins_succ h hin), decide_eq_true hin]; rfl
    · have : insB e k f = false := by unfold insB; simp only [decide_eq_false_iff_not]; exact h
      rw [this, Bool.false_and]
      unfold insB; simp only [decide_eq_false_iff_not]; exact fun h' => h fun i hi => h' i (by omega)
  · rw [insB_no (k := k) (by omega) hin, decide_eq_false hin, Bool.and_false]

end Go.Proofs.YtdedfjkenbaebaaDoor

/- Commands: values, boxed commands, what they say; the description of package command. -/
namespace Go.Proofs.YtdedfjkenbaebaaDoor
open Go.RowKit Go.Shelf Go.Proofs.YtdedfjkenbaebaaDoor.Plain01
set_option linter.unusedVariables false

/-- A command with the data v. -/
abbrev cmdV (k t f n : Int) (v : Value) : Value := .agg #[.int .i64 k, .int .i64 t, .int .i64 f, .int .i64 n, v]
/-- A boxed command. -/
abbrev cmdO (k t f n : Int) (v : Value) : Obj := .cells #[.int .i64 k, .int .i64 t, .int .i64 f, .int .i64 n, v] 46 (0, 0)

theorem cmd_cells {w : World} {b : Nat} {k t f n : Int} {v : Value} (h : w.heap[b]? = some (cmdO k t f n v)) :
    w.cell? ⟨b, 0, none⟩ = some (.int .i64 k) ∧ w.cell? ⟨b, 1, none⟩ = some (.int .i64 t) ∧ w.cell? ⟨b, 2, none⟩ = some (.int .i64 f) ∧ w.cell? ⟨b, 3, none⟩ = some (.int .i64 n) ∧ w.cell? ⟨b, 4, none⟩ = some v :=
  ⟨by rw [cell_of h]; rfl, by rw [cell_of h]; rfl, by rw [cell_of h]; rfl, by rw [cell_of h]; rfl, by rw [cell_of h]; rfl⟩
/-- The facts of a listed command, and that its block is an old one. -/
theorem held_cmd {w0 : World} {bs : List (Nat × Obj)} (s : HeldW w0 bs) (b : Nat) (k t f n : Int) (v : Value) (hm : (b, cmdO k t f n v) ∈ bs) :
    s.w.cell? ⟨b, 0, none⟩ = some (.int .i64 k) ∧ s.w.cell? ⟨b, 1, none⟩ = some (.int .i64 t) ∧ s.w.cell? ⟨b, 2, none⟩ = some (.int .i64 f) ∧ s.w.cell? ⟨b, 3, none⟩ = some (.int .i64 n) ∧ s.w.cell? ⟨b, 4, none⟩ = some v ∧ b < s.w.heap.size := by
  obtain ⟨h0, h1, h2, h3, h4⟩ := cmd_cells (s.blocks _ hm)
  exact ⟨h0, h1, h2, h3, h4, (Array.getElem?_eq_some_iff.1 (s.blocks _ hm)).1⟩
theorem held_cmdA {w0 : World} {bs : List (Nat × Obj)} (_ : HeldW w0 bs) (b : Nat) (k t f n : Int) (v : Value) (hm : (b, cmdO k t f n v) ∈ bs) :
    (∀ s : HeldW w0 bs, s.w.cell? ⟨b, 0, none⟩ = some (.int .i64 k)) ∧ (∀ s : HeldW w0 bs, s.w.cell? ⟨b, 1, none⟩ = some (.int .i64 t)) ∧ (∀ s : HeldW w0 bs, s.w.cell? ⟨b, 2, none⟩ = some (.int .i64 f)) ∧ (∀ s : HeldW w0 bs, s.w.cell? ⟨b, 3, none⟩ = some (.int .i64 n)) ∧ (∀ s : HeldW w0 bs, s.w.cell? ⟨b, 4, none⟩ = some v) :=
  ⟨fun s => (cmd_cells (s.blocks _ hm)).1, fun s => (cmd_cells (s.blocks _ hm)).2.1, fun s => (cmd_cells (s.blocks _ hm)).2.2.1, fun s => (cmd_cells (s.blocks _ hm)).2.2.2.1, fun s => (cmd_cells (s.blocks _ hm)).2.2.2.2⟩

/-- The same; it may be written. -/
theorem held_cmdF {w0 : World} {bs : List (Nat × Obj)} (s : HeldW w0 bs) (b : Nat) (k t f n : Int) (v : Value) (hm : (b, cmdO k t f n v) ∈ bs) :
    s.w.cell? ⟨b, 0, none⟩ = some (.int .i64 k) ∧ s.w.cell? ⟨b, 1, none⟩ = some (.int .i64 t) ∧ s.w.cell? ⟨b, 2, none⟩ = some (.int .i64 f) ∧ s.w.cell? ⟨b, 3, none⟩ = some (.int .i64 n) ∧ s.w.cell? ⟨b, 4, none⟩ = some v ∧ b < s.w.heap.size ∧ ∀ i, s.w.frozen? ⟨b, i, none⟩ = false := by
  obtain ⟨h0, h1, h2, h3, h4⟩ := cmd_cells (s.blocks _ hm)
  exact ⟨h0, h1, h2, h3, h4, (Array.getElem?_eq_some_iff.1 (s.blocks _ hm)).1, fun i => free_of (s.blocks _ hm) i⟩

/-- A description, boxed. -/
abbrev descO (x0 x1 x2 x3 x4 : Int) (b : Bool) : Obj := .cells #[.int .i64 x0, .int .i64 x1, .int .i64 x2, .int .i64 x3, .int .i64 x4, .bool b] 101 (0, 0)
theorem held_desc {w0 : World} {bs : List (Nat × Obj)} (s : HeldW w0 bs) (b : Nat) (x0 x1 x2 x3 x4 : Int) (d : Bool) (hm : (b, descO x0 x1 x2 x3 x4 d) ∈ bs) :
    s.w.cell? ⟨b, 0, none⟩ = some (.int .i64 x0) ∧ s.w.cell? ⟨b, 1, none⟩ = some (.int .i64 x1) ∧ s.w.cell? ⟨b, 2, none⟩ = some (.int .i64 x2) ∧ s.w.cell? ⟨b, 3, none⟩ = some (.int .i64 x3) ∧ s.w.cell? ⟨b, 4, none⟩ = some (.int .i64 x4) ∧ s.w.cell? ⟨b, 5, none⟩ = some (.bool d) ∧ b < s.w.heap.size := by
  have h := s.blocks _ hm
  exact ⟨by rw [cell_of h]; rfl, by rw [cell_of h]; rfl, by rw [cell_of h]; rfl, by rw [cell_of h]; rfl, by rw [cell_of h]; rfl, by rw [cell_of h]; rfl, (Array.getElem?_eq_some_iff.1 h).1⟩
theorem held_descA {w0 : World} {bs : List (Nat × Obj)} (_ : HeldW w0 bs) (b : Nat) (x0 x1 x2 x3 x4 : Int) (d : Bool) (hm : (b, descO x0 x1 x2 x3 x4 d) ∈ bs) :
    (∀ s : HeldW w0 bs, s.w.cell? ⟨b, 0, none⟩ = some (.int .i64 x0)) ∧ (∀ s : HeldW w0 bs, s.w.cell? ⟨b, 1, none⟩ = some (.int .i64 x1)) ∧ (∀ s : HeldW w0 bs, s.w.cell? ⟨b, 2, none⟩ = some (.int .i64 x2)) ∧ (∀ s : HeldW w0 bs, s.w.cell? ⟨b, 3, none⟩ = some (.int .i64 x3)) ∧ (∀ s : HeldW w0 bs, s.w.cell? ⟨b, 4, none⟩ = some (.int .i64 x4)) ∧ (∀ s : HeldW w0 bs, s.w.cell? ⟨b, 5, none⟩ = some (.bool d)) :=
  ⟨fun s => by rw [cell_of (s.blocks _ hm)]; rfl, fun s => by rw [cell_of (s.blocks _ hm)]; rfl, fun s => by rw [cell_of (s.blocks _ hm)]; rfl, fun s => by rw [cell_of (s.blocks _ hm)]; rfl, fun s => by rw [cell_of (s.blocks _ hm)]; rfl, fun s => by rw [cell_of (s.blocks _ hm)]; rfl⟩

/-- The bytes that a command writes: how many. -/
def wlen (k n : Int) (L : Nat) : Int := if k = 1 then n else L
/-- The cells of the description of a command. -/
def descA (k t f n : Int) (L : Nat) : Array Value :=
  if k = 1 then #[.int .i64 t, .int .i64 n, .int .i64 1, .int .i64 f, .int .i64 n, .bool (decide (0 < L))]
  else if k = 2 then #[.int .i64 t, .int .i64 L, .int .i64 2, .int .i64 0, .int .i64 0, .bool (decide (f ≠ 0 ∨ n ≠ 0))]
  else #[.int .i64 0, .int .i64 0, .int .i64 0, .int .i64 0, .int .i64 0, .bool false]

theorem descA_copy (t f n : Int) (L : Nat) : descA 1 t f n L = #[.int .i64 t, .int .i64 n, .int .i64 1, .int .i64 f, .int .i64 n, .bool (decide (0 < L))] := by unfold descA; rw [if_pos rfl]
theorem descA_lit (t f n : Int) (L : Nat) : descA 2 t f n L = #[.int .i64 t, .int .i64 L, .int .i64 2, .int .i64 0, .int .i64 0, .bool (decide (f ≠ 0 ∨ n ≠ 0))] := by unfold descA; rw [if_neg (by omega), if_pos rfl]
theorem descA_none {k : Int} (h1 : k ≠ 1) (h2 : k ≠ 2) (t f n : Int) (L : Nat) : descA k t f n L = #[.int .i64 0, .int .i64 0, .int .i64 0, .int .i64 0, .int .i64 0, .bool false] := by unfold descA; rw [if_neg h1, if_neg h2]

/-- New blocks, named. -/
theorem start1 (w : World) (o1 : Obj) : ∃ S : HeldW w [(w.heap.size, o1)], w.alloc o1 = S.w := ⟨(HeldW.start w).push o1, rfl⟩
theorem start2 (w : World) (o1 o2 : Obj) : ∃ S : HeldW w [(w.heap.size + 1, o2), (w.heap.size, o1)], (w.alloc o1).alloc o2 = S.w :=
  ⟨⟨(w.alloc o1).alloc o2, ((Below.refl _ w).alloc (Nat.le_refl _) _).alloc (by simp) _, all2 (heap_new _ o2 (by simp)) (heap_old (heap_new w o1 rfl) _)⟩, rfl⟩
theorem start3 (w : World) (o1 o2 o3 : Obj) : ∃ S : HeldW w [(w.heap.size + 1 + 1, o3), (w.heap.size + 1, o2), (w.heap.size, o1)], ((w.alloc o1).alloc o2).alloc o3 = S.w :=
  ⟨⟨((w.alloc o1).alloc o2).alloc o3, (((Below.refl _ w).alloc (Nat.le_refl _) _).alloc (by simp) _).alloc (by simp; omega) _, all3 (heap_new _ o3 (by simp)) (heap_old (heap_new _ o2 (by simp)) _) (heap_old (heap_old (heap_new w o1 rfl) _) _)⟩, rfl⟩
/-- One more block, named. -/
theorem HeldW.more {w0 : World} {bs : List (Nat × Obj)} (s : HeldW w0 bs) (o : Obj) : ∃ (B : Nat) (S : HeldW w0 ((B, o) :: bs)), B = s.w.heap.size ∧ w0.heap.size ≤ B ∧ s.w.alloc o = S.w := ⟨s.w.heap.size, s.push o, rfl, s.below.size, rfl⟩
theorem HeldW.more1 {w0 : World} {bs : List (Nat × Obj)} (s : HeldW w0 bs) (o : Obj) : ∃ (B : Nat) (S : HeldW w0 ((B, o) :: bs)), B = s.w.heap.size ∧ w0.heap.size ≤ B ∧ (∀ p ∈ bs, p.1 < B) ∧ s.w.alloc o = S.w :=
  ⟨s.w.heap.size, s.push o, rfl, s.below.size, fun p hp => (Array.getElem?_eq_some_iff.1 (s.blocks p hp)).1, rfl⟩
/-- Two more blocks, named. -/
theorem HeldW.more2 {w0 : World} {bs : List (Nat × Obj)} (s : HeldW w0 bs) (o1 o2 : Obj) : ∃ (B : Nat) (S : HeldW w0 ((B + 1, o2) :: (B, o1) :: bs)), B = s.w.heap.size ∧ w0.heap.size ≤ B ∧ (∀ p ∈ bs, p.1 < B) ∧ (s.w.alloc o1).alloc o2 = S.w :=
  ⟨s.w.heap.size, ⟨((s.push o1).push o2).w, ((s.push o1).push o2).below, fun p hp => by
    rcases List.mem_cons.1 hp with rfl | hp
    · exact heap_new _ o2 (by simp)
    · exact (Below.heap_alloc _ _ _ (Array.getElem?_eq_some_iff.1 ((s.push o1).blocks p hp)).1).trans ((s.push o1).blocks p hp)⟩, rfl, s.below.size, fun p hp => (Array.getElem?_eq_some_iff.1 (s.blocks p hp)).1, rfl⟩
/-- An extent is written, the world named. -/
theorem HeldW.putExt {w0 : World} {b : Nat} {x : Int × Int} {bs : List (Nat × Obj)} (s : HeldW w0 ((b, extO x) :: bs)) (hb : w0.heap.size ≤ b) (hne : ∀ p ∈ bs, p.1 ≠ b) (y : Int × Int) :
    ∃ S : HeldW w0 ((b, extO y) :: bs), (s.w.setCell ⟨b, 0, none⟩ (.int .i64 y.1)).setCell ⟨b, 1, none⟩ (.int .i64 y.2) = S.w :=
  ⟨(s.store (i := 0) (v := .int .i64 y.1) hb hne rfl).store (i := 1) (v := .int .i64 y.2) hb hne rfl, rfl⟩


/-- Two new blocks. -/
theorem below2 (w : World) (o1 o2 : Obj) : Below w.heap.size w ((w.alloc o1).alloc o2) := ((Below.refl _ w).alloc (Nat.le_refl _) _).alloc (by simp) _

set_option maxRecDepth 100000 in
set_option maxHeartbeats 4000000 in
theorem describe_copy (t f n : Int) (a : Option Addr) (L cap : Nat) (w : World) : Calls Tryd.prog 69 #[cmdV 1 t f n (.slice a L cap)] w (Gives (.agg (descA 1 t f n L)) w) := by
  rw [descA_copy]
  go_enter Tryd.func69, Tryd.ntmps69
  go_wp2
  refine bodyPost_ret (v := .agg #[.int .i64 t, .int .i64 n, .int .i64 1, .int .i64 f, .int .i64 n, .bool (decide (0 < L))]) (by simp [results, Tryd.results69, go_sem]) rfl ⟨rfl, below2 _ _ _⟩
set_option maxRecDepth 100000 in
set_option maxHeartbeats 4000000 in
theorem describe_lit (t f n : Int) (a : Option Addr) (L cap : Nat) (w : World) : Calls Tryd.prog 69 #[cmdV 2 t f n (.slice a L cap)] w (Gives (.agg (descA 2 t f n L)) w) := by
  rw [descA_lit]
  by_cases hf : f = 0
  · subst hf
    have hd : (0 != (0 : Int)) = false := rfl
    by_cases hn : n = 0
    · subst hn
      go_enter Tryd.func69, Tryd.ntmps69
      go_wp2
      refine bodyPost_ret (v := .agg #[.int .i64 t, .int .i64 L, .int .i64 2, .int .i64 0, .int .i64 0, .bool false]) (by simp [results, Tryd.results69, go_sem]) rfl ⟨rfl, below2 _ _ _⟩
    · have h1 : (n != 0) = true := by simpa using hn
      have h2 : decide ((0 : Int) ≠ 0 ∨ n ≠ 0) = true := by simpa using hn
      rw [h2]
      clear h2
      go_enter Tryd.func69, Tryd.ntmps69
      go_wp2
      refine bodyPost_ret (v := .agg #[.int .i64 t, .int .i64 L, .int .i64 2, .int .i64 0, .int .i64 0, .bool true]) (by simp [results, Tryd.results69, go_sem]) rfl ⟨rfl, below2 _ _ _⟩
  · have h1 : (f != 0) = true := by simpa using hf
    have h2 : decide (f ≠ 0 ∨ n ≠ 0) = true := by simp [hf]
    rw [h2]
    clear h2
    go_enter Tryd.func69, Tryd.ntmps69
    go_wp2
    refine bodyPost_ret (v := .agg #[.int .i64 t, .int .i64 L, .int .i64 2, .int .i64 0, .int .i64 0, .bool true]) (by simp [results, Tryd.results69, go_sem]) rfl ⟨rfl, below2 _ _ _⟩
set_option maxRecDepth 100000 in
set_option maxHeartbeats 4000000 in
theorem describe_none (k t f n : Int) (h1 : k ≠ 1) (h2 : k ≠ 2) (a : Option Addr) (L cap : Nat) (w : World) : Calls Tryd.prog 69 #[cmdV k t f n (.slice a L cap)] w (Gives (.agg (descA k t f n L)) w) := by
  rw [descA_none h1 h2]
  have e1 : (k == 1) = false := by simpa using h1
  have e2 : (k == 2) = false := by simpa using h2
  clear h1 h2
  go_enter Tryd.func69, Tryd.ntmps69
  go_wp2
  refine bodyPost_ret (v := .agg #[.int .i64 0, .int .i64 0, .int .i64 0, .int .i64 0, .int .i64 0, .bool false]) (by simp [results, Tryd.results69, go_sem]) rfl ⟨rfl, below2 _ _ _⟩
theorem describe_any (k t f n : Int) (a : Option Addr) (L cap : Nat) (w : World) : Calls Tryd.prog 69 #[cmdV k t f n (.slice a L cap)] w (Gives (.agg (descA k t f n L)) w) := by
  by_cases h1 : k = 1
  · subst h1; exact describe_copy t f n a L cap w
  · by_cases h2 : k = 2
    · subst h2; exact describe_lit t f n a L cap w
    · exact describe_none k t f n h1 h2 a L cap w
end Go.Proofs.YtdedfjkenbaebaaDoor

/- Check of package command and of its reference. -/
namespace Go.Proofs.YtdedfjkenbaebaaDoor
open Go.RowKit Go.Shelf Go.Proofs.YtdedfjkenbaebaaDoor.Plain01
set_option linter.unusedVariables false

/-- The error code of a command with L bytes of data. -/
def chk (k t f n : Int) (L : Nat) : Int :=
  if k ≠ 1 ∧ k ≠ 2 then 11 else if wlen k n L = 0 then 7 else if okE (t, wlen k n L) = false then 2
  else if k = 1 ∧ (0 < L ∨ okE (f, n) = false) then 2 else if k = 2 ∧ (f ≠ 0 ∨ n ≠ 0) then 2 else 0
/-- The same of a description. -/
def chkD (x0 x1 x2 x3 x4 : Int) (b : Bool) : Int := if x2 = 0 then 11 else if x1 = 0 then 7 else if (b || !okE (x0, x1) || !okE (x3, x4)) = true then 2 else 0

theorem empty_any (x : Int × Int) (w : World) : Calls Tryd.prog 105 #[extV x] w (Gives (.bool (x.2 == 0)) w) := by
  refine gives_alloc (o := .cells #[.int .i64 x.1, .int .i64 x.2] 99) ?_
  go_enter Tryd.func105, Tryd.ntmps105
  go_wp2
  go_ret
  exact ⟨rfl, rfl⟩
theorem mvalid_any (x : Int × Int) (h0 : I64 x.1) (h1 : I64 x.2) (w : World) : Calls Tryd.prog 106 #[extV x] w (Gives (.bool (okE x)) w) := by
  have hv := valid_gives x h0 h1
  go_enter Tryd.func106, Tryd.ntmps106
  go_wp2_with fail
  refine (HeldW.call (s := (HeldW.start w).push (.cells #[.int .i64 x.1, .int .i64 x.2] 99 (0, 0))) (hv _)).mono ?_
  rintro e _ ⟨rfl, s1, rfl⟩
  go_wp2_with fail
  go_wp2
  go_ret
  exact ⟨rfl, s1.below⟩

set_option maxRecDepth 100000 in
set_option maxHeartbeats 4000000 in
theorem check_of_desc (k t f n : Int) (v : Value) (x0 x1 x2 x3 x4 : Int) (b : Bool) (h0 : I64 x0) (h1 : I64 x1) (h3 : I64 x3) (h4 : I64 x4)
    (hd : ∀ w, Calls Tryd.prog 69 #[cmdV k t f n v] w (Gives (.agg #[.int .i64 x0, .int .i64 x1, .int .i64 x2, .int .i64 x3, .int .i64 x4, .bool b]) w)) (w : World) :
    Calls Tryd.prog 84 #[cmdV k t f n v] w (Gives (.int .i64 (chkD x0 x1 x2 x3 x4 b)) w) := by
  have hem := empty_any (x0, x1)
  have hva := mvalid_any (x0, x1) h0 h1
  have hso := valid_gives (x3, x4) h3 h4
  clear h0 h1 h3 h4
  by_cases c2 : x2 = 0
  · have hr : chkD x0 x1 x2 x3 x4 b = 11 := by unfold chkD; rw [if_pos c2]
    rw [hr]
    subst c2
    clear hr hem hva hso
    go_enter Tryd.func84, Tryd.ntmps84
    go_wp2_with fail
    refine (HeldW.call (s := (HeldW.start w).push (cmdO k t f n v)) (hd _)).mono ?_
    rintro e _ ⟨rfl, s1, rfl⟩
    go_wp2_with fail
    obtain ⟨s2, hs2⟩ : ∃ s2 : HeldW w _, s2 = s1.push (descO x0 x1 0 x3 x4 b) := ⟨_, rfl⟩
    go_wp2
    go_ret
    exact ⟨rfl, (s1.push (descO x0 x1 0 x3 x4 b)).below⟩
  · have e2 : (x2 == 0) = false := by simpa using c2
    by_cases c1 : x1 = 0
    · have hr : chkD x0 x1 x2 x3 x4 b = 7 := by unfold chkD; rw [if_neg c2, if_pos c1]
      rw [hr]
      subst c1
      clear hr hva hso c2
      go_enter Tryd.func84, Tryd.ntmps84
      go_wp2_with fail
      refine (HeldW.call (s := (HeldW.start w).push (cmdO k t f n v)) (hd _)).mono ?_
      rintro e _ ⟨rfl, s1, rfl⟩
      go_wp2_with fail
      refine (HeldW.call (s := s1.push (descO x0 0 x2 x3 x4 b)) (hem _)).mono ?_
      rintro e _ ⟨rfl, s2, rfl⟩
      go_wp2_with fail
      go_wp2
      go_ret
      exact ⟨rfl, s2.below⟩
    · have e1 : (x1 == 0) = false := by simpa using c1
      cases b with
      | true =>
        have hr : chkD x0 x1 x2 x3 x4 true = 2 := by unfold chkD; rw [if_neg c2, if_neg c1]; rfl
        rw [hr]
        simp only [e1] at hem
        clear hr hva hso c2 c1
        go_enter Tryd.func84, Tryd.ntmps84
        go_wp2_with fail
        refine (HeldW.call (s := (HeldW.start w).push (cmdO k t f n v)) (hd _)).mono ?_
        rintro e _ ⟨rfl, s1, rfl⟩
        go_wp2_with fail
        refine (HeldW.call (s := s1.push (descO x0 x1 x2 x3 x4 true)) (hem _)).mono ?_
        rintro e _ ⟨rfl, s2, rfl⟩
        obtain ⟨d0, d1, d2, d3, d4, d5, d6⟩ := held_desc s2 (s1.w.heap.size) x0 x1 x2 x3 x4 true (by simp)
        go_wp2_with fail
        go_wp2
        go_ret
        exact ⟨rfl, s2.below⟩
      | false =>
        cases o1 : okE (x0, x1) with
        | false =>
          have hr : chkD x0 x1 x2 x3 x4 false = 2 := by unfold chkD; rw [if_neg c2, if_neg c1, o1]; rfl
          rw [hr]
          rw [o1] at hva
          simp only [e1] at hem
          clear hr hso c2 c1 o1
          go_enter Tryd.func84, Tryd.ntmps84
          go_wp2_with fail
          refine (HeldW.call (s := (HeldW.start w).push (cmdO k t f n v)) (hd _)).mono ?_
          rintro e _ ⟨rfl, s1, rfl⟩
          go_wp2_with fail
          refine (HeldW.call (s := s1.push (descO x0 x1 x2 x3 x4 false)) (hem _)).mono ?_
          rintro e _ ⟨rfl, s2, rfl⟩
          obtain ⟨d0, d1, d2, d3, d4, d5, d6⟩ := held_desc s2 (s1.w.heap.size) x0 x1 x2 x3 x4 false (by simp)
          go_wp2_with fail
          clear d0 d1 d2 d3 d4 d5 d6
          refine (HeldW.call (s := s2) (hva _)).mono ?_
          rintro e _ ⟨rfl, s3, rfl⟩
          obtain ⟨d0, d1, d2, d3, d4, d5, d6⟩ := held_desc s3 (s1.w.heap.size) x0 x1 x2 x3 x4 false (by simp)
          go_wp2_with fail
          go_wp2
          go_ret
          exact ⟨rfl, s3.below⟩
        | true =>
          obtain ⟨o2, ho2⟩ : ∃ o2, okE (x3, x4) = o2 := ⟨_, rfl⟩
          have hr : chkD x0 x1 x2 x3 x4 false = if o2 = true then 0 else 2 := by unfold chkD; rw [if_neg c2, if_neg c1, o1, ho2]; cases o2 <;> rfl
          rw [hr]
          rw [o1] at hva
          rw [ho2] at hso
          simp only [e1] at hem
          clear hr c2 c1 o1 ho2
          cases o2
          all_goals
            go_enter Tryd.func84, Tryd.ntmps84
            go_wp2_with fail
            refine (HeldW.call (s := (HeldW.start w).push (cmdO k t f n v)) (hd _)).mono ?_
            rintro e _ ⟨rfl, s1, rfl⟩
            go_wp2_with fail
            refine (HeldW.call (s := s1.push (descO x0 x1 x2 x3 x4 false)) (hem _)).mono ?_
            rintro e _ ⟨rfl, s2, rfl⟩
            obtain ⟨d0, d1, d2, d3, d4, d5, d6⟩ := held_desc s2 (s1.w.heap.size) x0 x1 x2 x3 x4 false (by simp)
            go_wp2_with fail
            clear d0 d1 d2 d3 d4 d5 d6
            refine (HeldW.call (s := s2) (hva _)).mono ?_
            rintro e _ ⟨rfl, s3, rfl⟩
            obtain ⟨d0, d1, d2, d3, d4, d5, d6⟩ := held_desc s3 (s1.w.heap.size) x0 x1 x2 x3 x4 false (by simp)
            go_wp2_with fail
            clear d0 d1 d2 d3 d4 d5 d6
            refine (HeldW.call (s := s3) (hso _)).mono ?_
            rintro e _ ⟨rfl, s4, rfl⟩
            obtain ⟨d0, d1, d2, d3, d4, d5, d6⟩ := held_desc s4 (s1.w.heap.size) x0 x1 x2 x3 x4 false (by simp)
            go_wp2_with fail
            go_wp2
            go_ret
            exact ⟨rfl, s4.below⟩

theorem i64_0 : I64 0 := by unfold I64; omega
theorem i64_len {a : Option Addr} {L cap : Nat} (h1 : L ≤ cap) (h2 : cap ≤ 9223372036854775807) : I64 L := by unfold I64; omega

theorem check_any (k t f n : Int) (a : Option Addr) (L cap : Nat) (ht : I64 t) (hf : I64 f) (hn : I64 n) (hL : I64 L) (w : World) :
    Calls Tryd.prog 84 #[cmdV k t f n (.slice a L cap)] w (Gives (.int .i64 (chk k t f n L)) w) := by
  have hd := fun w => describe_any k t f n a L cap w
  by_cases h1 : k = 1
  · subst h1
    simp only [descA_copy] at hd
    have := check_of_desc 1 t f n (.slice a L cap) t n 1 f n (decide (0 < L)) ht hn hf hn hd w
    have he : chk 1 t f n L = chkD t n 1 f n (decide (0 < L)) := by
      unfold chk chkD wlen
      simp only [if_true]
      generalize okE (t, n) = p
      generalize okE (f, n) = q
      cases p <;> cases q <;> by_cases h0 : n = 0 <;> by_cases hL0 : 0 < L <;> simp [h0, hL0]
    rw [he]; exact this
  · by_cases h2 : k = 2
    · subst h2
      simp only [descA_lit] at hd
      have := check_of_desc 2 t f n (.slice a L cap) t L 2 0 0 (decide (f ≠ 0 ∨ n ≠ 0)) ht hL i64_0 i64_0 hd w
      have he : chk 2 t f n L = chkD t L 2 0 0 (decide (f ≠ 0 ∨ n ≠ 0)) := by
        have hok : okE (0, 0) = true := rfl
        unfold chk chkD wlen
        rw [hok]
        simp only [show ¬ ((2 : Int) = 1) by omega, if_false]
        generalize okE (t, (L : Int)) = p
        generalize (L : Int) = m
        by_cases h0 : m = 0 <;> cases p <;> by_cases hf1 : f = 0 <;> by_cases hn1 : n = 0 <;> simp [h0, hf1, hn1]
      rw [he]; exact this
    · simp only [descA_none h1 h2] at hd
      have := check_of_desc k t f n (.slice a L cap) 0 0 0 0 0 false i64_0 i64_0 i64_0 i64_0 hd w
      have he : chk k t f n L = 11 := by unfold chk; rw [if_pos ⟨h1, h2⟩]
      rw [he]; exact this

theorem rlen_any (k t f n : Int) (a : Option Addr) (L cap : Nat) (w : World) : Calls Tryd.prog 98 #[cmdV k t f n (.slice a L cap)] w (Gives (.int .i64 (wlen k n L)) w) := by
  refine gives_alloc (o := cmdO k t f n (.slice a L cap)) ?_
  unfold wlen
  by_cases h1 : k = 1
  · subst h1
    rw [if_pos rfl]
    go_enter Tryd.func98, Tryd.ntmps98
    go_wp2
    go_ret
    exact ⟨rfl, rfl⟩
  · rw [if_neg h1]
    have e1 : (k == 1) = false := by simpa using h1
    clear h1
    go_enter Tryd.func98, Tryd.ntmps98
    go_wp2
    go_ret
    exact ⟨rfl, rfl⟩
set_option maxRecDepth 100000 in
set_option maxHeartbeats 4000000 in
theorem rtarget_any (k t f n : Int) (a : Option Addr) (L cap : Nat) (w : World) : Calls Tryd.prog 73 #[cmdV k t f n (.slice a L cap)] w (Gives (extV (t, wlen k n L)) w) := by
  have hl := rlen_any k t f n a L cap
  generalize wlen k n L = m at hl ⊢
  go_enter Tryd.func73, Tryd.ntmps73
  go_wp2
  obtain ⟨S, hS⟩ := start2 w (cmdO k t f n (.slice a L cap)) (extO (0, 0))
  rw [hS]
  clear hS
  refine wp_region_class_tail 5 _ _ (by kernel_rfl) (by kernel_rfl) (S).below (S).blocks (fun hne => ?_)
  simp only [List.take_succ_cons, List.take_zero, List.drop_succ_cons, List.drop_zero]
  obtain ⟨d0, d1, d2, d3, d4⟩ := held_cmdA (S) (w.heap.size) k t f n (.slice a L cap) (by simp)
  repeat (go_big_quiet_step ((go_at_call 98; exact HeldW.call (hl _))))
  refine wpQuiet_nil ?_
  rintro _ ⟨s1, rfl⟩
  clear hne d0 d1 d2 d3 d4
  obtain ⟨r0, r1, r2⟩ := held_ext1 s1 (w.heap.size + 1) (0, 0) (by simp)
  go_wp2_with fail
  refine bodyPost_ret (v := extV (t, m)) (by simp [results, Tryd.results73, go_sem, r0, r1]) rfl ⟨rfl, ?_⟩
  exact (s1.below.setCell (p := ⟨w.heap.size + 1, 0, none⟩) (by simp) _).setCell (p := ⟨w.heap.size + 1, 1, none⟩) (by simp) _
theorem rsource_any (k t f n : Int) (v : Value) (w : World) : Calls Tryd.prog 112 #[cmdV k t f n v] w (Gives (extV (f, n)) w) := by
  go_enter Tryd.func112, Tryd.ntmps112
  go_wp2
  exact bodyPost_ret (v := extV (f, n)) (by simp [results, Tryd.results112, go_sem]) rfl ⟨rfl, below2 _ _ _⟩

theorem chk_split (k t f n : Int) (L : Nat) : chk k t f n L = if k ≠ 1 ∧ k ≠ 2 then 11 else if wlen k n L = 0 then 7 else if okE (t, wlen k n L) = false then 2
  else if k = 1 ∧ (0 < L ∨ okE (f, n) = false) then 2 else if k = 2 ∧ (f ≠ 0 ∨ n ≠ 0) then 2 else 0 := rfl

/-- The reference's Check, its calls at their contracts. -/
theorem i64_wlen {k n : Int} {L : Nat} (hn : I64 n) (hL : I64 L) : I64 (wlen k n L) := by unfold wlen; split <;> assumption
set_option maxRecDepth 100000 in
set_option maxHeartbeats 4000000 in
theorem rcheck_any (k t f n : Int) (a : Option Addr) (L cap : Nat) (ht : I64 t) (hf : I64 f) (hn : I64 n) (hL : I64 L) (w : World) :
    Calls Tryd.prog 97 #[cmdV k t f n (.slice a L cap)] w (Gives (.int .i64 (chk k t f n L)) w) := by
  have hl := rlen_any k t f n a L cap
  have htg := rtarget_any k t f n a L cap
  have hso := rsource_any k t f n (.slice a L cap)
  have hv1 := rvalid_gives (t, wlen k n L) ht (i64_wlen hn hL)
  have hv2 := rvalid_gives (f, n) hf hn
  clear ht hf hn hL
  by_cases hk : k ≠ 1 ∧ k ≠ 2
  · rw [chk_split, if_pos hk]
    have e1 : (k != 1) = true := by simpa using hk.1
    have e2 : (k != 2) = true := by simpa using hk.2
    clear hk hl htg hso hv1 hv2
    go_enter Tryd.func97, Tryd.ntmps97
    go_wp2
    go_ret
    exact ⟨rfl, (Below.refl _ w).alloc (Nat.le_refl _) _⟩
  have hk' : k = 1 ∨ k = 2 := by omega
  rw [chk_split, if_neg hk]
  generalize wlen k n L = m at hl htg hv1 ⊢
  by_cases hm : m = 0
  · rw [if_pos hm]
    subst hm
    clear htg hso hv1 hv2 hk
    rcases hk' with rfl | rfl
    · go_enter Tryd.func97, Tryd.ntmps97
      go_wp2_with fail
      refine (HeldW.call (s := (HeldW.start w).push (cmdO 1 t f n (.slice a L cap))) (hl _)).mono ?_
      rintro e _ ⟨rfl, s1, rfl⟩
      go_wp2_with fail
      go_wp2
      go_ret
      exact ⟨rfl, s1.below⟩
    · go_enter Tryd.func97, Tryd.ntmps97
      go_wp2_with fail
      refine (HeldW.call (s := (HeldW.start w).push (cmdO 2 t f n (.slice a L cap))) (hl _)).mono ?_
      rintro e _ ⟨rfl, s1, rfl⟩
      go_wp2_with fail
      go_wp2
      go_ret
      exact ⟨rfl, s1.below⟩
  rw [if_neg hm]
  have em : (m == 0) = false := by simpa using hm
  clear hm
  cases o1 : okE (t, m) with
  | false =>
    rw [if_pos rfl]
    rw [o1] at hv1
    clear hso hv2 hk o1
    rcases hk' with rfl | rfl
    · go_enter Tryd.func97, Tryd.ntmps97
      go_wp2_with fail
      refine (HeldW.call (s := (HeldW.start w).push (cmdO 1 t f n (.slice a L cap))) (hl _)).mono ?_
      rintro e _ ⟨rfl, s1, rfl⟩
      obtain ⟨d0, d1, d2, d3, d4, d5⟩ := held_cmd s1 (w.heap.size) 1 t f n (.slice a L cap) (by simp)
      go_wp2_with fail
      clear d0 d1 d2 d3 d4 d5
      refine (HeldW.call (s := s1) (htg _)).mono ?_
      rintro e _ ⟨rfl, s2, rfl⟩
      go_wp2_with fail
      refine (HeldW.call (s := s2) (hv1 _)).mono ?_
      rintro e _ ⟨rfl, s3, rfl⟩
      go_wp2_with fail
      go_wp2
      go_ret
      exact ⟨rfl, s3.below⟩
    · go_enter Tryd.func97, Tryd.ntmps97
      go_wp2_with fail
      refine (HeldW.call (s := (HeldW.start w).push (cmdO 2 t f n (.slice a L cap))) (hl _)).mono ?_
      rintro e _ ⟨rfl, s1, rfl⟩
      obtain ⟨d0, d1, d2, d3, d4, d5⟩ := held_cmd s1 (w.heap.size) 2 t f n (.slice a L cap) (by simp)
      go_wp2_with fail
      clear d0 d1 d2 d3 d4 d5
      refine (HeldW.call (s := s1) (htg _)).mono ?_
      rintro e _ ⟨rfl, s2, rfl⟩
      go_wp2_with fail
      refine (HeldW.call (s := s2) (hv1 _)).mono ?_
      rintro e _ ⟨rfl, s3, rfl⟩
      go_wp2_with fail
      go_wp2
      go_ret
      exact ⟨rfl, s3.below⟩
  | true =>
    rw [if_neg (by simp)]
    rw [o1] at hv1
    clear hk o1
    rcases hk' with rfl | rfl
    · have hno : ¬ ((1 : Int) = 2 ∧ (f ≠ 0 ∨ n ≠ 0)) := by omega
      by_cases hL0 : 0 < L
      · rw [if_pos ⟨rfl, .inl hL0⟩]
        clear hno hso hv2
        have hd : decide (0 < (L : Int)) = true := by simpa using hL0
        go_enter Tryd.func97, Tryd.ntmps97
        go_wp2_with fail
        refine (HeldW.call (s := (HeldW.start w).push (cmdO 1 t f n (.slice a L cap))) (hl _)).mono ?_
        rintro e _ ⟨rfl, s1, rfl⟩
        obtain ⟨d0, d1, d2, d3, d4, d5⟩ := held_cmd s1 (w.heap.size) 1 t f n (.slice a L cap) (by simp)
        go_wp2_with fail
        clear d0 d1 d2 d3 d4 d5
        refine (HeldW.call (s := s1) (htg _)).mono ?_
        rintro e _ ⟨rfl, s2, rfl⟩
        go_wp2_with fail
        refine (HeldW.call (s := s2) (hv1 _)).mono ?_
        rintro e _ ⟨rfl, s3, rfl⟩
        obtain ⟨d0, d1, d2, d3, d4, d5⟩ := held_cmd s3 (w.heap.size) 1 t f n (.slice a L cap) (by simp)
        go_wp2_with fail
        go_wp2
        go_ret
        exact ⟨rfl, s3.below⟩
      · obtain rfl : L = 0 := by omega
        clear hL0
        cases o2 : okE (f, n) with
        | false =>
          rw [if_pos ⟨rfl, .inr rfl⟩]
          rw [o2] at hv2
          clear hno o2
          go_enter Tryd.func97, Tryd.ntmps97
          go_wp2_with fail
          refine (HeldW.call (s := (HeldW.start w).push (cmdO 1 t f n (.slice a 0 cap))) (hl _)).mono ?_
          rintro e _ ⟨rfl, s1, rfl⟩
          obtain ⟨d0, d1, d2, d3, d4, d5⟩ := held_cmd s1 (w.heap.size) 1 t f n (.slice a 0 cap) (by simp)
          go_wp2_with fail
          clear d0 d1 d2 d3 d4 d5
          refine (HeldW.call (s := s1) (htg _)).mono ?_
          rintro e _ ⟨rfl, s2, rfl⟩
          go_wp2_with fail
          refine (HeldW.call (s := s2) (hv1 _)).mono ?_
          rintro e _ ⟨rfl, s3, rfl⟩
          obtain ⟨d0, d1, d2, d3, d4, d5⟩ := held_cmd s3 (w.heap.size) 1 t f n (.slice a 0 cap) (by simp)
          go_wp2_with fail
          clear d0 d1 d2 d3 d4 d5
          refine (HeldW.call (s := s3) (hso _)).mono ?_
          rintro e _ ⟨rfl, s4, rfl⟩
          go_wp2_with fail
          refine (HeldW.call (s := s4) (hv2 _)).mono ?_
          rintro e _ ⟨rfl, s5, rfl⟩
          go_wp2_with fail
          go_wp2
          go_ret
          exact ⟨rfl, s5.below⟩
        | true =>
          rw [if_neg (by simp), if_neg hno]
          rw [o2] at hv2
          clear hno o2
          go_enter Tryd.func97, Tryd.ntmps97
          go_wp2_with fail
          refine (HeldW.call (s := (HeldW.start w).push (cmdO 1 t f n (.slice a 0 cap))) (hl _)).mono ?_
          rintro e _ ⟨rfl, s1, rfl⟩
          obtain ⟨d0, d1, d2, d3, d4, d5⟩ := held_cmd s1 (w.heap.size) 1 t f n (.slice a 0 cap) (by simp)
          go_wp2_with fail
          clear d0 d1 d2 d3 d4 d5
          refine (HeldW.call (s := s1) (htg _)).mono ?_
          rintro e _ ⟨rfl, s2, rfl⟩
          go_wp2_with fail
          refine (HeldW.call (s := s2) (hv1 _)).mono ?_
          rintro e _ ⟨rfl, s3, rfl⟩
          obtain ⟨d0, d1, d2, d3, d4, d5⟩ := held_cmd s3 (w.heap.size) 1 t f n (.slice a 0 cap) (by simp)
          go_wp2_with fail
          clear d0 d1 d2 d3 d4 d5
          refine (HeldW.call (s := s3) (hso _)).mono ?_
          rintro e _ ⟨rfl, s4, rfl⟩
          go_wp2_with fail
          refine (HeldW.call (s := s4) (hv2 _)).mono ?_
          rintro e _ ⟨rfl, s5, rfl⟩
          obtain ⟨d0, d1, d2, d3, d4, d5⟩ := held_cmd s5 (w.heap.size) 1 t f n (.slice a 0 cap) (by simp)
          go_wp2_with fail
          go_wp2
          go_ret
          exact ⟨rfl, s5.below⟩
    · rw [if_neg (by omega)]
      clear hso hv2
      by_cases hf : f = 0
      · by_cases hn : n = 0
        · rw [if_neg (by omega)]
          subst hf hn
          go_enter Tryd.func97, Tryd.ntmps97
          go_wp2_with fail
          refine (HeldW.call (s := (HeldW.start w).push (cmdO 2 t 0 0 (.slice a L cap))) (hl _)).mono ?_
          rintro e _ ⟨rfl, s1, rfl⟩
          obtain ⟨d0, d1, d2, d3, d4, d5⟩ := held_cmd s1 (w.heap.size) 2 t 0 0 (.slice a L cap) (by simp)
          go_wp2_with fail
          clear d0 d1 d2 d3 d4 d5
          refine (HeldW.call (s := s1) (htg _)).mono ?_
          rintro e _ ⟨rfl, s2, rfl⟩
          go_wp2_with fail
          refine (HeldW.call (s := s2) (hv1 _)).mono ?_
          rintro e _ ⟨rfl, s3, rfl⟩
          obtain ⟨d0, d1, d2, d3, d4, d5⟩ := held_cmd s3 (w.heap.size) 2 t 0 0 (.slice a L cap) (by simp)
          go_wp2_with fail
          go_wp2
          go_ret
          exact ⟨rfl, s3.below⟩
        · rw [if_pos ⟨rfl, .inr hn⟩]
          subst hf
          have en : (n != 0) = true := by simpa using hn
          clear hn
          go_enter Tryd.func97, Tryd.ntmps97
          go_wp2_with fail
          refine (HeldW.call (s := (HeldW.start w).push (cmdO 2 t 0 n (.slice a L cap))) (hl _)).mono ?_
          rintro e _ ⟨rfl, s1, rfl⟩
          obtain ⟨d0, d1, d2, d3, d4, d5⟩ := held_cmd s1 (w.heap.size) 2 t 0 n (.slice a L cap) (by simp)
          go_wp2_with fail
          clear d0 d1 d2 d3 d4 d5
          refine (HeldW.call (s := s1) (htg _)).mono ?_
          rintro e _ ⟨rfl, s2, rfl⟩
          go_wp2_with fail
          refine (HeldW.call (s := s2) (hv1 _)).mono ?_
          rintro e _ ⟨rfl, s3, rfl⟩
          obtain ⟨d0, d1, d2, d3, d4, d5⟩ := held_cmd s3 (w.heap.size) 2 t 0 n (.slice a L cap) (by simp)
          go_wp2_with fail
          go_wp2
          go_ret
          exact ⟨rfl, s3.below⟩
      · rw [if_pos ⟨rfl, .inl hf⟩]
        have ef : (f != 0) = true := by simpa using hf
        clear hf
        go_enter Tryd.func97, Tryd.ntmps97
        go_wp2_with fail
        refine (HeldW.call (s := (HeldW.start w).push (cmdO 2 t f n (.slice a L cap))) (hl _)).mono ?_
        rintro e _ ⟨rfl, s1, rfl⟩
        obtain ⟨d0, d1, d2, d3, d4, d5⟩ := held_cmd s1 (w.heap.size) 2 t f n (.slice a L cap) (by simp)
        go_wp2_with fail
        clear d0 d1 d2 d3 d4 d5
        refine (HeldW.call (s := s1) (htg _)).mono ?_
        rintro e _ ⟨rfl, s2, rfl⟩
        go_wp2_with fail
        refine (HeldW.call (s := s2) (hv1 _)).mono ?_
        rintro e _ ⟨rfl, s3, rfl⟩
        obtain ⟨d0, d1, d2, d3, d4, d5⟩ := held_cmd s3 (w.heap.size) 2 t f n (.slice a L cap) (by simp)
        go_wp2_with fail
        go_wp2
        go_ret
        exact ⟨rfl, s3.below⟩
end Go.Proofs.YtdedfjkenbaebaaDoor
