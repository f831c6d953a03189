/- Commands: values, boxed commands, what they say; the description of package command. -/
import Derived.Test.Ytifdeeaoaekokaa00Clone8
import Derived.Test.Ytifdeeaoaekokaa01Contains
import Derived.Test.Ytifdeeaoaekokaa02Base
namespace Go.Proofs.Ytifdeeaoaekokaa
open Go.RowKit Go.Shelf Go.Proofs.Ytifdeeaoaekokaa.Plain01
set_option linter.unusedVariables false

/-- A command with the data v. -/
abbrev cmdV (k t f n : Int) (v : Value) : Value := .agg #[.int .i64 k, .int .i64 t, .int .i64 f, .int .i64 n, v]
/-- A boxed command. -/
abbrev cmdO (k t f n : Int) (v : Value) : Obj := .cells #[.int .i64 k, .int .i64 t, .int .i64 f, .int .i64 n, v] 42 (0, 0)

theorem cmd_cells {w : World} {b : Nat} {k t f n : Int} {v : Value} (h : w.heap[b]? = some (cmdO k t f n v)) :
    w.cell? ⟨b, 0, none⟩ = some (.int .i64 k) ∧ w.cell? ⟨b, 1, none⟩ = some (.int .i64 t) ∧ w.cell? ⟨b, 2, none⟩ = some (.int .i64 f) ∧ w.cell? ⟨b, 3, none⟩ = some (.int .i64 n) ∧ w.cell? ⟨b, 4, none⟩ = some v :=
  ⟨by rw [cell_of h]; rfl, by rw [cell_of h]; rfl, by rw [cell_of h]; rfl, by rw [cell_of h]; rfl, by rw [cell_of h]; rfl⟩
/-- The facts of a listed command, and that its block is an old one. -/
theorem held_cmd {w0 : World} {bs : List (Nat × Obj)} (s : HeldW w0 bs) (b : Nat) (k t f n : Int) (v : Value) (hm : (b, cmdO k t f n v) ∈ bs) :
    s.w.cell? ⟨b, 0, none⟩ = some (.int .i64 k) ∧ s.w.cell? ⟨b, 1, none⟩ = some (.int .i64 t) ∧ s.w.cell? ⟨b, 2, none⟩ = some (.int .i64 f) ∧ s.w.cell? ⟨b, 3, none⟩ = some (.int .i64 n) ∧ s.w.cell? ⟨b, 4, none⟩ = some v ∧ b < s.w.heap.size := by
  obtain ⟨h0, h1, h2, h3, h4⟩ := cmd_cells (s.blocks _ hm)
  exact ⟨h0, h1, h2, h3, h4, (Array.getElem?_eq_some_iff.1 (s.blocks _ hm)).1⟩
theorem held_cmdA {w0 : World} {bs : List (Nat × Obj)} (_ : HeldW w0 bs) (b : Nat) (k t f n : Int) (v : Value) (hm : (b, cmdO k t f n v) ∈ bs) :
    (∀ s : HeldW w0 bs, s.w.cell? ⟨b, 0, none⟩ = some (.int .i64 k)) ∧ (∀ s : HeldW w0 bs, s.w.cell? ⟨b, 1, none⟩ = some (.int .i64 t)) ∧ (∀ s : HeldW w0 bs, s.w.cell? ⟨b, 2, none⟩ = some (.int .i64 f)) ∧ (∀ s : HeldW w0 bs, s.w.cell? ⟨b, 3, none⟩ = some (.int .i64 n)) ∧ (∀ s : HeldW w0 bs, s.w.cell? ⟨b, 4, none⟩ = some v) :=
  ⟨fun s => (cmd_cells (s.blocks _ hm)).1, fun s => (cmd_cells (s.blocks _ hm)).2.1, fun s => (cmd_cells (s.blocks _ hm)).2.2.1, fun s => (cmd_cells (s.blocks _ hm)).2.2.2.1, fun s => (cmd_cells (s.blocks _ hm)).2.2.2.2⟩

/-- The same; it may be written. -/
theorem held_cmdF {w0 : World} {bs : List (Nat × Obj)} (s : HeldW w0 bs) (b : Nat) (k t f n : Int) (v : Value) (hm : (b, cmdO k t f n v) ∈ bs) :
    s.w.cell? ⟨b, 0, none⟩ = some (.int .i64 k) ∧ s.w.cell? ⟨b, 1, none⟩ = some (.int .i64 t) ∧ s.w.cell? ⟨b, 2, none⟩ = some (.int .i64 f) ∧ s.w.cell? ⟨b, 3, none⟩ = some (.int .i64 n) ∧ s.w.cell? ⟨b, 4, none⟩ = some v ∧ b < s.w.heap.size ∧ ∀ i, s.w.frozen? ⟨b, i, none⟩ = false := by
  obtain ⟨h0, h1, h2, h3, h4⟩ := cmd_cells (s.blocks _ hm)
  exact ⟨h0, h1, h2, h3, h4, (Array.getElem?_eq_some_iff.1 (s.blocks _ hm)).1, fun i => free_of (s.blocks _ hm) i⟩

/-- A description, boxed. -/
abbrev descO (x0 x1 x2 x3 x4 : Int) (b : Bool) : Obj := .cells #[.int .i64 x0, .int .i64 x1, .int .i64 x2, .int .i64 x3, .int .i64 x4, .bool b] 77 (0, 0)
theorem held_desc {w0 : World} {bs : List (Nat × Obj)} (s : HeldW w0 bs) (b : Nat) (x0 x1 x2 x3 x4 : Int) (d : Bool) (hm : (b, descO x0 x1 x2 x3 x4 d) ∈ bs) :
    s.w.cell? ⟨b, 0, none⟩ = some (.int .i64 x0) ∧ s.w.cell? ⟨b, 1, none⟩ = some (.int .i64 x1) ∧ s.w.cell? ⟨b, 2, none⟩ = some (.int .i64 x2) ∧ s.w.cell? ⟨b, 3, none⟩ = some (.int .i64 x3) ∧ s.w.cell? ⟨b, 4, none⟩ = some (.int .i64 x4) ∧ s.w.cell? ⟨b, 5, none⟩ = some (.bool d) ∧ b < s.w.heap.size := by
  have h := s.blocks _ hm
  exact ⟨by rw [cell_of h]; rfl, by rw [cell_of h]; rfl, by rw [cell_of h]; rfl, by rw [cell_of h]; rfl, by rw [cell_of h]; rfl, by rw [cell_of h]; rfl, (Array.getElem?_eq_some_iff.1 h).1⟩
theorem held_descA {w0 : World} {bs : List (Nat × Obj)} (_ : HeldW w0 bs) (b : Nat) (x0 x1 x2 x3 x4 : Int) (d : Bool) (hm : (b, descO x0 x1 x2 x3 x4 d) ∈ bs) :
    (∀ s : HeldW w0 bs, s.w.cell? ⟨b, 0, none⟩ = some (.int .i64 x0)) ∧ (∀ s : HeldW w0 bs, s.w.cell? ⟨b, 1, none⟩ = some (.int .i64 x1)) ∧ (∀ s : HeldW w0 bs, s.w.cell? ⟨b, 2, none⟩ = some (.int .i64 x2)) ∧ (∀ s : HeldW w0 bs, s.w.cell? ⟨b, 3, none⟩ = some (.int .i64 x3)) ∧ (∀ s : HeldW w0 bs, s.w.cell? ⟨b, 4, none⟩ = some (.int .i64 x4)) ∧ (∀ s : HeldW w0 bs, s.w.cell? ⟨b, 5, none⟩ = some (.bool d)) :=
  ⟨fun s => by rw [cell_of (s.blocks _ hm)]; rfl, fun s => by rw [cell_of (s.blocks _ hm)]; rfl, fun s => by rw [cell_of (s.blocks _ hm)]; rfl, fun s => by rw [cell_of (s.blocks _ hm)]; rfl, fun s => by rw [cell_of (s.blocks _ hm)]; rfl, fun s => by rw [cell_of (s.blocks _ hm)]; rfl⟩

/-- The bytes that a command writes: how many. -/
def wlen (k n : Int) (L : Nat) : Int := if k = 1 then n else L
/-- The cells of the description of a command. -/
def descA (k t f n : Int) (L : Nat) : Array Value :=
  if k = 1 then #[.int .i64 t, .int .i64 n, .int .i64 1, .int .i64 f, .int .i64 n, .bool (decide (0 < L))]
  else if k = 2 then #[.int .i64 t, .int .i64 L, .int .i64 2, .int .i64 0, .int .i64 0, .bool (decide (f ≠ 0 ∨ n ≠ 0))]
  else #[.int .i64 0, .int .i64 0, .int .i64 0, .int .i64 0, .int .i64 0, .bool false]

theorem descA_copy (t f n : Int) (L : Nat) : descA 1 t f n L = #[.int .i64 t, .int .i64 n, .int .i64 1, .int .i64 f, .int .i64 n, .bool (decide (0 < L))] := by unfold descA; rw [if_pos rfl]
theorem descA_lit (t f n : Int) (L : Nat) : descA 2 t f n L = #[.int .i64 t, .int .i64 L, .int .i64 2, .int .i64 0, .int .i64 0, .bool (decide (f ≠ 0 ∨ n ≠ 0))] := by unfold descA; rw [if_neg (by omega), if_pos rfl]
theorem descA_none {k : Int} (h1 : k ≠ 1) (h2 : k ≠ 2) (t f n : Int) (L : Nat) : descA k t f n L = #[.int .i64 0, .int .i64 0, .int .i64 0, .int .i64 0, .int .i64 0, .bool false] := by unfold descA; rw [if_neg h1, if_neg h2]

/-- New blocks, named. -/
theorem start1 (w : World) (o1 : Obj) : ∃ S : HeldW w [(w.heap.size, o1)], w.alloc o1 = S.w := ⟨(HeldW.start w).push o1, rfl⟩
theorem start2 (w : World) (o1 o2 : Obj) : ∃ S : HeldW w [(w.heap.size + 1, o2), (w.heap.size, o1)], (w.alloc o1).alloc o2 = S.w :=
  ⟨⟨(w.alloc o1).alloc o2, ((Below.refl _ w).alloc (Nat.le_refl _) _).alloc (by simp) _, all2 (heap_new _ o2 (by simp)) (heap_old (heap_new w o1 rfl) _)⟩, rfl⟩
theorem start3 (w : World) (o1 o2 o3 : Obj) : ∃ S : HeldW w [(w.heap.size + 1 + 1, o3), (w.heap.size + 1, o2), (w.heap.size, o1)], ((w.alloc o1).alloc o2).alloc o3 = S.w :=
  ⟨⟨((w.alloc o1).alloc o2).alloc o3, (((Below.refl _ w).alloc (Nat.le_refl _) _).alloc (by simp) _).alloc (by simp; omega) _, all3 (heap_new _ o3 (by simp)) (heap_old (heap_new _ o2 (by simp)) _) (heap_old (heap_old (heap_new w o1 rfl) _) _)⟩, rfl⟩
/-- One more block, named. -/
theorem HeldW.more {w0 : World} {bs : List (Nat × Obj)} (s : HeldW w0 bs) (o : Obj) : ∃ (B : Nat) (S : HeldW w0 ((B, o) :: bs)), B = s.w.heap.size ∧ w0.heap.size ≤ B ∧ s.w.alloc o = S.w := ⟨s.w.heap.size, s.push o, rfl, s.below.size, rfl⟩
theorem HeldW.more1 {w0 : World} {bs : List (Nat × Obj)} (s : HeldW w0 bs) (o : Obj) : ∃ (B : Nat) (S : HeldW w0 ((B, o) :: bs)), B = s.w.heap.size ∧ w0.heap.size ≤ B ∧ (∀ p ∈ bs, p.1 < B) ∧ s.w.alloc o = S.w :=
  ⟨s.w.heap.size, s.push o, rfl, s.below.size, fun p hp => (Array.getElem?_eq_some_iff.1 (s.blocks p hp)).1, rfl⟩
/-- Two more blocks, named. -/
theorem HeldW.more2 {w0 : World} {bs : List (Nat × Obj)} (s : HeldW w0 bs) (o1 o2 : Obj) : ∃ (B : Nat) (S : HeldW w0 ((B + 1, o2) :: (B, o1) :: bs)), B = s.w.heap.size ∧ w0.heap.size ≤ B ∧ (∀ p ∈ bs, p.1 < B) ∧ (s.w.alloc o1).alloc o2 = S.w :=
  ⟨s.w.heap.size, ⟨((s.push o1).push o2).w, ((s.push o1).push o2).below, fun p hp => by
    rcases List.mem_cons.1 hp with rfl | hp
    · exact heap_new _ o2 (by simp)
    · exact (Below.heap_alloc _ _ _ (Array.getElem?_eq_some_iff.1 ((s.push o1).blocks p hp)).1).trans ((s.push o1).blocks p hp)⟩, rfl, s.below.size, fun p hp => (Array.getElem?_eq_some_iff.1 (s.blocks p hp)).1, rfl⟩
/-- An extent is written, the world named. -/
theorem HeldW.putExt {w0 : World} {b : Nat} {x : Int × Int} {bs : List (Nat × Obj)} (s : HeldW w0 ((b, extO x) :: bs)) (hb : w0.heap.size ≤ b) (hne : ∀ p ∈ bs, p.1 ≠ b) (y : Int × Int) :
    ∃ S : HeldW w0 ((b, extO y) :: bs), (s.w.setCell ⟨b, 0, none⟩ (.int .i64 y.1)).setCell ⟨b, 1, none⟩ (.int .i64 y.2) = S.w :=
  ⟨(s.store (i := 0) (v := .int .i64 y.1) hb hne rfl).store (i := 1) (v := .int .i64 y.2) hb hne rfl, rfl⟩


/-- Two new blocks. -/
theorem below2 (w : World) (o1 o2 : Obj) : Below w.heap.size w ((w.alloc o1).alloc o2) := ((Below.refl _ w).alloc (Nat.le_refl _) _).alloc (by simp) _

set_option maxRecDepth 100000 in
set_option maxHeartbeats 4000000 in
theorem describe_copy (t f n : Int) (a : Option Addr) (L cap : Nat) (w : World) : Calls Try.prog 54 #[cmdV 1 t f n (.slice a L cap)] w (Gives (.agg (descA 1 t f n L)) w) := by
  rw [descA_copy]
  go_enter Try.func54, Try.ntmps54
  go_wp2
  refine bodyPost_ret (v := .agg #[.int .i64 t, .int .i64 n, .int .i64 1, .int .i64 f, .int .i64 n, .bool (decide (0 < L))]) (by simp [results, Try.results54, go_sem]) rfl ⟨rfl, below2 _ _ _⟩
set_option maxRecDepth 100000 in
set_option maxHeartbeats 4000000 in
theorem describe_lit (t f n : Int) (a : Option Addr) (L cap : Nat) (w : World) : Calls Try.prog 54 #[cmdV 2 t f n (.slice a L cap)] w (Gives (.agg (descA 2 t f n L)) w) := by
  rw [descA_lit]
  by_cases hf : f = 0
  · subst hf
    have hd : (0 != (0 : Int)) = false := rfl
    by_cases hn : n = 0
    · subst hn
      go_enter Try.func54, Try.ntmps54
      go_wp2
      refine bodyPost_ret (v := .agg #[.int .i64 t, .int .i64 L, .int .i64 2, .int .i64 0, .int .i64 0, .bool false]) (by simp [results, Try.results54, go_sem]) rfl ⟨rfl, below2 _ _ _⟩
    · have h1 : (n != 0) = true := by simpa using hn
      have h2 : decide ((0 : Int) ≠ 0 ∨ n ≠ 0) = true := by simpa using hn
      rw [h2]
      clear h2
      go_enter Try.func54, Try.ntmps54
      go_wp2
      refine bodyPost_ret (v := .agg #[.int .i64 t, .int .i64 L, .int .i64 2, .int .i64 0, .int .i64 0, .bool true]) (by simp [results, Try.results54, go_sem]) rfl ⟨rfl, below2 _ _ _⟩
  · have h1 : (f != 0) = true := by simpa using hf
    have h2 : decide (f ≠ 0 ∨ n ≠ 0) = true := by simp [hf]
    rw [h2]
    clear h2
    go_enter Try.func54, Try.ntmps54
    go_wp2
    refine bodyPost_ret (v := .agg #[.int .i64 t, .int .i64 L, .int .i64 2, .int .i64 0, .int .i64 0, .bool true]) (by simp [results, Try.results54, go_sem]) rfl ⟨rfl, below2 _ _ _⟩
set_option maxRecDepth 100000 in
set_option maxHeartbeats 4000000 in
theorem describe_none (k t f n : Int) (h1 : k ≠ 1) (h2 : k ≠ 2) (a : Option Addr) (L cap : Nat) (w : World) : Calls Try.prog 54 #[cmdV k t f n (.slice a L cap)] w (Gives (.agg (descA k t f n L)) w) := by
  rw [descA_none h1 h2]
  have e1 : (k == 1) = false := by simpa using h1
  have e2 : (k == 2) = false := by simpa using h2
  clear h1 h2
  go_enter Try.func54, Try.ntmps54
  go_wp2
  refine bodyPost_ret (v := .agg #[.int .i64 0, .int .i64 0, .int .i64 0, .int .i64 0, .int .i64 0, .bool false]) (by simp [results, Try.results54, go_sem]) rfl ⟨rfl, below2 _ _ _⟩
theorem describe_any (k t f n : Int) (a : Option Addr) (L cap : Nat) (w : World) : Calls Try.prog 54 #[cmdV k t f n (.slice a L cap)] w (Gives (.agg (descA k t f n L)) w) := by
  by_cases h1 : k = 1
  · subst h1; exact describe_copy t f n a L cap w
  · by_cases h2 : k = 2
    · subst h2; exact describe_lit t f n a L cap w
    · exact describe_none k t f n h1 h2 a L cap w
end Go.Proofs.Ytifdeeaoaekokaa
