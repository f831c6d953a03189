import Derived.Test.YtgmjppjgbalapaaE09q2
import Derived.Test.YtgmjppjgbalapaaE09q1
import Derived.Lib.SmallJoins
import Derived.SizedLaws
import Derived.ProofKit
import Derived.OpenShut
import Derived.Deep.Slices
/- Commands: values, boxed commands, what they say; the description of package command. -/
namespace Go.Proofs.Ytgmjppjgbalapaa
open Go.RowKit Go.Shelf Go.Proofs.Ytgmjppjgbalapaa.Plain01
set_option linter.unusedVariables false

/-- A command with the data v. -/
abbrev cmdV (k t f n : Int) (v : Value) : Value := .agg #[.int .i64 k, .int .i64 t, .int .i64 f, .int .i64 n, v]
/-- A boxed command. -/
abbrev cmdO (k t f n : Int) (v : Value) : Obj := .cells #[.int .i64 k, .int .i64 t, .int .i64 f, .int .i64 n, v] 26 (0, 0)

theorem cmd_cells {w : World} {b : Nat} {k t f n : Int} {v : Value} (h : w.heap[b]? = some (cmdO k t f n v)) :
    w.cell? ⟨b, 0, none⟩ = some (.int .i64 k) ∧ w.cell? ⟨b, 1, none⟩ = some (.int .i64 t) ∧ w.cell? ⟨b, 2, none⟩ = some (.int .i64 f) ∧ w.cell? ⟨b, 3, none⟩ = some (.int .i64 n) ∧ w.cell? ⟨b, 4, none⟩ = some v :=
  ⟨by rw [cell_of h]; rfl, by rw [cell_of h]; rfl, by rw [cell_of h]; rfl, by rw [cell_of h]; rfl, by rw [cell_of h]; rfl⟩
/-- The facts of a listed command, and that its block is an old one. -/
theorem held_cmd {w0 : World} {bs : List (Nat × Obj)} (s : HeldW w0 bs) (b : Nat) (k t f n : Int) (v : Value) (hm : (b, cmdO k t f n v) ∈ bs) :
    s.w.cell? ⟨b, 0, none⟩ = some (.int .i64 k) ∧ s.w.cell? ⟨b, 1, none⟩ = some (.int .i64 t) ∧ s.w.cell? ⟨b, 2, none⟩ = some (.int .i64 f) ∧ s.w.cell? ⟨b, 3, none⟩ = some (.int .i64 n) ∧ s.w.cell? ⟨b, 4, none⟩ = some v ∧ b < s.w.heap.size := by
  obtain ⟨h0, h1, h2, h3, h4⟩ := cmd_cells (s.blocks _ hm)
  exact ⟨h0, h1, h2, h3, h4, (Array.getElem?_eq_some_iff.1 (s.blocks _ hm)).1⟩
theorem held_cmdA {w0 : World} {bs : List (Nat × Obj)} (_ : HeldW w0 bs) (b : Nat) (k t f n : Int) (v : Value) (hm : (b, cmdO k t f n v) ∈ bs) :
    (∀ s : HeldW w0 bs, s.w.cell? ⟨b, 0, none⟩ = some (.int .i64 k)) ∧ (∀ s : HeldW w0 bs, s.w.cell? ⟨b, 1, none⟩ = some (.int .i64 t)) ∧ (∀ s : HeldW w0 bs, s.w.cell? ⟨b, 2, none⟩ = some (.int .i64 f)) ∧ (∀ s : HeldW w0 bs, s.w.cell? ⟨b, 3, none⟩ = some (.int .i64 n)) ∧ (∀ s : HeldW w0 bs, s.w.cell? ⟨b, 4, none⟩ = some v) :=
  ⟨fun s => (cmd_cells (s.blocks _ hm)).1, fun s => (cmd_cells (s.blocks _ hm)).2.1, fun s => (cmd_cells (s.blocks _ hm)).2.2.1, fun s => (cmd_cells (s.blocks _ hm)).2.2.2.1, fun s => (cmd_cells (s.blocks _ hm)).2.2.2.2⟩

/-- The same; it may be written. -/
theorem held_cmdF {w0 : World} {bs : List (Nat × Obj)} (s : HeldW w0 bs) (b : Nat) (k t f n : Int) (v : Value) (hm : (b, cmdO k t f n v) ∈ bs) :
    s.w.cell? ⟨b, 0, none⟩ = some (.int .i64 k) ∧ s.w.cell? ⟨b, 1, none⟩ = some (.int .i64 t) ∧ s.w.cell? ⟨b, 2, none⟩ = some (.int .i64 f) ∧ s.w.cell? ⟨b, 3, none⟩ = some (.int .i64 n) ∧ s.w.cell? ⟨b, 4, none⟩ = some v ∧ b < s.w.heap.size ∧ ∀ i, s.w.frozen? ⟨b, i, none⟩ = false := by
  obtain ⟨h0, h1, h2, h3, h4⟩ := cmd_cells (s.blocks _ hm)
  exact ⟨h0, h1, h2, h3, h4, (Array.getElem?_eq_some_iff.1 (s.blocks _ hm)).1, fun i => free_of (s.blocks _ hm) i⟩

/-- A description, boxed. -/
abbrev descO (x0 x1 x2 x3 x4 : Int) (b : Bool) : Obj := .cells #[.int .i64 x0, .int .i64 x1, .int .i64 x2, .int .i64 x3, .int .i64 x4, .bool b] 87 (0, 0)
theorem held_desc {w0 : World} {bs : List (Nat × Obj)} (s : HeldW w0 bs) (b : Nat) (x0 x1 x2 x3 x4 : Int) (d : Bool) (hm : (b, descO x0 x1 x2 x3 x4 d) ∈ bs) :
    s.w.cell? ⟨b, 0, none⟩ = some (.int .i64 x0) ∧ s.w.cell? ⟨b, 1, none⟩ = some (.int .i64 x1) ∧ s.w.cell? ⟨b, 2, none⟩ = some (.int .i64 x2) ∧ s.w.cell? ⟨b, 3, none⟩ = some (.int .i64 x3) ∧ s.w.cell? ⟨b, 4, none⟩ = some (.int .i64 x4) ∧ s.w.cell? ⟨b, 5, none⟩ = some (.bool d) ∧ b < s.w.heap.size := by
  have h := s.blocks _ hm
  exact ⟨by rw [cell_of h]; rfl, by rw [cell_of h]; rfl, by rw [cell_of h]; rfl, by rw [cell_of h]; rfl, by rw [cell_of h]; rfl, by rw [cell_of h]; rfl, (Array.getElem?_eq_some_iff.1 h).1⟩
theorem held_descA {w0 : World} {bs : List (Nat × Obj)} (_ : HeldW w0 bs) (b : Nat) (x0 x1 x2 x3 x4 : Int) (d : Bool) (hm : (b, descO x0 x1 x2 x3 x4 d) ∈ bs) :
    (∀ s : HeldW w0 bs, s.w.cell? ⟨b, 0, none⟩ = some (.int .i64 x0)) ∧ (∀ s : HeldW w0 bs, s.w.cell? ⟨b, 1, none⟩ = some (.int .i64 x1)) ∧ (∀ s : HeldW w0 bs, s.w.cell? ⟨b, 2, none⟩ = some (.int .i64 x2)) ∧ (∀ s : HeldW w0 bs, s.w.cell? ⟨b, 3, none⟩ = some (.int .i64 x3)) ∧ (∀ s : HeldW w0 bs, s.w.cell? ⟨b, 4, none⟩ = some (.int .i64 x4)) ∧ (∀ s : HeldW w0 bs, s.w.cell? ⟨b, 5, none⟩ = some (.bool d)) :=
  ⟨fun s => by rw [cell_of (s.blocks _ hm)]; rfl, fun s => by rw [cell_of (s.blocks _ hm)]; rfl, fun s => by rw [cell_of (s.blocks _ hm)]; rfl, fun s => by rw [cell_of (s.blocks _ hm)]; rfl, fun s => by rw [cell_of (s.blocks _ hm)]; rfl, fun s => by rw [cell_of (s.blocks _ hm)]; rfl⟩

/-- The bytes that a command writes: how many. -/
def wlen (k n : Int) (L : Nat) : Int := if k = 1 then n else L
/-- The cells of the description of a command. -/
def descA (k t f n : Int) (L : Nat) : Array Value :=
  if k = 1 then #[.int .i64 t, .int .i64 n, .int .i64 1, .int .i64 f, .int .i64 n, .bool (decide (0 < L))]
  else if k = 2 then #[.int .i64 t, .int .i64 L, .int .i64 2, .int .i64 0, .int .i64 0, .bool (decide (f ≠ 0 ∨ n ≠ 0))]
  else #[.int .i64 0, .int .i64 0, .int .i64 0, .int .i64 0, .int .i64 0, .bool false]

theorem descA_copy (t f n : Int) (L : Nat) : descA 1 t f n L = #[.int .i64 t, .int .i64 n, .int .i64 1, .int .i64 f, .int .i64 n, .bool (decide (0 < L))] := by unfold descA; rw [if_pos rfl]
theorem descA_lit (t f n : Int) (L : Nat) : descA 2 t f n L = #[.int .i64 t, .int .i64 L, .int .i64 2, .int .i64 0, .int .i64 0, .bool (decide (f ≠ 0 ∨ n ≠ 0))] := by unfold descA; rw [if_neg (by omega), if_pos rfl]
theorem descA_none {k : Int} (h1 : k ≠ 1) (h2 : k ≠ 2) (t f n : Int) (L : Nat) : descA k t f n L = #[.int .i64 0, .int .i64 0, .int .i64 0, .int .i64 0, .int .i64 0, .bool false] := by unfold descA; rw [if_neg h1, if_neg h2]

/-- New blocks, named. -/
theorem start1 (w : World) (o1 : Obj) : ∃ S : HeldW w [(w.heap.size, o1)], w.alloc o1 = S.w := ⟨(HeldW.start w).push o1, rfl⟩
theorem start2 (w : World) (o1 o2 : Obj) : ∃ S : HeldW w [(w.heap.size + 1, o2), (w.heap.size, o1)], (w.alloc o1).alloc o2 = S.w :=
  ⟨⟨(w.alloc o1).alloc o2, ((Below.refl _ w).alloc (Nat.le_refl _) _).alloc (by simp) _, all2 (heap_new _ o2 (by simp)) (heap_old (heap_new w o1 rfl) _)⟩, rfl⟩
theorem start3 (w : World) (o1 o2 o3 : Obj) : ∃ S : HeldW w [(w.heap.size + 1 + 1, o3), (w.heap.size + 1, o2), (w.heap.size, o1)], ((w.alloc o1).alloc o2).alloc o3 = S.w :=
  ⟨⟨((w.alloc o1).alloc o2).alloc o3, (((Below.refl _ w).alloc (Nat.le_refl _) _).alloc (by simp) _).alloc (by simp; omega) _, all3 (heap_new _ o3 (by simp)) (heap_old (heap_new _ o2 (by simp)) _) (heap_old (heap_old (heap_new w o1 rfl) _) _)⟩, rfl⟩
/-- One more block, named. -/
theorem HeldW.more {w0 : World} {bs : List (Nat × Obj)} (s : HeldW w0 bs) (o : Obj) : ∃ (B : Nat) (S : HeldW w0 ((B, o) :: bs)), B = s.w.heap.size ∧ w0.heap.size ≤ B ∧ s.w.alloc o = S.w := ⟨s.w.heap.size, s.push o, rfl, s.below.size, rfl⟩
theorem HeldW.more1 {w0 : World} {bs : List (Nat × Obj)} (s : HeldW w0 bs) (o : Obj) : ∃ (B : Nat) (S : HeldW w0 ((B, o) :: bs)), B = s.w.heap.size ∧ w0.heap.size ≤ B ∧ (∀ p ∈ bs, p.1 < B) ∧ s.w.alloc o = S.w :=
  ⟨s.w.heap.size, s.push o, rfl, s.below.size, fun p hp => (Array.getElem?_eq_some_iff.1 (s.blocks p hp)).1, rfl⟩
/-- Two more blocks, named. -/
theorem HeldW.more2 {w0 : World} {bs : List (Nat × Obj)} (s : HeldW w0 bs) (o1 o2 : Obj) : ∃ (B : Nat) (S : HeldW w0 ((B + 1, o2) :: (B, o1) :: bs)), B = s.w.heap.size ∧ w0.heap.size ≤ B ∧ (∀ p ∈ bs, p.1 < B) ∧ (s.w.alloc o1).alloc o2 = S.w :=
  ⟨s.w.heap.size, ⟨((s.push o1).push o2).w, ((s.push o1).push o2).below, fun p hp => by
    rcases List.mem_cons.1 hp with rfl | hp
    · exact heap_new _ o2 (by simp)
    · exact (Below.heap_alloc _ _ _ (Array.getElem?_eq_some_iff.1 ((s.push o1).blocks p hp)).1).trans ((s.push o1).blocks p hp)⟩, rfl, s.below.size, fun p hp => (Array.getElem?_eq_some_iff.1 (s.blocks p hp)).1, rfl⟩
/-- An extent is written, the world named. -/
theorem HeldW.putExt {w0 : World} {b : Nat} {x : Int × Int} {bs : List (Nat × Obj)} (s : HeldW w0 ((b, extO x) :: bs)) (hb : w0.heap.size ≤ b) (hne : ∀ p ∈ bs, p.1 ≠ b) (y : Int × Int) :
    ∃ S : HeldW w0 ((b, extO y) :: bs), (s.w.setCell ⟨b, 0, none⟩ (.int .i64 y.1)).setCell ⟨b, 1, none⟩ (.int .i64 y.2) = S.w :=
  ⟨(s.store (i := 0) (v := .int .i64 y.1) hb hne rfl).store (i := 1) (v := .int .i64 y.2) hb hne rfl, rfl⟩


/-- Two new blocks. -/
theorem below2 (w : World) (o1 o2 : Obj) : Below w.heap.size w ((w.alloc o1).alloc o2) := ((Below.refl _ w).alloc (Nat.le_refl _) _).alloc (by simp) _

set_option maxRecDepth 100000 in
set_option maxHeartbeats 4000000 in
theorem describe_copy (t f n : Int) (a : Option Addr) (L cap : Nat) (w : World) : Calls Try.prog 66 #[cmdV 1 t f n (.slice a L cap)] w (Gives (.agg (descA 1 t f n L)) w) := by
  rw [descA_copy]
  go_enter Try.func66, Try.ntmps66
  go_wp2
  refine bodyPost_ret (v := .agg #[.int .i64 t, .int .i64 n, .int .i64 1, .int .i64 f, .int .i64 n, .bool (decide (0 < L))]) (by simp [results, Try.results66, go_sem]) rfl ⟨rfl, below2 _ _ _⟩
set_option maxRecDepth 100000 in
set_option maxHeartbeats 4000000 in
theorem describe_lit (t f n : Int) (a : Option Addr) (L cap : Nat) (w : World) : Calls Try.prog 66 #[cmdV 2 t f n (.slice a L cap)] w (Gives (.agg (descA 2 t f n L)) w) := by
  rw [descA_lit]
  by_cases hf : f = 0
  · subst hf
    have hd : (0 != (0 : Int)) = false := rfl
    by_cases hn : n = 0
    · subst hn
      go_enter Try.func66, Try.ntmps66
      go_wp2
      refine bodyPost_ret (v := .agg #[.int .i64 t, .int .i64 L, .int .i64 2, .int .i64 0, .int .i64 0, .bool false]) (by simp [results, Try.results66, go_sem]) rfl ⟨rfl, below2 _ _ _⟩
    · have h1 : (n != 0) = true := by simpa using hn
      have h2 : decide ((0 : Int) ≠ 0 ∨ n ≠ 0) = true := by simpa using hn
      rw [h2]
      clear h2
      go_enter Try.func66, Try.ntmps66
      go_wp2
      refine bodyPost_ret (v := .agg #[.int .i64 t, .int .i64 L, .int .i64 2, .int .i64 0, .int .i64 0, .bool true]) (by simp [results, Try.results66, go_sem]) rfl ⟨rfl, below2 _ _ _⟩
  · have h1 : (f != 0) = true := by simpa using hf
    have h2 : decide (f ≠ 0 ∨ n ≠ 0) = true := by simp [hf]
    rw [h2]
    clear h2
    go_enter Try.func66, Try.ntmps66
    go_wp2
    refine bodyPost_ret (v := .agg #[.int .i64 t, .int .i64 L, .int .i64 2, .int .i64 0, .int .i64 0, .bool true]) (by simp [results, Try.results66, go_sem]) rfl ⟨rfl, below2 _ _ _⟩
set_option maxRecDepth 100000 in
set_option maxHeartbeats 4000000 in
theorem describe_none (k t f n : Int) (h1 : k ≠ 1) (h2 : k ≠ 2) (a : Option Addr) (L cap : Nat) (w : World) : Calls Try.prog 66 #[cmdV k t f n (.slice a L cap)] w (Gives (.agg (descA k t f n L)) w) := by
  rw [descA_none h1 h2]
  have e1 : (k == 1) = false := by simpa using h1
  have e2 : (k == 2) = false := by simpa using h2
  clear h1 h2
  go_enter Try.func66, Try.ntmps66
  go_wp2
  refine bodyPost_ret (v := .agg #[.int .i64 0, .int .i64 0, .int .i64 0, .int .i64 0, .int .i64 0, .bool false]) (by simp [results, Try.results66, go_sem]) rfl ⟨rfl, below2 _ _ _⟩
theorem describe_any (k t f n : Int) (a : Option Addr) (L cap : Nat) (w : World) : Calls Try.prog 66 #[cmdV k t f n (.slice a L cap)] w (Gives (.agg (descA k t f n L)) w) := by
  by_cases h1 : k = 1
  · subst h1; exact describe_copy t f n a L cap w
  · by_cases h2 : k = 2
    · subst h2; exact describe_lit t f n a L cap w
    · exact describe_none k t f n h1 h2 a L cap w
end Go.Proofs.Ytgmjppjgbalapaa

/- Check of package command and of its reference. -/
namespace Go.Proofs.Ytgmjppjgbalapaa
open Go.RowKit Go.Shelf Go.Proofs.Ytgmjppjgbalapaa.Plain01
set_option linter.unusedVariables false

/-- The error code of a command with L bytes of data. -/
def chk (k t f n : Int) (L : Nat) : Int :=
  if k ≠ 1 ∧ k ≠ 2 then 11 else if wlen k n L = 0 then 7 else if okE (t, wlen k n L) = false then 2
  else if k = 1 ∧ (0 < L ∨ okE (f, n) = false) then 2 else if k = 2 ∧ (f ≠ 0 ∨ n ≠ 0) then 2 else 0
/-- The same of a description. -/
def chkD (x0 x1 x2 x3 x4 : Int) (b : Bool) : Int := if x2 = 0 then 11 else if x1 = 0 then 7 else if (b || !okE (x0, x1) || !okE (x3, x4)) = true then 2 else 0

theorem empty_any (x : Int × Int) (w : World) : Calls Try.prog 84 #[extV x] w (Gives (.bool (x.2 == 0)) w) := by
  refine gives_alloc (o := .cells #[.int .i64 x.1, .int .i64 x.2] 85) ?_
  go_enter Try.func84, Try.ntmps84
  go_wp2
  go_ret
  exact ⟨rfl, rfl⟩
theorem mvalid_any (x : Int × Int) (h0 : I64 x.1) (h1 : I64 x.2) (w : World) : Calls Try.prog 85 #[extV x] w (Gives (.bool (okE x)) w) := by
  have hv := valid_gives x h0 h1
  go_enter Try.func85, Try.ntmps85
  go_wp2_with fail
  refine (HeldW.call (s := (HeldW.start w).push (.cells #[.int .i64 x.1, .int .i64 x.2] 85 (0, 0))) (hv _)).mono ?_
  rintro e _ ⟨rfl, s1, rfl⟩
  go_wp2_with fail
  go_wp2
  go_ret
  exact ⟨rfl, s1.below⟩

set_option maxRecDepth 100000 in
set_option maxHeartbeats 4000000 in
theorem check_of_desc (k t f n : Int) (v : Value) (x0 x1 x2 x3 x4 : Int) (b : Bool) (h0 : I64 x0) (h1 : I64 x1) (h3 : I64 x3) (h4 : I64 x4)
    (hd : ∀ w, Calls Try.prog 66 #[cmdV k t f n v] w (Gives (.agg #[.int .i64 x0, .int .i64 x1, .int .i64 x2, .int .i64 x3, .int .i64 x4, .bool b]) w)) (w : World) :
    Calls Try.prog 74 #[cmdV k t f n v] w (Gives (.int .i64 (chkD x0 x1 x2 x3 x4 b)) w) := by
  have hem := empty_any (x0, x1)
  have hva := mvalid_any (x0, x1) h0 h1
  have hso := valid_gives (x3, x4) h3 h4
  clear h0 h1 h3 h4
  by_cases c2 : x2 = 0
  · have hr : chkD x0 x1 x2 x3 x4 b = 11 := by unfold chkD; rw [if_pos c2]
    rw [hr]
    subst c2
    clear hr hem hva hso
    go_enter Try.func74, Try.ntmps74
    go_wp2_with fail
    refine (HeldW.call (s := (HeldW.start w).push (cmdO k t f n v)) (hd _)).mono ?_
    rintro e _ ⟨rfl, s1, rfl⟩
    go_wp2_with fail
    obtain ⟨s2, hs2⟩ : ∃ s2 : HeldW w _, s2 = s1.push (descO x0 x1 0 x3 x4 b) := ⟨_, rfl⟩
    go_wp2
    go_ret
    exact ⟨rfl, (s1.push (descO x0 x1 0 x3 x4 b)).below⟩
  · have e2 : (x2 == 0) = false := by simpa using c2
    by_cases c1 : x1 = 0
    · have hr : chkD x0 x1 x2 x3 x4 b = 7 := by unfold chkD; rw [if_neg c2, if_pos c1]
      rw [hr]
      subst c1
      clear hr hva hso c2
      go_enter Try.func74, Try.ntmps74
      go_wp2_with fail
      refine (HeldW.call (s := (HeldW.start w).push (cmdO k t f n v)) (hd _)).mono ?_
      rintro e _ ⟨rfl, s1, rfl⟩
      go_wp2_with fail
      refine (HeldW.call (s := s1.push (descO x0 0 x2 x3 x4 b)) (hem _)).mono ?_
      rintro e _ ⟨rfl, s2, rfl⟩
      go_wp2_with fail
      go_wp2
      go_ret
      exact ⟨rfl, s2.below⟩
    · have e1 : (x1 == 0) = false := by simpa using c1
      cases b with
      | true =>
        have hr : chkD x0 x1 x2 x3 x4 true = 2 := by unfold chkD; rw [if_neg c2, if_neg c1]; rfl
        rw [hr]
        simp only [e1] at hem
        clear hr hva hso c2 c1
        go_enter Try.func74, Try.ntmps74
        go_wp2_with fail
        refine (HeldW.call (s := (HeldW.start w).push (cmdO k t f n v)) (hd _)).mono ?_
        rintro e _ ⟨rfl, s1, rfl⟩
        go_wp2_with fail
        refine (HeldW.call (s := s1.push (descO x0 x1 x2 x3 x4 true)) (hem _)).mono ?_
        rintro e _ ⟨rfl, s2, rfl⟩
        obtain ⟨d0, d1, d2, d3, d4, d5, d6⟩ := held_desc s2 (s1.w.heap.size) x0 x1 x2 x3 x4 true (by simp)
        go_wp2_with fail
        go_wp2
        go_ret
        exact ⟨rfl, s2.below⟩
      | false =>
        cases o1 : okE (x0, x1) with
        | false =>
          have hr : chkD x0 x1 x2 x3 x4 false = 2 := by unfold chkD; rw [if_neg c2, if_neg c1, o1]; rfl
          rw [hr]
          rw [o1] at hva
          simp only [e1] at hem
          clear hr hso c2 c1 o1
          go_enter Try.func74, Try.ntmps74
          go_wp2_with fail
          refine (HeldW.call (s := (HeldW.start w).push (cmdO k t f n v)) (hd _)).mono ?_
          rintro e _ ⟨rfl, s1, rfl⟩
          go_wp2_with fail
          refine (HeldW.call (s := s1.push (descO x0 x1 x2 x3 x4 false)) (hem _)).mono ?_
          rintro e _ ⟨rfl, s2, rfl⟩
          obtain ⟨d0, d1, d2, d3, d4, d5, d6⟩ := held_desc s2 (s1.w.heap.size) x0 x1 x2 x3 x4 false (by simp)
          go_wp2_with fail
          clear d0 d1 d2 d3 d4 d5 d6
          refine (HeldW.call (s := s2) (hva _)).mono ?_
          rintro e _ ⟨rfl, s3, rfl⟩
          obtain ⟨d0, d1, d2, d3, d4, d5, d6⟩ := held_desc s3 (s1.w.heap.size) x0 x1 x2 x3 x4 false (by simp)
          go_wp2_with fail
          go_wp2
          go_ret
          exact ⟨rfl, s3.below⟩
        | true =>
          obtain ⟨o2, ho2⟩ : ∃ o2, okE (x3, x4) = o2 := ⟨_, rfl⟩
          have hr : chkD x0 x1 x2 x3 x4 false = if o2 = true then 0 else 2 := by unfold chkD; rw [if_neg c2, if_neg c1, o1, ho2]; cases o2 <;> rfl
          rw [hr]
          rw [o1] at hva
          rw [ho2] at hso
          simp only [e1] at hem
          clear hr c2 c1 o1 ho2
          cases o2
          all_goals
            go_enter Try.func74, Try.ntmps74
            go_wp2_with fail
            refine (HeldW.call (s := (HeldW.start w).push (cmdO k t f n v)) (hd _)).mono ?_
            rintro e _ ⟨rfl, s1, rfl⟩
            go_wp2_with fail
            refine (HeldW.call (s := s1.push (descO x0 x1 x2 x3 x4 false)) (hem _)).mono ?_
            rintro e _ ⟨rfl, s2, rfl⟩
            obtain ⟨d0, d1, d2, d3, d4, d5, d6⟩ := held_desc s2 (s1.w.heap.size) x0 x1 x2 x3 x4 false (by simp)
            go_wp2_with fail
            clear d0 d1 d2 d3 d4 d5 d6
            refine (HeldW.call (s := s2) (hva _)).mono ?_
            rintro e _ ⟨rfl, s3, rfl⟩
            obtain ⟨d0, d1, d2, d3, d4, d5, d6⟩ := held_desc s3 (s1.w.heap.size) x0 x1 x2 x3 x4 false (by simp)
            go_wp2_with fail
            clear d0 d1 d2 d3 d4 d5 d6
            refine (HeldW.call (s := s3) (hso _)).mono ?_
            rintro e _ ⟨rfl, s4, rfl⟩
            obtain ⟨d0, d1, d2, d3, d4, d5, d6⟩ := held_desc s4 (s1.w.heap.size) x0 x1 x2 x3 x4 false (by simp)
            go_wp2_with fail
            go_wp2
            go_ret
            exact ⟨rfl, s4.below⟩

theorem i64_0 : I64 0 := by unfold I64; omega
theorem i64_len {a : Option Addr} {L cap : Nat} (h1 : L ≤ cap) (h2 : cap ≤ 9223372036854775807) : I64 L := by unfold I64; omega

theorem check_any (k t f n : Int) (a : Option Addr) (L cap : Nat) (ht : I64 t) (hf : I64 f) (hn : I64 n) (hL : I64 L) (w : World) :
    Calls Try.prog 74 #[cmdV k t f n (.slice a L cap)] w (Gives (.int .i64 (chk k t f n L)) w) := by
  have hd := fun w => describe_any k t f n a L cap w
  by_cases h1 : k = 1
  · subst h1
    simp only [descA_copy] at hd
    have := check_of_desc 1 t f n (.slice a L cap) t n 1 f n (decide (0 < L)) ht hn hf hn hd w
    have he : chk 1 t f n L = chkD t n 1 f n (decide (0 < L)) := by
      unfold chk chkD wlen
      simp only [if_true]
      generalize okE (t, n) = p
      generalize okE (f, n) = q
      cases p <;> cases q <;> by_cases h0 : n = 0 <;> by_cases hL0 : 0 < L <;> simp [h0, hL0]
    rw [he]; exact this
  · by_cases h2 : k = 2
    · subst h2
      simp only [descA_lit] at hd
      have := check_of_desc 2 t f n (.slice a L cap) t L 2 0 0 (decide (f ≠ 0 ∨ n ≠ 0)) ht hL i64_0 i64_0 hd w
      have he : chk 2 t f n L = chkD t L 2 0 0 (decide (f ≠ 0 ∨ n ≠ 0)) := by
        have hok : okE (0, 0) = true := rfl
        unfold chk chkD wlen
        rw [hok]
        simp only [show ¬ ((2 : Int) = 1) by omega, if_false]
        generalize okE (t, (L : Int)) = p
        generalize (L : Int) = m
        by_cases h0 : m = 0 <;> cases p <;> by_cases hf1 : f = 0 <;> by_cases hn1 : n = 0 <;> simp [h0, hf1, hn1]
      rw [he]; exact this
    · simp only [descA_none h1 h2] at hd
      have := check_of_desc k t f n (.slice a L cap) 0 0 0 0 0 false i64_0 i64_0 i64_0 i64_0 hd w
      have he : chk k t f n L = 11 := by unfold chk; rw [if_pos ⟨h1, h2⟩]
      rw [he]; exact this

theorem rlen_any (k t f n : Int) (a : Option Addr) (L cap : Nat) (w : World) : Calls Try.prog 26 #[cmdV k t f n (.slice a L cap)] w (Gives (.int .i64 (wlen k n L)) w) := by
  refine gives_alloc (o := cmdO k t f n (.slice a L cap)) ?_
  unfold wlen
  by_cases h1 : k = 1
  · subst h1
    rw [if_pos rfl]
    go_enter Try.func26, Try.ntmps26
    go_wp2
    go_ret
    exact ⟨rfl, rfl⟩
  · rw [if_neg h1]
    have e1 : (k == 1) = false := by simpa using h1
    clear h1
    go_enter Try.func26, Try.ntmps26
    go_wp2
    go_ret
    exact ⟨rfl, rfl⟩
set_option maxRecDepth 100000 in
set_option maxHeartbeats 4000000 in
theorem rtarget_any (k t f n : Int) (a : Option Addr) (L cap : Nat) (w : World) : Calls Try.prog 28 #[cmdV k t f n (.slice a L cap)] w (Gives (extV (t, wlen k n L)) w) := by
  have hl := rlen_any k t f n a L cap
  generalize wlen k n L = m at hl ⊢
  go_enter Try.func28, Try.ntmps28
  go_wp2
  obtain ⟨S, hS⟩ := start2 w (cmdO k t f n (.slice a L cap)) (extO (0, 0))
  rw [hS]
  clear hS
  refine wp_region_class_tail 5 _ _ (by kernel_rfl) (by kernel_rfl) (S).below (S).blocks (fun hne => ?_)
  simp only [List.take_succ_cons, List.take_zero, List.drop_succ_cons, List.drop_zero]
  obtain ⟨d0, d1, d2, d3, d4⟩ := held_cmdA (S) (w.heap.size) k t f n (.slice a L cap) (by simp)
  repeat (go_big_quiet_step ((go_at_call 26; exact HeldW.call (hl _))))
  refine wpQuiet_nil ?_
  rintro _ ⟨s1, rfl⟩
  clear hne d0 d1 d2 d3 d4
  obtain ⟨r0, r1, r2⟩ := held_ext1 s1 (w.heap.size + 1) (0, 0) (by simp)
  go_wp2_with fail
  refine bodyPost_ret (v := extV (t, m)) (by simp [results, Try.results28, go_sem, r0, r1]) rfl ⟨rfl, ?_⟩
  exact (s1.below.setCell (p := ⟨w.heap.size + 1, 0, none⟩) (by simp) _).setCell (p := ⟨w.heap.size + 1, 1, none⟩) (by simp) _
theorem rsource_any (k t f n : Int) (v : Value) (w : World) : Calls Try.prog 29 #[cmdV k t f n v] w (Gives (extV (f, n)) w) := by
  go_enter Try.func29, Try.ntmps29
  go_wp2
  exact bodyPost_ret (v := extV (f, n)) (by simp [results, Try.results29, go_sem]) rfl ⟨rfl, below2 _ _ _⟩

theorem chk_split (k t f n : Int) (L : Nat) : chk k t f n L = if k ≠ 1 ∧ k ≠ 2 then 11 else if wlen k n L = 0 then 7 else if okE (t, wlen k n L) = false then 2
  else if k = 1 ∧ (0 < L ∨ okE (f, n) = false) then 2 else if k = 2 ∧ (f ≠ 0 ∨ n ≠ 0) then 2 else 0 := rfl

/-- The reference's Check, its calls at their contracts. -/
theorem i64_wlen {k n : Int} {L : Nat} (hn : I64 n) (hL : I64 L) : I64 (wlen k n L) := by unfold wlen; split <;> assumption
set_option maxRecDepth 100000 in
set_option maxHeartbeats 4000000 in
theorem rcheck_any (k t f n : Int) (a : Option Addr) (L cap : Nat) (ht : I64 t) (hf : I64 f) (hn : I64 n) (hL : I64 L) (w : World) :
    Calls Try.prog 9 #[cmdV k t f n (.slice a L cap)] w (Gives (.int .i64 (chk k t f n L)) w) := by
  have hl := rlen_any k t f n a L cap
  have htg := rtarget_any k t f n a L cap
  have hso := rsource_any k t f n (.slice a L cap)
  have hv1 := rvalid_gives (t, wlen k n L) ht (i64_wlen hn hL)
  have hv2 := rvalid_gives (f, n) hf hn
  clear ht hf hn hL
  by_cases hk : k ≠ 1 ∧ k ≠ 2
  · rw [chk_split, if_pos hk]
    have e1 : (k != 1) = true := by simpa using hk.1
    have e2 : (k != 2) = true := by simpa using hk.2
    clear hk hl htg hso hv1 hv2
    go_enter Try.func9, Try.ntmps9
    go_wp2
    go_ret
    exact ⟨rfl, (Below.refl _ w).alloc (Nat.le_refl _) _⟩
  have hk' : k = 1 ∨ k = 2 := by omega
  rw [chk_split, if_neg hk]
  generalize wlen k n L = m at hl htg hv1 ⊢
  by_cases hm : m = 0
  · rw [if_pos hm]
    subst hm
    clear htg hso hv1 hv2 hk
    rcases hk' with rfl | rfl
    · go_enter Try.func9, Try.ntmps9
      go_wp2_with fail
      refine (HeldW.call (s := (HeldW.start w).push (cmdO 1 t f n (.slice a L cap))) (hl _)).mono ?_
      rintro e _ ⟨rfl, s1, rfl⟩
      go_wp2_with fail
      go_wp2
      go_ret
      exact ⟨rfl, s1.below⟩
    · go_enter Try.func9, Try.ntmps9
      go_wp2_with fail
      refine (HeldW.call (s := (HeldW.start w).push (cmdO 2 t f n (.slice a L cap))) (hl _)).mono ?_
      rintro e _ ⟨rfl, s1, rfl⟩
      go_wp2_with fail
      go_wp2
      go_ret
      exact ⟨rfl, s1.below⟩
  rw [if_neg hm]
  have em : (m == 0) = false := by simpa using hm
  clear hm
  cases o1 : okE (t, m) with
  | false =>
    rw [if_pos rfl]
    rw [o1] at hv1
    clear hso hv2 hk o1
    rcases hk' with rfl | rfl
    · go_enter Try.func9, Try.ntmps9
      go_wp2_with fail
      refine (HeldW.call (s := (HeldW.start w).push (cmdO 1 t f n (.slice a L cap))) (hl _)).mono ?_
      rintro e _ ⟨rfl, s1, rfl⟩
      obtain ⟨d0, d1, d2, d3, d4, d5⟩ := held_cmd s1 (w.heap.size) 1 t f n (.slice a L cap) (by simp)
      go_wp2_with fail
      clear d0 d1 d2 d3 d4 d5
      refine (HeldW.call (s := s1) (htg _)).mono ?_
      rintro e _ ⟨rfl, s2, rfl⟩
      go_wp2_with fail
      refine (HeldW.call (s := s2) (hv1 _)).mono ?_
      rintro e _ ⟨rfl, s3, rfl⟩
      go_wp2_with fail
      go_wp2
      go_ret
      exact ⟨rfl, s3.below⟩
    · go_enter Try.func9, Try.ntmps9
      go_wp2_with fail
      refine (HeldW.call (s := (HeldW.start w).push (cmdO 2 t f n (.slice a L cap))) (hl _)).mono ?_
      rintro e _ ⟨rfl, s1, rfl⟩
      obtain ⟨d0, d1, d2, d3, d4, d5⟩ := held_cmd s1 (w.heap.size) 2 t f n (.slice a L cap) (by simp)
      go_wp2_with fail
      clear d0 d1 d2 d3 d4 d5
      refine (HeldW.call (s := s1) (htg _)).mono ?_
      rintro e _ ⟨rfl, s2, rfl⟩
      go_wp2_with fail
      refine (HeldW.call (s := s2) (hv1 _)).mono ?_
      rintro e _ ⟨rfl, s3, rfl⟩
      go_wp2_with fail
      go_wp2
      go_ret
      exact ⟨rfl, s3.below⟩
  | true =>
    rw [if_neg (by simp)]
    rw [o1] at hv1
    clear hk o1
    rcases hk' with rfl | rfl
    · have hno : ¬ ((1 : Int) = 2 ∧ (f ≠ 0 ∨ n ≠ 0)) := by omega
      by_cases hL0 : 0 < L
      · rw [if_pos ⟨rfl, .inl hL0⟩]
        clear hno hso hv2
        have hd : decide (0 < (L : Int)) = true := by simpa using hL0
        go_enter Try.func9, Try.ntmps9
        go_wp2_with fail
        refine (HeldW.call (s := (HeldW.start w).push (cmdO 1 t f n (.slice a L cap))) (hl _)).mono ?_
        rintro e _ ⟨rfl, s1, rfl⟩
        obtain ⟨d0, d1, d2, d3, d4, d5⟩ := held_cmd s1 (w.heap.size) 1 t f n (.slice a L cap) (by simp)
        go_wp2_with fail
        clear d0 d1 d2 d3 d4 d5
        refine (HeldW.call (s := s1) (htg _)).mono ?_
        rintro e _ ⟨rfl, s2, rfl⟩
        go_wp2_with fail
        refine (HeldW.call (s := s2) (hv1 _)).mono ?_
        rintro e _ ⟨rfl, s3, rfl⟩
        obtain ⟨d0, d1, d2, d3, d4, d5⟩ := held_cmd s3 (w.heap.size) 1 t f n (.slice a L cap) (by simp)
        go_wp2_with fail
        go_wp2
        go_ret
        exact ⟨rfl, s3.below⟩
      · obtain rfl : L = 0 := by omega
        clear hL0
        cases o2 : okE (f, n) with
        | false =>
          rw [if_pos ⟨rfl, .inr rfl⟩]
          rw [o2] at hv2
          clear hno o2
          go_enter Try.func9, Try.ntmps9
          go_wp2_with fail
          refine (HeldW.call (s := (HeldW.start w).push (cmdO 1 t f n (.slice a 0 cap))) (hl _)).mono ?_
          rintro e _ ⟨rfl, s1, rfl⟩
          obtain ⟨d0, d1, d2, d3, d4, d5⟩ := held_cmd s1 (w.heap.size) 1 t f n (.slice a 0 cap) (by simp)
          go_wp2_with fail
          clear d0 d1 d2 d3 d4 d5
          refine (HeldW.call (s := s1) (htg _)).mono ?_
          rintro e _ ⟨rfl, s2, rfl⟩
          go_wp2_with fail
          refine (HeldW.call (s := s2) (hv1 _)).mono ?_
          rintro e _ ⟨rfl, s3, rfl⟩
          obtain ⟨d0, d1, d2, d3, d4, d5⟩ := held_cmd s3 (w.heap.size) 1 t f n (.slice a 0 cap) (by simp)
          go_wp2_with fail
          clear d0 d1 d2 d3 d4 d5
          refine (HeldW.call (s := s3) (hso _)).mono ?_
          rintro e _ ⟨rfl, s4, rfl⟩
          go_wp2_with fail
          refine (HeldW.call (s := s4) (hv2 _)).mono ?_
          rintro e _ ⟨rfl, s5, rfl⟩
          go_wp2_with fail
          go_wp2
          go_ret
          exact ⟨rfl, s5.below⟩
        | true =>
          rw [if_neg (by simp), if_neg hno]
          rw [o2] at hv2
          clear hno o2
          go_enter Try.func9, Try.ntmps9
          go_wp2_with fail
          refine (HeldW.call (s := (HeldW.start w).push (cmdO 1 t f n (.slice a 0 cap))) (hl _)).mono ?_
          rintro e _ ⟨rfl, s1, rfl⟩
          obtain ⟨d0, d1, d2, d3, d4, d5⟩ := held_cmd s1 (w.heap.size) 1 t f n (.slice a 0 cap) (by simp)
          go_wp2_with fail
          clear d0 d1 d2 d3 d4 d5
          refine (HeldW.call (s := s1) (htg _)).mono ?_
          rintro e _ ⟨rfl, s2, rfl⟩
          go_wp2_with fail
          refine (HeldW.call (s := s2) (hv1 _)).mono ?_
          rintro e _ ⟨rfl, s3, rfl⟩
          obtain ⟨d0, d1, d2, d3, d4, d5⟩ := held_cmd s3 (w.heap.size) 1 t f n (.slice a 0 cap) (by simp)
          go_wp2_with fail
          clear d0 d1 d2 d3 d4 d5
          refine (HeldW.call (s := s3) (hso _)).mono ?_
          rintro e _ ⟨rfl, s4, rfl⟩
          go_wp2_with fail
          refine (HeldW.call (s := s4) (hv2 _)).mono ?_
          rintro e _ ⟨rfl, s5, rfl⟩
          obtain ⟨d0, d1, d2, d3, d4, d5⟩ := held_cmd s5 (w.heap.size) 1 t f n (.slice a 0 cap) (by simp)
          go_wp2_with fail
          go_wp2
          go_ret
          exact ⟨rfl, s5.below⟩
    · rw [if_neg (by omega)]
      clear hso hv2
      by_cases hf : f = 0
      · by_cases hn : n = 0
        · rw [if_neg (by omega)]
          subst hf hn
          go_enter Try.func9, Try.ntmps9
          go_wp2_with fail
          refine (HeldW.call (s := (HeldW.start w).push (cmdO 2 t 0 0 (.slice a L cap))) (hl _)).mono ?_
          rintro e _ ⟨rfl, s1, rfl⟩
          obtain ⟨d0, d1, d2, d3, d4, d5⟩ := held_cmd s1 (w.heap.size) 2 t 0 0 (.slice a L cap) (by simp)
          go_wp2_with fail
          clear d0 d1 d2 d3 d4 d5
          refine (HeldW.call (s := s1) (htg _)).mono ?_
          rintro e _ ⟨rfl, s2, rfl⟩
          go_wp2_with fail
          refine (HeldW.call (s := s2) (hv1 _)).mono ?_
          rintro e _ ⟨rfl, s3, rfl⟩
          obtain ⟨d0, d1, d2, d3, d4, d5⟩ := held_cmd s3 (w.heap.size) 2 t 0 0 (.slice a L cap) (by simp)
          go_wp2_with fail
          go_wp2
          go_ret
          exact ⟨rfl, s3.below⟩
        · rw [if_pos ⟨rfl, .inr hn⟩]
          subst hf
          have en : (n != 0) = true := by simpa using hn
          clear hn
          go_enter Try.func9, Try.ntmps9
          go_wp2_with fail
          refine (HeldW.call (s := (HeldW.start w).push (cmdO 2 t 0 n (.slice a L cap))) (hl _)).mono ?_
          rintro e _ ⟨rfl, s1, rfl⟩
          obtain ⟨d0, d1, d2, d3, d4, d5⟩ := held_cmd s1 (w.heap.size) 2 t 0 n (.slice a L cap) (by simp)
          go_wp2_with fail
          clear d0 d1 d2 d3 d4 d5
          refine (HeldW.call (s := s1) (htg _)).mono ?_
          rintro e _ ⟨rfl, s2, rfl⟩
          go_wp2_with fail
          refine (HeldW.call (s := s2) (hv1 _)).mono ?_
          rintro e _ ⟨rfl, s3, rfl⟩
          obtain ⟨d0, d1, d2, d3, d4, d5⟩ := held_cmd s3 (w.heap.size) 2 t 0 n (.slice a L cap) (by simp)
          go_wp2_with fail
          go_wp2
          go_ret
          exact ⟨rfl, s3.below⟩
      · rw [if_pos ⟨rfl, .inl hf⟩]
        have ef : (f != 0) = true := by simpa using hf
        clear hf
        go_enter Try.func9, Try.ntmps9
        go_wp2_with fail
        refine (HeldW.call (s := (HeldW.start w).push (cmdO 2 t f n (.slice a L cap))) (hl _)).mono ?_
        rintro e _ ⟨rfl, s1, rfl⟩
        obtain ⟨d0, d1, d2, d3, d4, d5⟩ := held_cmd s1 (w.heap.size) 2 t f n (.slice a L cap) (by simp)
        go_wp2_with fail
        clear d0 d1 d2 d3 d4 d5
        refine (HeldW.call (s := s1) (htg _)).mono ?_
        rintro e _ ⟨rfl, s2, rfl⟩
        go_wp2_with fail
        refine (HeldW.call (s := s2) (hv1 _)).mono ?_
        rintro e _ ⟨rfl, s3, rfl⟩
        obtain ⟨d0, d1, d2, d3, d4, d5⟩ := held_cmd s3 (w.heap.size) 2 t f n (.slice a L cap) (by simp)
        go_wp2_with fail
        go_wp2
        go_ret
        exact ⟨rfl, s3.below⟩
end Go.Proofs.Ytgmjppjgbalapaa

/- A command that came in, opened; its bytes are within the reach of a machine. -/
namespace Go.Proofs.Ytgmjppjgbalapaa
open Go.ChangeShapes Go.WideShapes Go.RowKit Go.Deep Go.Joins
set_option linter.unusedVariables false

theorem array5 {α : Type} {cs : Array α} (h : cs.size = 5) : ∃ c0 c1 c2 c3 c4, cs = #[c0, c1, c2, c3, c4] := by
  obtain ⟨l⟩ := cs
  match l, h with
  | [c0, c1, c2, c3, c4], _ => exact ⟨c0, c1, c2, c3, c4, rfl⟩
section
variable {H : Type} {enc : TypeId × Value → H} {P : Program} {w : World} {base : Nat} {spare : Nat → Bool} {held : Bool}
theorem trod_struct5 {t : TypeId} {f0 f1 f2 f3 f4 : Field} {fuel : Nat} {cs : List Value} {x : DataW H × List MemPlace} (ht : P.underlying t = some (.struct #[f0, f1, f2, f3, f4])) (h : DataW.trod enc P w base spare held fuel t cs = some x) :
    ∃ y0 y1 y2 y3 y4 n, x = (.agg [y0.1, y1.1, y2.1, y3.1, y4.1], y0.2 ++ (y1.2 ++ (y2.2 ++ (y3.2 ++ y4.2)))) ∧ cs.length = P.cellsOf t ∧ DataW.trod enc P w base spare held n f0.type ((cs.drop f0.offset).take (P.cellsOf f0.type)) = some y0 ∧
      DataW.trod enc P w base spare held n f1.type ((cs.drop f1.offset).take (P.cellsOf f1.type)) = some y1 ∧ DataW.trod enc P w base spare held n f2.type ((cs.drop f2.offset).take (P.cellsOf f2.type)) = some y2 ∧
      DataW.trod enc P w base spare held n f3.type ((cs.drop f3.offset).take (P.cellsOf f3.type)) = some y3 ∧ DataW.trod enc P w base spare held n f4.type ((cs.drop f4.offset).take (P.cellsOf f4.type)) = some y4 := by
  obtain ⟨xs, n, _, rfl, hl, hlen, hf⟩ := DataW.trod_struct ht h
  match xs, hlen with
  | [y0, y1, y2, y3, y4], _ => exact ⟨y0, y1, y2, y3, y4, n, by simp, hl, by simpa using hf 0 f0 rfl, by simpa using hf 1 f1 rfl, by simpa using hf 2 f2 rfl, by simpa using hf 3 f3 rfl, by simpa using hf 4 f4 rfl⟩
theorem open_agg5 {r : Reach} {b0 : Nat} {t : TypeId} {f0 f1 f2 f3 f4 : Field} {v : Value} {d : DataW H} {p : List MemPlace} (hs : P.underlying t = some (.struct #[f0, f1, f2, f3, f4])) (hone : oneCellFields P #[f0, f1, f2, f3, f4] = true) (hC : P.cellsOf t = 5)
    (hv : Value.okWide P w r b0 t v) (h : DataW.Trod enc P w base spare held t v d p) :
    ∃ (v0 v1 v2 v3 v4 : Value) (y0 y1 y2 y3 y4 : DataW H × List MemPlace) (n : Nat), v = .agg #[v0, v1, v2, v3, v4] ∧ d = .agg [y0.1, y1.1, y2.1, y3.1, y4.1] ∧
      DataW.trod enc P w base spare held n f0.type [v0] = some y0 ∧ DataW.trod enc P w base spare held n f1.type [v1] = some y1 ∧ DataW.trod enc P w base spare held n f2.type [v2] = some y2 ∧ DataW.trod enc P w base spare held n f3.type [v3] = some y3 ∧ DataW.trod enc P w base spare held n f4.type [v4] = some y4 := by
  obtain ⟨cs, rfl, hsz⟩ := okWide_struct hs hv
  obtain ⟨c0, c1, c2, c3, c4, rfl⟩ := array5 (hsz.trans hC)
  obtain ⟨fuel, hf⟩ := h
  obtain ⟨y0, y1, y2, y3, y4, n, hx, _, h0, h1, h2, h3, h4⟩ := trod_struct5 hs hf
  obtain ⟨o0, k0⟩ := hone_of hone 0 f0 rfl
  obtain ⟨o1, k1⟩ := hone_of hone 1 f1 rfl
  obtain ⟨o2, k2⟩ := hone_of hone 2 f2 rfl
  obtain ⟨o3, k3⟩ := hone_of hone 3 f3 rfl
  obtain ⟨o4, k4⟩ := hone_of hone 4 f4 rfl
  simp only [Prod.mk.injEq] at hx
  exact ⟨c0, c1, c2, c3, c4, y0, y1, y2, y3, y4, n, rfl, hx.1, by simpa [Value.cells, o0, k0] using h0, by simpa [Value.cells, o1, k1] using h1, by simpa [Value.cells, o2, k2] using h2, by simpa [Value.cells, o3, k3] using h3, by simpa [Value.cells, o4, k4] using h4⟩
end

/-- A datum of bytes: how many places it has. -/
def DatumOf {H : Type} (d : DataW H) (cap : Nat) : Prop := (d = .nil ∧ cap = 0) ∨ ∃ e s : List (DataW H), d = .slice e s ∧ e.length + s.length = cap
theorem datum_bytes {H : Type} {enc : TypeId × Value → H} {w : World} {base : Nat} {held : Bool} {a : Option Addr} {len cap : Nat} {d : DataW H} {p : List MemPlace}
    (h : DataW.Trod enc Try.prog w base (fun _ => true) held 24 (.slice a len cap) d p) : DatumOf d cap := by
  obtain ⟨fuel, hf⟩ := h
  rcases open_ints Try.underlying24 Try.underlying5 (by kernel_rfl) hf with ⟨hcs, hx⟩ | ⟨ad, len', cap', zs, hcs, _, hl, hm, hz, hx, hc, hwz⟩
  · simp [Value.cells] at hcs
    simp only [Prod.mk.injEq] at hx
    exact .inl ⟨hx.1, hcs.2.2⟩
  · simp [Value.cells] at hcs
    obtain ⟨rfl, rfl, rfl⟩ := hcs
    simp only [Prod.mk.injEq] at hx
    simp at hz
    refine .inr ⟨_, _, hx.1, ?_⟩
    simp [lits]
    omega

set_option maxRecDepth 100000 in
theorem open_cmd {H : Type} {enc : TypeId × Value → H} {w : World} {r : Reach} {b0 base : Nat} {held : Bool} {v : Value} {d : DataW H} {p : List MemPlace} (hv : Value.okWide Try.prog w r b0 26 v)
    (h : DataW.Trod enc Try.prog w base (fun _ => true) held 26 v d p) :
    ∃ (k t f n : Int) (a : Option Addr) (l : List Int) (cap : Nat), v = cmdV k t f n (.slice a l.length cap) ∧ (I64 k ∧ I64 t ∧ I64 f ∧ I64 n) ∧ BytesIn w a l cap ∧ OkB l ∧ ∃ y0 y1 y2 y3 y4, d = .agg [y0, y1, y2, y3, y4] ∧ DatumOf y4 cap := by
  obtain ⟨v0, v1, v2, v3, v4, y0, y1, y2, y3, y4, m, rfl, rfl, hy0, hy1, hy2, hy3, hy4⟩ := open_agg5 Try.underlying26 (by kernel_rfl) (by kernel_rfl) hv h
  obtain ⟨k, ek, _, wk⟩ := DataW.trod_int Try.underlying3 hy0
  obtain ⟨t, et, _, wt⟩ := DataW.trod_int Try.underlying3 hy1
  obtain ⟨f, ef, _, wf⟩ := DataW.trod_int Try.underlying3 hy2
  obtain ⟨n, en, _, wn⟩ := DataW.trod_int Try.underlying3 hy3
  obtain ⟨a, len, cap, e4⟩ := slice_form Try.underlying24 hy4
  simp only [List.cons.injEq, and_true] at ek et ef en e4
  subst ek et ef en e4
  have h4 : DataW.Trod enc Try.prog w base (fun _ => true) held 24 (.slice a len cap) y4.1 y4.2 := ⟨m, by simpa [Value.cells] using hy4⟩
  obtain ⟨l, rfl, hb, hok⟩ := open_bytes_wf h4
  exact ⟨k, t, f, n, a, l, cap, rfl, ⟨bounds_i64 wk, bounds_i64 wt, bounds_i64 wf, bounds_i64 wn⟩, hb, hok, y0.1, y1.1, y2.1, y3.1, y4.1, rfl, datum_bytes h4⟩

/-- What the reach says of a command's bytes. -/
theorem cmd_reach {H : Type} {ts : List TypeId} {ds : List (DataW H)} (h : (DataW.weightsEach Try.prog ts ds).all (· ≤ reachBytes) = true) {j : Nat} {y0 y1 y2 y3 y4 : DataW H} {cap : Nat} (ht : ts[j]? = some 26) (hd : ds[j]? = some (.agg [y0, y1, y2, y3, y4])) (h4 : DatumOf y4 cap) : cap ≤ reachBytes := by
  rcases h4 with ⟨_, rfl⟩ | ⟨e, s, rfl, hc⟩
  · omega
  · have hb : Try.prog.bytesOf 5 = 1 := by kernel_rfl
    have := List.all_eq_true.1 h _ (DataW.weights_mem_each ht hd ((e.length + s.length) * Try.prog.bytesOf 5) (by simp [DataW.weights, DataW.weightsEach, Try.underlying26, Try.underlying24]))
    simp only [decide_eq_true_eq] at this
    rw [hb] at this
    omega

end Go.Proofs.Ytgmjppjgbalapaa

/- A slice of extents that came in, opened. -/
namespace Go.Proofs.Ytgmjppjgbalapaa
open Go.ChangeShapes Go.WideShapes Go.RowKit Go.Deep

theorem open_exts {H : Type} {enc : TypeId × Value → H} {P : Program} {w : World} {base : Nat} {held : Bool} {t e : TypeId} {f0 f1 : Field} {a : Option Addr} {len cap : Nat} {d : DataW H} {p : List MemPlace}
    (ht : P.underlying t = some (.slice e)) (he : P.underlying e = some (.struct #[f0, f1])) (ho : f0.offset = 0 ∧ f1.offset = 1 ∧ P.cellsOf f0.type = 1 ∧ P.cellsOf f1.type = 1 ∧ P.cellsOf e = 2) (h0 : P.underlying f0.type = some (.int .i64)) (h1 : P.underlying f1.type = some (.int .i64))
    (h : DataW.Trod enc P w base (fun _ => true) held t (.slice a len cap) d p) :
    ∃ f : Nat → Int × Int, len ≤ maxLen ∧ ExtSlice w a len f ∧ ∀ i, i < len → I64 (f i).1 ∧ I64 (f i).2 := by
  obtain ⟨o0, o1, c0, c1, ce⟩ := ho
  obtain ⟨fuel, hf⟩ := h
  rcases open_slice ht hf with ⟨hcs, _⟩ | ⟨ad, len', cap', m, n, D, Pl, hcs, _, hl, hm, hmm, _, hi⟩
  · simp [Value.cells] at hcs
    obtain ⟨rfl, rfl, rfl⟩ := hcs
    exact ⟨fun _ => (0, 0), Nat.zero_le _, fun h => absurd h (by omega), fun i hi => absurd hi (by omega)⟩
  · simp [Value.cells] at hcs
    obtain ⟨rfl, rfl, rfl⟩ := hcs
    simp at hmm
    subst hmm
    have hex : ∀ i, i < len → ∃ x : Int × Int, (w.cell? (ad.add (i * 2)) = some (.int .i64 x.1) ∧ w.cell? (ad.add (i * 2 + 1)) = some (.int .i64 x.2)) ∧ I64 x.1 ∧ I64 x.2 := fun i hlt => by
      obtain ⟨cs', h1', h2⟩ := hi i (by omega)
      rw [ce] at h1'
      obtain ⟨_, hlen, hat⟩ := World.cells?_some h1'
      obtain ⟨y0, y1, n', _, _, t0, t1⟩ := trod_struct2 he h2
      rw [o0, c0] at t0
      rw [o1, c1] at t1
      match cs', hlen with
      | [u0, u1], _ =>
        obtain ⟨b0, e0, _, w0⟩ := DataW.trod_int h0 t0
        obtain ⟨b1, e1, _, w1⟩ := DataW.trod_int h1 t1
        simp at e0 e1
        subst e0 e1
        have a0 := hat 0 (by omega)
        have a1 := hat 1 (by omega)
        rw [add_add] at a0 a1
        exact ⟨(b0, b1), ⟨by simpa using a0, by simpa using a1⟩, bounds_i64 w0, bounds_i64 w1⟩
    obtain ⟨f, hf'⟩ := choose_lt (α := Int × Int) (p := fun i x => (w.cell? (ad.add (i * 2)) = some (.int .i64 x.1) ∧ w.cell? (ad.add (i * 2 + 1)) = some (.int .i64 x.2)) ∧ I64 x.1 ∧ I64 x.2) hex
    refine ⟨f, by omega, fun hn => ?_, fun i hi => (hf' i hi).2⟩
    obtain ⟨b, o, s⟩ := ad
    have hsp : s = none := by simpa [Addr.add] using World.cell?_spot (hf' 0 hn).1.1
    subst hsp
    refine ⟨b, o, rfl, fun i hi => ?_⟩
    have e : ∀ j, (⟨b, o, none⟩ : Addr).add j = ⟨b, o + j, none⟩ := fun j => by simp [Addr.add]
    have hx := (hf' i hi).1
    rw [e, e] at hx
    exact ⟨hx.1, hx.2⟩
end Go.Proofs.Ytgmjppjgbalapaa

/- Plain mathematics for package extent, of two extents. No Go text. -/
namespace Go.Proofs.Ytgmjppjgbalapaa.Plain01

/-- The extent of the bytes that two extents have. -/
def ovl (a b : Int × Int) : Int × Int := if min (a.1 + a.2) (b.1 + b.2) ≤ max a.1 b.1 then (0, 0) else (max a.1 b.1, min (a.1 + a.2) (b.1 + b.2) - max a.1 b.1)
def ovlB (a b : Int × Int) : Bool := decide (max a.1 b.1 < min (a.1 + a.2) (b.1 + b.2))
theorem ovl_no {a b : Int × Int} (h : min (a.1 + a.2) (b.1 + b.2) ≤ max a.1 b.1) : ovl a b = (0, 0) ∧ ovlB a b = false := by
  unfold ovl ovlB; rw [if_pos h]; simp; omega
theorem ovl_yes {a b : Int × Int} {lo hi : Int} (hlo : max a.1 b.1 = lo) (hhi : min (a.1 + a.2) (b.1 + b.2) = hi) (h : lo < hi) : ovl a b = (lo, hi - lo) ∧ ovlB a b = true := by
  subst hlo; subst hhi
  unfold ovl ovlB; rw [if_neg (by omega)]; simp; omega

/-- The extent from the smaller beginning to the greater end. -/
def jn (a b : Int × Int) : Int × Int := (min a.1 b.1, max (a.1 + a.2) (b.1 + b.2) - min a.1 b.1)
theorem jn_eq {a b : Int × Int} {lo hi : Int} (hlo : min a.1 b.1 = lo) (hhi : max (a.1 + a.2) (b.1 + b.2) = hi) : jn a b = (lo, hi - lo) := by subst hlo; subst hhi; rfl

end Go.Proofs.Ytgmjppjgbalapaa.Plain01
