/- slices.Equal at lists of extents, End, Valid, and the example of the chapter (alive). -/
import Derived.Deep.QuietTactic
import Derived.BigQuiet
import Derived.Outline
import Derived.Test.Ytbhpipkaojlgfaa00Base
import Derived.Test.Ytbhpipkaojlgfaa01Split2
namespace Go.Proofs.Ytbhpipkaojlgfaa
open Go.RowKit Go.Shelf Go.Proofs.Ytbhpipkaojlgfaa.Plain01

/-- A row of n extents in block b from cell o on. -/
def ExtRow (w : World) (b o n : Nat) (f : Nat → Int × Int) : Prop := ∀ i, i < n → w.cell? ⟨b, o + i * 2, none⟩ = some (.int .i64 (f i).1) ∧ w.cell? ⟨b, o + i * 2 + 1, none⟩ = some (.int .i64 (f i).2)

set_option maxRecDepth 100000 in
/-- slices.Equal holds for two rows with the same extents. -/
theorem equal_same (b1 o1 c1 b2 o2 c2 n : Nat) (f : Nat → Int × Int) (w : World) (hn : n ≤ 9223372036854775807) (h1 : ExtRow w b1 o1 n f) (h2 : ExtRow w b2 o2 n f) :
    Calls Try.prog 25 #[.slice (some ⟨b1, o1, none⟩) n c1, .slice (some ⟨b2, o2, none⟩) n c2] w fun e w' => e = .returned (.bool true) ∧ ∃ nq, w' = w.drewN nq := by
  go_enter Try.func25, Try.ntmps25
  go_wp2
  go_loopw [13] (fun i wr => ∃ k : Nat, k ≤ n ∧ i = .int .i64 k ∧ ∃ nq, wr = w.drewN nq) (fun i _ => n - (intOf i).toNat)
  case atStart => exact ⟨0, Nat.zero_le _, rfl, 0, rfl⟩
  case round =>
    obtain ⟨k, hk, rfl, nq, rfl⟩ := hrel
    by_cases hlt : k < n
    · obtain ⟨x0, x1⟩ := h1 k hlt
      obtain ⟨y0, y1⟩ := h2 k hlt
      go_wp2
      go_quiet (fail)
      go_wp2
      go_roundw
      case rel => exact ⟨k + 1, by omega, by go_num, _, rfl⟩
      case measure => simp [intOf]; omega
    · obtain rfl : k = n := by omega
      go_wp2
      go_ret
      exact ⟨rfl, _, rfl⟩

theorem extCells_length (f : Nat → Int × Int) (n : Nat) : (extCells (upto f n)).length = n * 2 := by
  induction n with
  | zero => rfl
  | succ n ih => rw [upto_succ, extCells_snoc, List.length_append, ih]; simp; omega

theorem extCells_get (f : Nat → Int × Int) (n i : Nat) (h : i < n) : (extCells (upto f n))[i * 2]? = some (.int .i64 (f i).1) ∧ (extCells (upto f n))[i * 2 + 1]? = some (.int .i64 (f i).2) := by
  induction n with
  | zero => omega
  | succ n ih =>
    have hl := extCells_length f n
    rw [upto_succ, extCells_snoc]
    by_cases hi : i < n
    · rw [List.getElem?_append_left (by omega), List.getElem?_append_left (by omega)]
      exact ih hi
    · obtain rfl : i = n := by omega
      rw [List.getElem?_append_right (by omega), List.getElem?_append_right (by omega), hl]
      have e : i * 2 + 1 - i * 2 = 1 := by omega
      simp [e]

theorem addr_add (g j : Nat) : (⟨g, 0, none⟩ : Addr).add j = ⟨g, j, none⟩ := by simp [Addr.add]; omega

/-- A slice that owns a row of extents, at least one. -/
theorem row_of_owns {W : World} {base n : Nat} {v : Value} {f : Nat → Int × Int} (h : W.ownsRow base 23 2 v n (extCells (upto f n))) (hn : 0 < n) :
    ∃ g cap, v = .slice (some ⟨g, 0, none⟩) n cap ∧ base ≤ g ∧ g < W.heap.size ∧ ExtRow W g 0 n f := by
  rcases h.2 with ⟨_, h0⟩ | ⟨g, cap, cur, rfl, hb, hg, _⟩
  · omega
  · refine ⟨g, cap, rfl, hb, (Array.getElem?_eq_some_iff.1 hg).1, fun i hi => ?_⟩
    have hc := h.cells (g := g) rfl
    obtain ⟨e0, e1⟩ := extCells_get f n i hi
    have c0 := hc _ _ e0
    have c1 := hc _ _ e1
    rw [addr_add] at c0 c1
    simp only [Nat.zero_add]
    exact ⟨c0, c1⟩

theorem ExtRow.below {w w' : World} {B b o n : Nat} {f : Nat → Int × Int} (h : ExtRow w b o n f) (hb : Below B w w') (hlt : b < B) : ExtRow w' b o n f := fun i hi =>
  ⟨(hb.cell (p := ⟨b, _, none⟩) hlt).trans (h i hi).1, (hb.cell (p := ⟨b, _, none⟩) hlt).trans (h i hi).2⟩

theorem end_any (off len : Int) (hoff : 0 ≤ off) (hlen : 0 ≤ len) (hsum : off + len ≤ 4611686018427387903) (w : World) :
    Calls Try.prog 12 #[extV (off, len)] w fun e w' => e = .returned (.int .i64 (off + len)) ∧ w' = w.alloc (.cells #[.int .i64 off, .int .i64 len] 23) := by
  go_enter Try.func12, Try.ntmps12
  go_wp2
  go_ret
  exact ⟨rfl, rfl⟩

/-- The extent is valid. -/
def okE (x : Int × Int) : Bool := decide (0 ≤ x.1 ∧ 0 ≤ x.2 ∧ x.1 + x.2 ≤ 4611686018427387903)
theorem okE_iff {x : Int × Int} : okE x = true ↔ 0 ≤ x.1 ∧ 0 ≤ x.2 ∧ x.1 + x.2 ≤ 4611686018427387903 := by simp [okE]

/-- An int of 64 bits. -/
def I64 (a : Int) : Prop := -9223372036854775808 ≤ a ∧ a ≤ 9223372036854775807

theorem valid_any (off len : Int) (h0 : I64 off) (h1 : I64 len) (w : World) :
    Calls Try.prog 11 #[extV (off, len)] w fun e w' => e = .returned (.bool (okE (off, len))) ∧ w' = w.alloc (.cells #[.int .i64 off, .int .i64 len] 23) := by
  unfold I64 at h0 h1
  by_cases c1 : 0 ≤ off
  · by_cases c2 : 0 ≤ len
    · by_cases c3 : off ≤ 4611686018427387903 - len
      · have e : okE (off, len) = true := by rw [okE_iff]; simp; omega
        go_enter Try.func11, Try.ntmps11
        go_wp2
        go_ret
        exact ⟨by first | rfl | (rw [e]; rfl), rfl⟩
      · have e : okE (off, len) = false := by rw [Bool.eq_false_iff, Ne, okE_iff]; simp; omega
        go_enter Try.func11, Try.ntmps11
        go_wp2
        go_ret
        exact ⟨by first | rfl | (rw [e]; rfl), rfl⟩
    · have e : okE (off, len) = false := by rw [Bool.eq_false_iff, Ne, okE_iff]; simp; omega
      go_enter Try.func11, Try.ntmps11
      go_wp2
      go_ret
      exact ⟨by first | rfl | (rw [e]; rfl), rfl⟩
  · have e : okE (off, len) = false := by rw [Bool.eq_false_iff, Ne, okE_iff]; simp; omega
    go_enter Try.func11, Try.ntmps11
    go_wp2
    go_ret
    exact ⟨by first | rfl | (rw [e]; rfl), rfl⟩

/-- A row of three extents in a new block. -/
theorem row_new3 (w : World) (f : Nat → Int × Int) (a b c : Int × Int) (ha : f 0 = a) (hb : f 1 = b) (hc : f 2 = c) :
    ExtRow (w.alloc (.cells #[.int .i64 a.1, .int .i64 a.2, .int .i64 b.1, .int .i64 b.2, .int .i64 c.1, .int .i64 c.2] 23)) w.heap.size 0 3 f := by
  intro i hi
  rw [World.cell?_alloc_mark, World.cell?_alloc_mark]
  match i, hi with
  | 0, _ => simp [ha]
  | 1, _ => simp [hb]
  | 2, _ => simp [hc]

theorem alive_below {w w1 : World} (hb : Below w.heap.size w w1) (nq : Nat) (o1 o2 o3 : Obj) : Below w.heap.size w ((((w1.alloc o1).alloc o2).alloc o3).drewN nq) := by
  have h1 := hb.alloc hb.size o1
  have h2 := h1.alloc h1.size o2
  have h3 := h2.alloc h2.size o3
  exact below_drewN h3 nq

set_option maxRecDepth 100000 in
set_option maxHeartbeats 1000000 in
/-- The example of the chapter holds. -/
theorem alive_any (w : World) : Calls Try.prog 10 #[] w fun e w' => e = .returned (.bool true) ∧ Below w.heap.size w w' := by
  have hs := split_any 5 7 3 (by omega) (by omega) (by omega) (by omega) w
  have hn : nsp 7 3 = 3 := by decide
  go_enter Try.func10, Try.ntmps10
  go_wp2_with fail
  refine hs.mono ?_
  rintro e w1 ⟨v, rfl, hown, hb⟩
  rw [hn] at hown
  obtain ⟨g, cap, rfl, hg, hgl, hrow⟩ := row_of_owns hown (by omega)
  clear hs hn hown
  have hv := equal_same g 0 cap w1.heap.size 0 3 3 (piece 5 7 3) (w1.alloc (.cells #[.int .i64 5, .int .i64 3, .int .i64 8, .int .i64 3, .int .i64 11, .int .i64 1] 23)) (by omega) (hrow.below ((Below.refl w1.heap.size w1).alloc (Nat.le_refl _) _) hgl) (row_new3 w1 (piece 5 7 3) (5, 3) (8, 3) (11, 1) (by decide) (by decide) (by decide))
  have Hrow := Lib.hid hrow
  clear hrow
  go_wp2_with fail
  refine hv.mono ?_
  rintro e w2 ⟨rfl, nq, rfl⟩
  clear hv
  go_wp2
  go_ret
  refine ⟨rfl, ?_⟩
  exact alive_below hb nq _ _ _

end Go.Proofs.Ytbhpipkaojlgfaa
