/- Part of package command: no part, and the part of a Copy. -/
import Derived.Test.Ytfikjndkjjgcjaa04Ext
import Derived.Test.Ytfikjndkjjgcjaa04Same
namespace Go.Proofs.Ytfikjndkjjgcjaa
open Go.RowKit Go.Shelf Go.Proofs.Ytfikjndkjjgcjaa.Plain01
set_option linter.unusedVariables false

set_option maxRecDepth 100000 in
theorem mcontains_any (x e : Int × Int) (hx : okE x = true) (he : okE e = true) (w : World) : Calls Try.prog 35 #[extV x, extV e] w (Gives (.bool (decide (insE x e))) w) := by
  have hc := contains1_bool x e hx he
  generalize decide (insE x e) = d at hc ⊢
  clear hx he
  go_enter Try.func35, Try.ntmps35
  go_wp2_with fail
  refine (HeldW.call (s := (((HeldW.start w).push (.cells #[.int .i64 x.1, .int .i64 x.2] 49 (0, 0))).push (extO e)).push (extO e)) (hc _ _ (heap_new _ _ (by simp)))).mono ?_
  rintro e _ ⟨rfl, s1, rfl⟩
  go_wp2_with fail
  go_wp2
  go_ret
  exact ⟨rfl, s1.below⟩

/-- Five cells of a new block are written. -/
theorem below_put5 {B : Nat} {a w : World} (h : Below B a w) {b : Nat} (hb : B ≤ b) (v0 v1 v2 v3 v4 : Value) : Below B a (((((w.setCell ⟨b, 0, none⟩ v0).setCell ⟨b, 1, none⟩ v1).setCell ⟨b, 2, none⟩ v2).setCell ⟨b, 3, none⟩ v3).setCell ⟨b, 4, none⟩ v4) :=
  ((((h.setCell (p := ⟨b, 0, none⟩) hb _).setCell (p := ⟨b, 1, none⟩) hb _).setCell (p := ⟨b, 2, none⟩) hb _).setCell (p := ⟨b, 3, none⟩) hb _).setCell (p := ⟨b, 4, none⟩) hb _

/-- The zero command and false. -/
abbrev noPart : Value := .tuple #[cmdV 0 0 0 0 (.slice none 0 0), .bool false]

set_option maxRecDepth 100000 in
set_option maxHeartbeats 4000000 in
theorem part_no (k t f n : Int) (v : Value) (x0 x1 x2 x3 x4 : Int) (b : Bool) (e : Int × Int) (hx : okE (x0, x1) = true) (he : okE e = true) (hno : e.2 = 0 ∨ ¬ insE (x0, x1) e)
    (hd : ∀ w, Calls Try.prog 27 #[cmdV k t f n v] w (Gives (.agg #[.int .i64 x0, .int .i64 x1, .int .i64 x2, .int .i64 x3, .int .i64 x4, .bool b]) w)) (w : World) :
    Calls Try.prog 22 #[cmdV k t f n v, extV e] w (Gives noPart w) := by
  have hc := mcontains_any (x0, x1) e hx he
  have hv := valid_gives e (by have := okE_iff.1 he; unfold I64; omega) (by have := okE_iff.1 he; unfold I64; omega)
  rw [he] at hv
  clear hx he
  by_cases h0 : e.2 = 0
  · have h0' : (e.2 == 0) = true := by simpa using h0
    clear hno hc h0
    go_enter Try.func22, Try.ntmps22
    go_wp2_with fail
    obtain ⟨S, hS⟩ := start3 w (cmdO k t f n v) (extO e) (cmdO 0 0 0 0 (.slice none 0 0))
    rw [hS]
    clear hS
    refine (HeldW.call (s := S) (hd _)).mono ?_
    rintro e _ ⟨rfl, s1, rfl⟩
    obtain ⟨d0, d1, d2⟩ := held_ext2 s1 (w.heap.size + 1) e (by simp)
    go_wp2_with fail
    clear d0 d1 d2
    refine (HeldW.call (s := s1.push (descO x0 x1 x2 x3 x4 b)) (hv _)).mono ?_
    rintro e _ ⟨rfl, s2, rfl⟩
    obtain ⟨d0, d1, d2⟩ := held_ext2 s2 (w.heap.size + 1) e (by simp)
    obtain ⟨r0, r1, r2, r3, r4, r5, r6⟩ := held_cmdF s2 (w.heap.size + 1 + 1) 0 0 0 0 (.slice none 0 0) (by simp)
    go_wp2_with fail
    refine bodyPost_ret (v := noPart) (by simp [results, Try.results22, go_sem, r0, r1, r2, r3, r4]) rfl ⟨rfl, ?_⟩
    exact below_put5 s2.below (by omega) _ _ _ _ _
  · have h0' : (e.2 == 0) = false := by simpa using h0
    have hi : decide (insE (x0, x1) e) = false := decide_eq_false (by rcases hno with h | h; exact absurd h h0; exact h)
    rw [hi] at hc
    clear hno h0 hi
    go_enter Try.func22, Try.ntmps22
    go_wp2_with fail
    obtain ⟨S, hS⟩ := start3 w (cmdO k t f n v) (extO e) (cmdO 0 0 0 0 (.slice none 0 0))
    rw [hS]
    clear hS
    refine (HeldW.call (s := S) (hd _)).mono ?_
    rintro e _ ⟨rfl, s1, rfl⟩
    obtain ⟨d0, d1, d2⟩ := held_ext2 s1 (w.heap.size + 1) e (by simp)
    go_wp2_with fail
    clear d0 d1 d2
    refine (HeldW.call (s := s1.push (descO x0 x1 x2 x3 x4 b)) (hv _)).mono ?_
    rintro e _ ⟨rfl, s2, rfl⟩
    obtain ⟨d0, d1, d2⟩ := held_ext2 s2 (w.heap.size + 1) e (by simp)
    obtain ⟨g0, g1, g2, g3, g4, g5, g6⟩ := held_desc s2 (s1.w.heap.size) x0 x1 x2 x3 x4 b (by simp)
    go_wp2_with fail
    clear d0 d1 d2 g0 g1 g2 g3 g4 g5 g6
    refine (HeldW.call (s := s2) (hc _)).mono ?_
    rintro e _ ⟨rfl, s3, rfl⟩
    obtain ⟨r0, r1, r2, r3, r4, r5, r6⟩ := held_cmdF s3 (w.heap.size + 1 + 1) 0 0 0 0 (.slice none 0 0) (by simp)
    go_wp2_with fail
    refine bodyPost_ret (v := noPart) (by simp [results, Try.results22, go_sem, r0, r1, r2, r3, r4]) rfl ⟨rfl, ?_⟩
    exact below_put5 s3.below (by omega) _ _ _ _ _

set_option maxRecDepth 100000 in
set_option maxHeartbeats 4000000 in
theorem part_copy (t f n : Int) (a : Option Addr) (L cap : Nat) (e : Int × Int) (hx : okE (t, n) = true) (hf : okE (f, n) = true) (he : okE e = true) (h0 : e.2 ≠ 0) (hi : insE (t, n) e) (w : World) :
    Calls Try.prog 22 #[cmdV 1 t f n (.slice a L cap), extV e] w (Gives (.tuple #[cmdV 1 e.1 (f + (e.1 - t)) e.2 (.slice none 0 0), .bool true]) w) := by
  have hd := fun w => describe_any 1 t f n a L cap w
  simp only [descA_copy] at hd
  generalize decide (0 < L) = b at hd
  have hc := mcontains_any (t, n) e hx he
  rw [decide_eq_true hi] at hc
  have hv := valid_gives e (by have := okE_iff.1 he; unfold I64; omega) (by have := okE_iff.1 he; unfold I64; omega)
  rw [he] at hv
  have h0' : (e.2 == 0) = false := by simpa using h0
  obtain ⟨a0, a1, a2⟩ := okE_iff.1 hx
  obtain ⟨f0, f1, f2⟩ := okE_iff.1 hf
  obtain ⟨e0, e1, e2⟩ := okE_iff.1 he
  unfold insE at hi
  simp only at a0 a1 a2 f0 f1 f2 hi
  obtain ⟨i0, i1⟩ := hi
  have hcp := mcopy_any e.1 (f + (e.1 - t)) e.2
  clear hx hf he h0
  go_enter Try.func22, Try.ntmps22
  go_wp2_with fail
  obtain ⟨S, hS⟩ := start3 w (cmdO 1 t f n (.slice a L cap)) (extO e) (cmdO 0 0 0 0 (.slice none 0 0))
  rw [hS]
  clear hS
  refine (HeldW.call (s := S) (hd _)).mono ?_
  rintro e _ ⟨rfl, s1, rfl⟩
  obtain ⟨d0, d1, d2⟩ := held_ext2 s1 (w.heap.size + 1) e (by simp)
  go_wp2_with fail
  clear d0 d1 d2
  refine (HeldW.call (s := s1.push (descO t n 1 f n b)) (hv _)).mono ?_
  rintro e _ ⟨rfl, s2, rfl⟩
  obtain ⟨d0, d1, d2⟩ := held_ext2 s2 (w.heap.size + 1) e (by simp)
  obtain ⟨g0, g1, g2, g3, g4, g5, g6⟩ := held_desc s2 (s1.w.heap.size) t n 1 f n b (by simp)
  go_wp2_with fail
  clear d0 d1 d2 g0 g1 g2 g3 g4 g5 g6
  refine (HeldW.call (s := s2) (hc _)).mono ?_
  rintro e _ ⟨rfl, s3, rfl⟩
  obtain ⟨d0, d1, d2⟩ := held_ext2 s3 (w.heap.size + 1) e (by simp)
  obtain ⟨g0, g1, g2, g3, g4, g5, g6⟩ := held_desc s3 (s1.w.heap.size) t n 1 f n b (by simp)
  obtain ⟨q0, q1, q2, q3, q4, q5⟩ := held_cmd s3 (w.heap.size) 1 t f n (.slice a L cap) (by simp)
  go_wp2_with fail
  clear d0 d1 d2 g0 g1 g2 g3 g4 g5 g6 q0 q1 q2 q3 q4 q5
  refine (HeldW.call (s := s3) (hcp _)).mono ?_
  rintro e _ ⟨rfl, s4, rfl⟩
  obtain ⟨r0, r1, r2, r3, r4, r5, r6⟩ := held_cmdF s4 (w.heap.size + 1 + 1) 0 0 0 0 (.slice none 0 0) (by simp)
  go_wp2_with fail
  refine bodyPost_ret (v := .tuple #[cmdV 1 e.1 (f + (e.1 - t)) e.2 (.slice none 0 0), .bool true]) (by simp [results, Try.results22, go_sem, r0, r1, r2, r3, r4]) rfl ⟨rfl, ?_⟩
  exact below_put5 s4.below (by omega) _ _ _ _ _
end Go.Proofs.Ytfikjndkjjgcjaa
