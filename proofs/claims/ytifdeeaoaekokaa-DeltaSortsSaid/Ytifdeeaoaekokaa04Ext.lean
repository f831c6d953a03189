/- Target, Source and Overlaps of package command; Overlaps of its reference. -/
import Derived.BigRegion
import Derived.Test.Ytifdeeaoaekokaa01Meets
import Derived.Test.Ytifdeeaoaekokaa04Check
namespace Go.Proofs.Ytifdeeaoaekokaa
open Go.RowKit Go.Shelf Go.Proofs.Ytifdeeaoaekokaa.Plain01
set_option linter.unusedVariables false

theorem desc_target (x0 x1 x2 x3 x4 : Int) (b : Bool) (W : World) : (Instr.field 77 (.agg #[.int .i64 x0, .int .i64 x1, .int .i64 x2, .int .i64 x3, .int .i64 x4, .bool b]) 0).run Try.prog W = .ok (extV (x0, x1)) W := by kernel_rfl
theorem ext_len (y0 y1 : Int) (W : World) : (Instr.field 50 (.agg #[.int .i64 y0, .int .i64 y1]) 1).run Try.prog W = .ok (.int .i64 y1) W := by kernel_rfl

set_option maxRecDepth 100000 in
set_option maxHeartbeats 4000000 in
theorem target_of_desc (k t f n : Int) (v : Value) (x0 x1 x2 x3 x4 : Int) (b : Bool)
    (hd : ∀ w, Calls Try.prog 54 #[cmdV k t f n v] w (Gives (.agg #[.int .i64 x0, .int .i64 x1, .int .i64 x2, .int .i64 x3, .int .i64 x4, .bool b]) w)) (w : World) :
    Calls Try.prog 37 #[cmdV k t f n v] w (Gives (extV (x0, x1)) w) := by
  have hfl := desc_target x0 x1 x2 x3 x4 b
  go_enter Try.func37, Try.ntmps37
  go_wp2_with fail
  refine (HeldW.call (s := ((HeldW.start w).push (cmdO k t f n v)).push (extO (0, 0))) (hd _)).mono ?_
  rintro e _ ⟨rfl, s1, rfl⟩
  obtain ⟨r0, r1, r2⟩ := held_ext1 s1 (w.heap.size + 1) (0, 0) (by simp)
  go_wp2_with fail
  go_wp2
  refine bodyPost_ret (v := extV (x0, x1)) (by simp [results, Try.results37, go_sem, r0, r1]) rfl ⟨rfl, ?_⟩
  exact (s1.below.setCell (p := ⟨w.heap.size + 1, 0, none⟩) (by simp) _).setCell (p := ⟨w.heap.size + 1, 1, none⟩) (by simp) _

set_option maxRecDepth 100000 in
set_option maxHeartbeats 4000000 in
theorem source_of_desc (k t f n : Int) (v : Value) (x0 x1 x2 x3 x4 : Int) (b : Bool)
    (hd : ∀ w, Calls Try.prog 54 #[cmdV k t f n v] w (Gives (.agg #[.int .i64 x0, .int .i64 x1, .int .i64 x2, .int .i64 x3, .int .i64 x4, .bool b]) w)) (w : World) :
    Calls Try.prog 40 #[cmdV k t f n v] w (Gives (.tuple #[extV (x3, x4), .bool (x2 == 1)]) w) := by
  go_enter Try.func40, Try.ntmps40
  go_wp2_with fail
  obtain ⟨S0, hS0⟩ := start2 w (cmdO k t f n v) (extO (0, 0))
  rw [hS0]
  clear hS0
  refine (HeldW.call (s := S0) (hd _)).mono ?_
  rintro e _ ⟨rfl, s1, rfl⟩
  obtain ⟨r0, r1, r2⟩ := held_ext1 s1 (w.heap.size + 1) (0, 0) (by simp)
  go_wp2_with fail
  have hlt := (Array.getElem?_eq_some_iff.1 (s1.blocks (w.heap.size + 1, extO (0, 0)) (by simp))).1
  obtain ⟨B, S, hB, hB0, hS⟩ := s1.more (descO x0 x1 x2 x3 x4 b)
  have hne : B ≠ w.heap.size + 1 := by omega
  rw [hS, ← hB]
  clear hS hB hlt r0 r1 r2
  obtain ⟨r0, r1, r2⟩ := held_ext1 S (w.heap.size + 1) (0, 0) (by simp)
  obtain ⟨d0, d1, d2, d3, d4, d5, d6⟩ := held_desc S B x0 x1 x2 x3 x4 b (by simp)
  go_region
  go_wp2
  refine bodyPost_ret (v := .tuple #[extV (x3, x4), .bool (x2 == 1)]) (by simp [results, Try.results40, go_sem, r0, r1]) rfl ⟨rfl, ?_⟩
  exact ((S.below.setCell (p := ⟨w.heap.size + 1, 0, none⟩) (by simp) _).setCell (p := ⟨w.heap.size + 1, 1, none⟩) (by simp) _).drew

theorem mtarget_any (k t f n : Int) (hk : k = 1 ∨ k = 2) (a : Option Addr) (L cap : Nat) (w : World) : Calls Try.prog 37 #[cmdV k t f n (.slice a L cap)] w (Gives (extV (t, wlen k n L)) w) := by
  have hd := fun w => describe_any k t f n a L cap w
  rcases hk with rfl | rfl
  · simp only [descA_copy] at hd
    have he : wlen 1 n L = n := by unfold wlen; rw [if_pos rfl]
    rw [he]
    exact target_of_desc 1 t f n _ t n 1 f n _ hd w
  · simp only [descA_lit] at hd
    have he : wlen 2 n L = L := by unfold wlen; rw [if_neg (by omega)]
    rw [he]
    exact target_of_desc 2 t f n _ t L 2 0 0 _ hd w
theorem msource_copy (t f n : Int) (a : Option Addr) (L cap : Nat) (w : World) : Calls Try.prog 40 #[cmdV 1 t f n (.slice a L cap)] w (Gives (.tuple #[extV (f, n), .bool true]) w) := by
  have hd := fun w => describe_any 1 t f n a L cap w
  simp only [descA_copy] at hd
  exact source_of_desc 1 t f n _ t n 1 f n _ hd w
theorem msource_lit (t f n : Int) (a : Option Addr) (L cap : Nat) (w : World) : Calls Try.prog 40 #[cmdV 2 t f n (.slice a L cap)] w (Gives (.tuple #[extV (0, 0), .bool false]) w) := by
  have hd := fun w => describe_any 2 t f n a L cap w
  simp only [descA_lit] at hd
  exact source_of_desc 2 t f n _ t L 2 0 0 _ hd w

/-- Whether a command writes bytes that it reads. -/
def selfB (k t f n : Int) : Bool := decide (k = 1) && decide (0 < (ovl (f, n) (t, n)).2)
theorem ovlB_comm (t f n : Int) : ovlB (t, n) (f, n) = decide (0 < (ovl (f, n) (t, n)).2) := by
  unfold ovlB ovl
  simp only
  by_cases h : min (f + n) (t + n) ≤ max f t
  · rw [if_pos h]; simp; omega
  · rw [if_neg h]; simp; omega
end Go.Proofs.Ytifdeeaoaekokaa
