/- Target, Source and Overlaps of package command; Overlaps of its reference. -/
import Derived.BigRegion
import Derived.Test.Ytfikjndkjjgcjaa01Meets
import Derived.Test.Ytfikjndkjjgcjaa04Check
namespace Go.Proofs.Ytfikjndkjjgcjaa
open Go.RowKit Go.Shelf Go.Proofs.Ytfikjndkjjgcjaa.Plain01
set_option linter.unusedVariables false

theorem desc_target (x0 x1 x2 x3 x4 : Int) (b : Bool) (W : World) : (Instr.field 51 (.agg #[.int .i64 x0, .int .i64 x1, .int .i64 x2, .int .i64 x3, .int .i64 x4, .bool b]) 0).run Try.prog W = .ok (extV (x0, x1)) W := by kernel_rfl
theorem ext_len (y0 y1 : Int) (W : World) : (Instr.field 37 (.agg #[.int .i64 y0, .int .i64 y1]) 1).run Try.prog W = .ok (.int .i64 y1) W := by kernel_rfl

set_option maxRecDepth 100000 in
set_option maxHeartbeats 4000000 in
theorem target_of_desc (k t f n : Int) (v : Value) (x0 x1 x2 x3 x4 : Int) (b : Bool)
    (hd : ∀ w, Calls Try.prog 27 #[cmdV k t f n v] w (Gives (.agg #[.int .i64 x0, .int .i64 x1, .int .i64 x2, .int .i64 x3, .int .i64 x4, .bool b]) w)) (w : World) :
    Calls Try.prog 17 #[cmdV k t f n v] w (Gives (extV (x0, x1)) w) := by
  have hfl := desc_target x0 x1 x2 x3 x4 b
  go_enter Try.func17, Try.ntmps17
  go_wp2_with fail
  refine (HeldW.call (s := ((HeldW.start w).push (cmdO k t f n v)).push (extO (0, 0))) (hd _)).mono ?_
  rintro e _ ⟨rfl, s1, rfl⟩
  obtain ⟨r0, r1, r2⟩ := held_ext1 s1 (w.heap.size + 1) (0, 0) (by simp)
  go_wp2_with fail
  go_wp2
  refine bodyPost_ret (v := extV (x0, x1)) (by simp [results, Try.results17, go_sem, r0, r1]) rfl ⟨rfl, ?_⟩
  exact (s1.below.setCell (p := ⟨w.heap.size + 1, 0, none⟩) (by simp) _).setCell (p := ⟨w.heap.size + 1, 1, none⟩) (by simp) _

set_option maxRecDepth 100000 in
set_option maxHeartbeats 4000000 in
theorem source_of_desc (k t f n : Int) (v : Value) (x0 x1 x2 x3 x4 : Int) (b : Bool)
    (hd : ∀ w, Calls Try.prog 27 #[cmdV k t f n v] w (Gives (.agg #[.int .i64 x0, .int .i64 x1, .int .i64 x2, .int .i64 x3, .int .i64 x4, .bool b]) w)) (w : World) :
    Calls Try.prog 15 #[cmdV k t f n v] w (Gives (.tuple #[extV (x3, x4), .bool (x2 == 1)]) w) := by
  go_enter Try.func15, Try.ntmps15
  go_wp2_with fail
  obtain ⟨S0, hS0⟩ := start2 w (cmdO k t f n v) (extO (0, 0))
  rw [hS0]
  clear hS0
  refine (HeldW.call (s := S0) (hd _)).mono ?_
  rintro e _ ⟨rfl, s1, rfl⟩
  obtain ⟨r0, r1, r2⟩ := held_ext1 s1 (w.heap.size + 1) (0, 0) (by simp)
  go_wp2_with fail
  have hlt := (Array.getElem?_eq_some_iff.1 (s1.blocks (w.heap.size + 1, extO (0, 0)) (by simp))).1
  obtain ⟨B, S, hB, hB0, hS⟩ := s1.more (descO x0 x1 x2 x3 x4 b)
  have hne : B ≠ w.heap.size + 1 := by omega
  rw [hS, ← hB]
  clear hS hB hlt r0 r1 r2
  obtain ⟨r0, r1, r2⟩ := held_ext1 S (w.heap.size + 1) (0, 0) (by simp)
  obtain ⟨d0, d1, d2, d3, d4, d5, d6⟩ := held_desc S B x0 x1 x2 x3 x4 b (by simp)
  go_region
  go_wp2
  refine bodyPost_ret (v := .tuple #[extV (x3, x4), .bool (x2 == 1)]) (by simp [results, Try.results15, go_sem, r0, r1]) rfl ⟨rfl, ?_⟩
  exact ((S.below.setCell (p := ⟨w.heap.size + 1, 0, none⟩) (by simp) _).setCell (p := ⟨w.heap.size + 1, 1, none⟩) (by simp) _).drew

set_option maxRecDepth 100000 in
set_option maxHeartbeats 4000000 in
theorem overlaps_of_desc (k t f n : Int) (v : Value) (x0 x1 x2 x3 x4 : Int) (b : Bool) (o1 : okE (x0, x1) = true) (o2 : okE (x3, x4) = true)
    (hd : ∀ w, Calls Try.prog 27 #[cmdV k t f n v] w (Gives (.agg #[.int .i64 x0, .int .i64 x1, .int .i64 x2, .int .i64 x3, .int .i64 x4, .bool b]) w)) (w : World) :
    Calls Try.prog 19 #[cmdV k t f n v] w (Gives (.bool (ovlB (x0, x1) (x3, x4))) w) := by
  have ho := overlap_gives (x0, x1) (x3, x4) o1 o2
  generalize ovlB (x0, x1) (x3, x4) = d at ho ⊢
  generalize ovl (x0, x1) (x3, x4) = y at ho
  go_enter Try.func19, Try.ntmps19
  go_wp2_with fail
  refine (HeldW.call (s := (HeldW.start w).push (cmdO k t f n v)) (hd _)).mono ?_
  rintro e _ ⟨rfl, s1, rfl⟩
  go_wp2_with fail
  refine (HeldW.call (s := s1.push (descO x0 x1 x2 x3 x4 b)) (ho _)).mono ?_
  rintro e _ ⟨rfl, s2, rfl⟩
  go_wp2_with fail
  go_wp2
  go_ret
  exact ⟨rfl, (s2.push (extO y)).below⟩

theorem mtarget_any (k t f n : Int) (hk : k = 1 ∨ k = 2) (a : Option Addr) (L cap : Nat) (w : World) : Calls Try.prog 17 #[cmdV k t f n (.slice a L cap)] w (Gives (extV (t, wlen k n L)) w) := by
  have hd := fun w => describe_any k t f n a L cap w
  rcases hk with rfl | rfl
  · simp only [descA_copy] at hd
    have he : wlen 1 n L = n := by unfold wlen; rw [if_pos rfl]
    rw [he]
    exact target_of_desc 1 t f n _ t n 1 f n _ hd w
  · simp only [descA_lit] at hd
    have he : wlen 2 n L = L := by unfold wlen; rw [if_neg (by omega)]
    rw [he]
    exact target_of_desc 2 t f n _ t L 2 0 0 _ hd w
theorem msource_copy (t f n : Int) (a : Option Addr) (L cap : Nat) (w : World) : Calls Try.prog 15 #[cmdV 1 t f n (.slice a L cap)] w (Gives (.tuple #[extV (f, n), .bool true]) w) := by
  have hd := fun w => describe_any 1 t f n a L cap w
  simp only [descA_copy] at hd
  exact source_of_desc 1 t f n _ t n 1 f n _ hd w
theorem msource_lit (t f n : Int) (a : Option Addr) (L cap : Nat) (w : World) : Calls Try.prog 15 #[cmdV 2 t f n (.slice a L cap)] w (Gives (.tuple #[extV (0, 0), .bool false]) w) := by
  have hd := fun w => describe_any 2 t f n a L cap w
  simp only [descA_lit] at hd
  exact source_of_desc 2 t f n _ t L 2 0 0 _ hd w

/-- Whether a command writes bytes that it reads. -/
def selfB (k t f n : Int) : Bool := decide (k = 1) && decide (0 < (ovl (f, n) (t, n)).2)
theorem ovlB_comm (t f n : Int) : ovlB (t, n) (f, n) = decide (0 < (ovl (f, n) (t, n)).2) := by
  unfold ovlB ovl
  simp only
  by_cases h : min (f + n) (t + n) ≤ max f t
  · rw [if_pos h]; simp; omega
  · rw [if_neg h]; simp; omega
theorem moverlaps_copy (t f n : Int) (h1 : okE (t, n) = true) (h2 : okE (f, n) = true) (a : Option Addr) (L cap : Nat) (w : World) : Calls Try.prog 19 #[cmdV 1 t f n (.slice a L cap)] w (Gives (.bool (selfB 1 t f n)) w) := by
  have hd := fun w => describe_any 1 t f n a L cap w
  simp only [descA_copy] at hd
  have := overlaps_of_desc 1 t f n _ t n 1 f n _ h1 h2 hd w
  rw [ovlB_comm] at this
  exact this
theorem moverlaps_lit (t f n : Int) (a : Option Addr) (L cap : Nat) (h1 : okE (t, (L : Int)) = true) (w : World) : Calls Try.prog 19 #[cmdV 2 t f n (.slice a L cap)] w (Gives (.bool (selfB 2 t f n)) w) := by
  have hd := fun w => describe_any 2 t f n a L cap w
  simp only [descA_lit] at hd
  have := overlaps_of_desc 2 t f n _ t L 2 0 0 _ h1 rfl hd w
  have hno : ovlB (t, (L : Int)) (0, 0) = false := by
    rw [okE_iff] at h1
    unfold ovlB
    simp at h1 ⊢
    omega
  rw [hno] at this
  exact this

set_option maxRecDepth 100000 in
set_option maxHeartbeats 4000000 in
theorem roverlaps_any (k t f n : Int) (a : Option Addr) (L cap : Nat) (h1 : k = 1 → okE (t, n) = true) (h2 : k = 1 → okE (f, n) = true) (w : World) : Calls Try.prog 20 #[cmdV k t f n (.slice a L cap)] w (Gives (.bool (selfB k t f n)) w) := by
  by_cases hk : k = 1
  · subst hk
    have ho := roverlap_gives (f, n) (t, n) (h2 rfl) (h1 rfl)
    have htg := rtarget_any 1 t f n a L cap
    have hso := rsource_any 1 t f n (.slice a L cap)
    have he : wlen 1 n L = n := by unfold wlen; rw [if_pos rfl]
    rw [he] at htg
    have hr : selfB 1 t f n = decide (0 < (ovl (f, n) (t, n)).2) := by unfold selfB; simp
    rw [hr]
    generalize ovl (f, n) (t, n) = y at ho ⊢
    have hfl := ext_len y.1 y.2
    clear h1 h2 he hr
    go_enter Try.func20, Try.ntmps20
    go_wp2
    obtain ⟨S, hS⟩ := start1 w (cmdO 1 t f n (.slice a L cap))
    rw [hS]
    clear hS
    refine wp_region_class _ _ (by kernel_rfl) (by kernel_rfl) (S).below (S).blocks (fun hne => ?_)
    obtain ⟨d0, d1, d2, d3, d4⟩ := held_cmdA (S) (w.heap.size) 1 t f n (.slice a L cap) (by simp)
    repeat (go_big_quiet_step ((first | (go_at_call 16; exact HeldW.call (hso _)) | (go_at_call 18; exact HeldW.call (htg _)) | (go_at_call 33; exact HeldW.call (ho _)))))
    refine wpQuiet_nil ?_
    rintro _ ⟨s1, rfl⟩
    clear hne d0 d1 d2 d3 d4
    go_wp2_with fail
    go_ret
    exact ⟨rfl, s1.below⟩
  · have hr : selfB k t f n = false := by unfold selfB; simp [hk]
    rw [hr]
    have ek : (k == 1) = false := by simpa using hk
    clear h1 h2 hr hk
    go_enter Try.func20, Try.ntmps20
    go_wp2
    obtain ⟨S, hS⟩ := start1 w (cmdO k t f n (.slice a L cap))
    rw [hS]
    clear hS
    refine wp_region_class _ _ (by kernel_rfl) (by kernel_rfl) (S).below (S).blocks (fun hne => ?_)
    obtain ⟨d0, d1, d2, d3, d4⟩ := held_cmdA (S) (w.heap.size) k t f n (.slice a L cap) (by simp)
    repeat (go_big_quiet_step (fail))
    refine wpQuiet_nil ?_
    rintro _ ⟨s1, rfl⟩
    clear hne d0 d1 d2 d3 d4
    go_wp2_with fail
    go_ret
    exact ⟨rfl, s1.below⟩
end Go.Proofs.Ytfikjndkjjgcjaa
