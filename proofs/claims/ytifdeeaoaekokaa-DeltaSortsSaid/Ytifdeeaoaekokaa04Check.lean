/- Check of package command and of its reference. -/
import Derived.Test.Ytifdeeaoaekokaa04Cmd
namespace Go.Proofs.Ytifdeeaoaekokaa
open Go.RowKit Go.Shelf Go.Proofs.Ytifdeeaoaekokaa.Plain01
set_option linter.unusedVariables false

/-- The error code of a command with L bytes of data. -/
def chk (k t f n : Int) (L : Nat) : Int :=
  if k ≠ 1 ∧ k ≠ 2 then 11 else if wlen k n L = 0 then 7 else if okE (t, wlen k n L) = false then 2
  else if k = 1 ∧ (0 < L ∨ okE (f, n) = false) then 2 else if k = 2 ∧ (f ≠ 0 ∨ n ≠ 0) then 2 else 0
/-- The same of a description. -/
def chkD (x0 x1 x2 x3 x4 : Int) (b : Bool) : Int := if x2 = 0 then 11 else if x1 = 0 then 7 else if (b || !okE (x0, x1) || !okE (x3, x4)) = true then 2 else 0

theorem empty_any (x : Int × Int) (w : World) : Calls Try.prog 63 #[extV x] w (Gives (.bool (x.2 == 0)) w) := by
  refine gives_alloc (o := .cells #[.int .i64 x.1, .int .i64 x.2] 75) ?_
  go_enter Try.func63, Try.ntmps63
  go_wp2
  go_ret
  exact ⟨rfl, rfl⟩
theorem mvalid_any (x : Int × Int) (h0 : I64 x.1) (h1 : I64 x.2) (w : World) : Calls Try.prog 64 #[extV x] w (Gives (.bool (okE x)) w) := by
  have hv := valid_gives x h0 h1
  go_enter Try.func64, Try.ntmps64
  go_wp2_with fail
  refine (HeldW.call (s := (HeldW.start w).push (.cells #[.int .i64 x.1, .int .i64 x.2] 75 (0, 0))) (hv _)).mono ?_
  rintro e _ ⟨rfl, s1, rfl⟩
  go_wp2_with fail
  go_wp2
  go_ret
  exact ⟨rfl, s1.below⟩

set_option maxRecDepth 100000 in
set_option maxHeartbeats 4000000 in
theorem check_of_desc (k t f n : Int) (v : Value) (x0 x1 x2 x3 x4 : Int) (b : Bool) (h0 : I64 x0) (h1 : I64 x1) (h3 : I64 x3) (h4 : I64 x4)
    (hd : ∀ w, Calls Try.prog 54 #[cmdV k t f n v] w (Gives (.agg #[.int .i64 x0, .int .i64 x1, .int .i64 x2, .int .i64 x3, .int .i64 x4, .bool b]) w)) (w : World) :
    Calls Try.prog 48 #[cmdV k t f n v] w (Gives (.int .i64 (chkD x0 x1 x2 x3 x4 b)) w) := by
  have hem := empty_any (x0, x1)
  have hva := mvalid_any (x0, x1) h0 h1
  have hso := valid_gives (x3, x4) h3 h4
  clear h0 h1 h3 h4
  by_cases c2 : x2 = 0
  · have hr : chkD x0 x1 x2 x3 x4 b = 11 := by unfold chkD; rw [if_pos c2]
    rw [hr]
    subst c2
    clear hr hem hva hso
    go_enter Try.func48, Try.ntmps48
    go_wp2_with fail
    refine (HeldW.call (s := (HeldW.start w).push (cmdO k t f n v)) (hd _)).mono ?_
    rintro e _ ⟨rfl, s1, rfl⟩
    go_wp2_with fail
    obtain ⟨s2, hs2⟩ : ∃ s2 : HeldW w _, s2 = s1.push (descO x0 x1 0 x3 x4 b) := ⟨_, rfl⟩
    go_wp2
    go_ret
    exact ⟨rfl, (s1.push (descO x0 x1 0 x3 x4 b)).below⟩
  · have e2 : (x2 == 0) = false := by simpa using c2
    by_cases c1 : x1 = 0
    · have hr : chkD x0 x1 x2 x3 x4 b = 7 := by unfold chkD; rw [if_neg c2, if_pos c1]
      rw [hr]
      subst c1
      clear hr hva hso c2
      go_enter Try.func48, Try.ntmps48
      go_wp2_with fail
      refine (HeldW.call (s := (HeldW.start w).push (cmdO k t f n v)) (hd _)).mono ?_
      rintro e _ ⟨rfl, s1, rfl⟩
      go_wp2_with fail
      refine (HeldW.call (s := s1.push (descO x0 0 x2 x3 x4 b)) (hem _)).mono ?_
      rintro e _ ⟨rfl, s2, rfl⟩
      go_wp2_with fail
      go_wp2
      go_ret
      exact ⟨rfl, s2.below⟩
    · have e1 : (x1 == 0) = false := by simpa using c1
      cases b with
      | true =>
        have hr : chkD x0 x1 x2 x3 x4 true = 2 := by unfold chkD; rw [if_neg c2, if_neg c1]; rfl
        rw [hr]
        simp only [e1] at hem
        clear hr hva hso c2 c1
        go_enter Try.func48, Try.ntmps48
        go_wp2_with fail
        refine (HeldW.call (s := (HeldW.start w).push (cmdO k t f n v)) (hd _)).mono ?_
        rintro e _ ⟨rfl, s1, rfl⟩
        go_wp2_with fail
        refine (HeldW.call (s := s1.push (descO x0 x1 x2 x3 x4 true)) (hem _)).mono ?_
        rintro e _ ⟨rfl, s2, rfl⟩
        obtain ⟨d0, d1, d2, d3, d4, d5, d6⟩ := held_desc s2 (s1.w.heap.size) x0 x1 x2 x3 x4 true (by simp)
        go_wp2_with fail
        go_wp2
        go_ret
        exact ⟨rfl, s2.below⟩
      | false =>
        cases o1 : okE (x0, x1) with
        | false =>
          have hr : chkD x0 x1 x2 x3 x4 false = 2 := by unfold chkD; rw [if_neg c2, if_neg c1, o1]; rfl
          rw [hr]
          rw [o1] at hva
          simp only [e1] at hem
          clear hr hso c2 c1 o1
          go_enter Try.func48, Try.ntmps48
          go_wp2_with fail
          refine (HeldW.call (s := (HeldW.start w).push (cmdO k t f n v)) (hd _)).mono ?_
          rintro e _ ⟨rfl, s1, rfl⟩
          go_wp2_with fail
          refine (HeldW.call (s := s1.push (descO x0 x1 x2 x3 x4 false)) (hem _)).mono ?_
          rintro e _ ⟨rfl, s2, rfl⟩
          obtain ⟨d0, d1, d2, d3, d4, d5, d6⟩ := held_desc s2 (s1.w.heap.size) x0 x1 x2 x3 x4 false (by simp)
          go_wp2_with fail
          clear d0 d1 d2 d3 d4 d5 d6
          refine (HeldW.call (s := s2) (hva _)).mono ?_
          rintro e _ ⟨rfl, s3, rfl⟩
          obtain ⟨d0, d1, d2, d3, d4, d5, d6⟩ := held_desc s3 (s1.w.heap.size) x0 x1 x2 x3 x4 false (by simp)
          go_wp2_with fail
          go_wp2
          go_ret
          exact ⟨rfl, s3.below⟩
        | true =>
          obtain ⟨o2, ho2⟩ : ∃ o2, okE (x3, x4) = o2 := ⟨_, rfl⟩
          have hr : chkD x0 x1 x2 x3 x4 false = if o2 = true then 0 else 2 := by unfold chkD; rw [if_neg c2, if_neg c1, o1, ho2]; cases o2 <;> rfl
          rw [hr]
          rw [o1] at hva
          rw [ho2] at hso
          simp only [e1] at hem
          clear hr c2 c1 o1 ho2
          cases o2
          all_goals
            go_enter Try.func48, Try.ntmps48
            go_wp2_with fail
            refine (HeldW.call (s := (HeldW.start w).push (cmdO k t f n v)) (hd _)).mono ?_
            rintro e _ ⟨rfl, s1, rfl⟩
            go_wp2_with fail
            refine (HeldW.call (s := s1.push (descO x0 x1 x2 x3 x4 false)) (hem _)).mono ?_
            rintro e _ ⟨rfl, s2, rfl⟩
            obtain ⟨d0, d1, d2, d3, d4, d5, d6⟩ := held_desc s2 (s1.w.heap.size) x0 x1 x2 x3 x4 false (by simp)
            go_wp2_with fail
            clear d0 d1 d2 d3 d4 d5 d6
            refine (HeldW.call (s := s2) (hva _)).mono ?_
            rintro e _ ⟨rfl, s3, rfl⟩
            obtain ⟨d0, d1, d2, d3, d4, d5, d6⟩ := held_desc s3 (s1.w.heap.size) x0 x1 x2 x3 x4 false (by simp)
            go_wp2_with fail
            clear d0 d1 d2 d3 d4 d5 d6
            refine (HeldW.call (s := s3) (hso _)).mono ?_
            rintro e _ ⟨rfl, s4, rfl⟩
            obtain ⟨d0, d1, d2, d3, d4, d5, d6⟩ := held_desc s4 (s1.w.heap.size) x0 x1 x2 x3 x4 false (by simp)
            go_wp2_with fail
            go_wp2
            go_ret
            exact ⟨rfl, s4.below⟩

theorem i64_0 : I64 0 := by unfold I64; omega
theorem i64_len {a : Option Addr} {L cap : Nat} (h1 : L ≤ cap) (h2 : cap ≤ 9223372036854775807) : I64 L := by unfold I64; omega

theorem check_any (k t f n : Int) (a : Option Addr) (L cap : Nat) (ht : I64 t) (hf : I64 f) (hn : I64 n) (hL : I64 L) (w : World) :
    Calls Try.prog 48 #[cmdV k t f n (.slice a L cap)] w (Gives (.int .i64 (chk k t f n L)) w) := by
  have hd := fun w => describe_any k t f n a L cap w
  by_cases h1 : k = 1
  · subst h1
    simp only [descA_copy] at hd
    have := check_of_desc 1 t f n (.slice a L cap) t n 1 f n (decide (0 < L)) ht hn hf hn hd w
    have he : chk 1 t f n L = chkD t n 1 f n (decide (0 < L)) := by
      unfold chk chkD wlen
      simp only [if_true]
      generalize okE (t, n) = p
      generalize okE (f, n) = q
      cases p <;> cases q <;> by_cases h0 : n = 0 <;> by_cases hL0 : 0 < L <;> simp [h0, hL0]
    rw [he]; exact this
  · by_cases h2 : k = 2
    · subst h2
      simp only [descA_lit] at hd
      have := check_of_desc 2 t f n (.slice a L cap) t L 2 0 0 (decide (f ≠ 0 ∨ n ≠ 0)) ht hL i64_0 i64_0 hd w
      have he : chk 2 t f n L = chkD t L 2 0 0 (decide (f ≠ 0 ∨ n ≠ 0)) := by
        have hok : okE (0, 0) = true := rfl
        unfold chk chkD wlen
        rw [hok]
        simp only [show ¬ ((2 : Int) = 1) by omega, if_false]
        generalize okE (t, (L : Int)) = p
        generalize (L : Int) = m
        by_cases h0 : m = 0 <;> cases p <;> by_cases hf1 : f = 0 <;> by_cases hn1 : n = 0 <;> simp [h0, hf1, hn1]
      rw [he]; exact this
    · simp only [descA_none h1 h2] at hd
      have := check_of_desc k t f n (.slice a L cap) 0 0 0 0 0 false i64_0 i64_0 i64_0 i64_0 hd w
      have he : chk k t f n L = 11 := by unfold chk; rw [if_pos ⟨h1, h2⟩]
      rw [he]; exact this

theorem rlen_any (k t f n : Int) (a : Option Addr) (L cap : Nat) (w : World) : Calls Try.prog 23 #[cmdV k t f n (.slice a L cap)] w (Gives (.int .i64 (wlen k n L)) w) := by
  refine gives_alloc (o := cmdO k t f n (.slice a L cap)) ?_
  unfold wlen
  by_cases h1 : k = 1
  · subst h1
    rw [if_pos rfl]
    go_enter Try.func23, Try.ntmps23
    go_wp2
    go_ret
    exact ⟨rfl, rfl⟩
  · rw [if_neg h1]
    have e1 : (k == 1) = false := by simpa using h1
    clear h1
    go_enter Try.func23, Try.ntmps23
    go_wp2
    go_ret
    exact ⟨rfl, rfl⟩
set_option maxRecDepth 100000 in
set_option maxHeartbeats 4000000 in
theorem rtarget_any (k t f n : Int) (a : Option Addr) (L cap : Nat) (w : World) : Calls Try.prog 30 #[cmdV k t f n (.slice a L cap)] w (Gives (extV (t, wlen k n L)) w) := by
  have hl := rlen_any k t f n a L cap
  generalize wlen k n L = m at hl ⊢
  go_enter Try.func30, Try.ntmps30
  go_wp2
  obtain ⟨S, hS⟩ := start2 w (cmdO k t f n (.slice a L cap)) (extO (0, 0))
  rw [hS]
  clear hS
  refine wp_region_class_tail 5 _ _ (by kernel_rfl) (by kernel_rfl) (S).below (S).blocks (fun hne => ?_)
  simp only [List.take_succ_cons, List.take_zero, List.drop_succ_cons, List.drop_zero]
  obtain ⟨d0, d1, d2, d3, d4⟩ := held_cmdA (S) (w.heap.size) k t f n (.slice a L cap) (by simp)
  repeat (go_big_quiet_step ((go_at_call 23; exact HeldW.call (hl _))))
  refine wpQuiet_nil ?_
  rintro _ ⟨s1, rfl⟩
  clear hne d0 d1 d2 d3 d4
  obtain ⟨r0, r1, r2⟩ := held_ext1 s1 (w.heap.size + 1) (0, 0) (by simp)
  go_wp2_with fail
  refine bodyPost_ret (v := extV (t, m)) (by simp [results, Try.results30, go_sem, r0, r1]) rfl ⟨rfl, ?_⟩
  exact (s1.below.setCell (p := ⟨w.heap.size + 1, 0, none⟩) (by simp) _).setCell (p := ⟨w.heap.size + 1, 1, none⟩) (by simp) _
theorem rsource_any (k t f n : Int) (v : Value) (w : World) : Calls Try.prog 62 #[cmdV k t f n v] w (Gives (extV (f, n)) w) := by
  go_enter Try.func62, Try.ntmps62
  go_wp2
  exact bodyPost_ret (v := extV (f, n)) (by simp [results, Try.results62, go_sem]) rfl ⟨rfl, below2 _ _ _⟩

theorem chk_split (k t f n : Int) (L : Nat) : chk k t f n L = if k ≠ 1 ∧ k ≠ 2 then 11 else if wlen k n L = 0 then 7 else if okE (t, wlen k n L) = false then 2
  else if k = 1 ∧ (0 < L ∨ okE (f, n) = false) then 2 else if k = 2 ∧ (f ≠ 0 ∨ n ≠ 0) then 2 else 0 := rfl

/-- The reference's Check, its calls at their contracts. -/
theorem i64_wlen {k n : Int} {L : Nat} (hn : I64 n) (hL : I64 L) : I64 (wlen k n L) := by unfold wlen; split <;> assumption
set_option maxRecDepth 100000 in
set_option maxHeartbeats 4000000 in
theorem rcheck_any (k t f n : Int) (a : Option Addr) (L cap : Nat) (ht : I64 t) (hf : I64 f) (hn : I64 n) (hL : I64 L) (w : World) :
    Calls Try.prog 46 #[cmdV k t f n (.slice a L cap)] w (Gives (.int .i64 (chk k t f n L)) w) := by
  have hl := rlen_any k t f n a L cap
  have htg := rtarget_any k t f n a L cap
  have hso := rsource_any k t f n (.slice a L cap)
  have hv1 := rvalid_gives (t, wlen k n L) ht (i64_wlen hn hL)
  have hv2 := rvalid_gives (f, n) hf hn
  clear ht hf hn hL
  by_cases hk : k ≠ 1 ∧ k ≠ 2
  · rw [chk_split, if_pos hk]
    have e1 : (k != 1) = true := by simpa using hk.1
    have e2 : (k != 2) = true := by simpa using hk.2
    clear hk hl htg hso hv1 hv2
    go_enter Try.func46, Try.ntmps46
    go_wp2
    go_ret
    exact ⟨rfl, (Below.refl _ w).alloc (Nat.le_refl _) _⟩
  have hk' : k = 1 ∨ k = 2 := by omega
  rw [chk_split, if_neg hk]
  generalize wlen k n L = m at hl htg hv1 ⊢
  by_cases hm : m = 0
  · rw [if_pos hm]
    subst hm
    clear htg hso hv1 hv2 hk
    rcases hk' with rfl | rfl
    · go_enter Try.func46, Try.ntmps46
      go_wp2_with fail
      refine (HeldW.call (s := (HeldW.start w).push (cmdO 1 t f n (.slice a L cap))) (hl _)).mono ?_
      rintro e _ ⟨rfl, s1, rfl⟩
      go_wp2_with fail
      go_wp2
      go_ret
      exact ⟨rfl, s1.below⟩
    · go_enter Try.func46, Try.ntmps46
      go_wp2_with fail
      refine (HeldW.call (s := (HeldW.start w).push (cmdO 2 t f n (.slice a L cap))) (hl _)).mono ?_
      rintro e _ ⟨rfl, s1, rfl⟩
      go_wp2_with fail
      go_wp2
      go_ret
      exact ⟨rfl, s1.below⟩
  rw [if_neg hm]
  have em : (m == 0) = false := by simpa using hm
  clear hm
  cases o1 : okE (t, m) with
  | false =>
    rw [if_pos rfl]
    rw [o1] at hv1
    clear hso hv2 hk o1
    rcases hk' with rfl | rfl
    · go_enter Try.func46, Try.ntmps46
      go_wp2_with fail
      refine (HeldW.call (s := (HeldW.start w).push (cmdO 1 t f n (.slice a L cap))) (hl _)).mono ?_
      rintro e _ ⟨rfl, s1, rfl⟩
      obtain ⟨d0, d1, d2, d3, d4, d5⟩ := held_cmd s1 (w.heap.size) 1 t f n (.slice a L cap) (by simp)
      go_wp2_with fail
      clear d0 d1 d2 d3 d4 d5
      refine (HeldW.call (s := s1) (htg _)).mono ?_
      rintro e _ ⟨rfl, s2, rfl⟩
      go_wp2_with fail
      refine (HeldW.call (s := s2) (hv1 _)).mono ?_
      rintro e _ ⟨rfl, s3, rfl⟩
      go_wp2_with fail
      go_wp2
      go_ret
      exact ⟨rfl, s3.below⟩
    · go_enter Try.func46, Try.ntmps46
      go_wp2_with fail
      refine (HeldW.call (s := (HeldW.start w).push (cmdO 2 t f n (.slice a L cap))) (hl _)).mono ?_
      rintro e _ ⟨rfl, s1, rfl⟩
      obtain ⟨d0, d1, d2, d3, d4, d5⟩ := held_cmd s1 (w.heap.size) 2 t f n (.slice a L cap) (by simp)
      go_wp2_with fail
      clear d0 d1 d2 d3 d4 d5
      refine (HeldW.call (s := s1) (htg _)).mono ?_
      rintro e _ ⟨rfl, s2, rfl⟩
      go_wp2_with fail
      refine (HeldW.call (s := s2) (hv1 _)).mono ?_
      rintro e _ ⟨rfl, s3, rfl⟩
      go_wp2_with fail
      go_wp2
      go_ret
      exact ⟨rfl, s3.below⟩
  | true =>
    rw [if_neg (by simp)]
    rw [o1] at hv1
    clear hk o1
    rcases hk' with rfl | rfl
    · have hno : ¬ ((1 : Int) = 2 ∧ (f ≠ 0 ∨ n ≠ 0)) := by omega
      by_cases hL0 : 0 < L
      · rw [if_pos ⟨rfl, .inl hL0⟩]
        clear hno hso hv2
        have hd : decide (0 < (L : Int)) = true := by simpa using hL0
        go_enter Try.func46, Try.ntmps46
        go_wp2_with fail
        refine (HeldW.call (s := (HeldW.start w).push (cmdO 1 t f n (.slice a L cap))) (hl _)).mono ?_
        rintro e _ ⟨rfl, s1, rfl⟩
        obtain ⟨d0, d1, d2, d3, d4, d5⟩ := held_cmd s1 (w.heap.size) 1 t f n (.slice a L cap) (by simp)
        go_wp2_with fail
        clear d0 d1 d2 d3 d4 d5
        refine (HeldW.call (s := s1) (htg _)).mono ?_
        rintro e _ ⟨rfl, s2, rfl⟩
        go_wp2_with fail
        refine (HeldW.call (s := s2) (hv1 _)).mono ?_
        rintro e _ ⟨rfl, s3, rfl⟩
        obtain ⟨d0, d1, d2, d3, d4, d5⟩ := held_cmd s3 (w.heap.size) 1 t f n (.slice a L cap) (by simp)
        go_wp2_with fail
        go_wp2
        go_ret
        exact ⟨rfl, s3.below⟩
      · obtain rfl : L = 0 := by omega
        clear hL0
        cases o2 : okE (f, n) with
        | false =>
          rw [if_pos ⟨rfl, .inr rfl⟩]
          rw [o2] at hv2
          clear hno o2
          go_enter Try.func46, Try.ntmps46
          go_wp2_with fail
          refine (HeldW.call (s := (HeldW.start w).push (cmdO 1 t f n (.slice a 0 cap))) (hl _)).mono ?_
          rintro e _ ⟨rfl, s1, rfl⟩
          obtain ⟨d0, d1, d2, d3, d4, d5⟩ := held_cmd s1 (w.heap.size) 1 t f n (.slice a 0 cap) (by simp)
          go_wp2_with fail
          clear d0 d1 d2 d3 d4 d5
          refine (HeldW.call (s := s1) (htg _)).mono ?_
          rintro e _ ⟨rfl, s2, rfl⟩
          go_wp2_with fail
          refine (HeldW.call (s := s2) (hv1 _)).mono ?_
          rintro e _ ⟨rfl, s3, rfl⟩
          obtain ⟨d0, d1, d2, d3, d4, d5⟩ := held_cmd s3 (w.heap.size) 1 t f n (.slice a 0 cap) (by simp)
          go_wp2_with fail
          clear d0 d1 d2 d3 d4 d5
          refine (HeldW.call (s := s3) (hso _)).mono ?_
          rintro e _ ⟨rfl, s4, rfl⟩
          go_wp2_with fail
          refine (HeldW.call (s := s4) (hv2 _)).mono ?_
          rintro e _ ⟨rfl, s5, rfl⟩
          go_wp2_with fail
          go_wp2
          go_ret
          exact ⟨rfl, s5.below⟩
        | true =>
          rw [if_neg (by simp), if_neg hno]
          rw [o2] at hv2
          clear hno o2
          go_enter Try.func46, Try.ntmps46
          go_wp2_with fail
          refine (HeldW.call (s := (HeldW.start w).push (cmdO 1 t f n (.slice a 0 cap))) (hl _)).mono ?_
          rintro e _ ⟨rfl, s1, rfl⟩
          obtain ⟨d0, d1, d2, d3, d4, d5⟩ := held_cmd s1 (w.heap.size) 1 t f n (.slice a 0 cap) (by simp)
          go_wp2_with fail
          clear d0 d1 d2 d3 d4 d5
          refine (HeldW.call (s := s1) (htg _)).mono ?_
          rintro e _ ⟨rfl, s2, rfl⟩
          go_wp2_with fail
          refine (HeldW.call (s := s2) (hv1 _)).mono ?_
          rintro e _ ⟨rfl, s3, rfl⟩
          obtain ⟨d0, d1, d2, d3, d4, d5⟩ := held_cmd s3 (w.heap.size) 1 t f n (.slice a 0 cap) (by simp)
          go_wp2_with fail
          clear d0 d1 d2 d3 d4 d5
          refine (HeldW.call (s := s3) (hso _)).mono ?_
          rintro e _ ⟨rfl, s4, rfl⟩
          go_wp2_with fail
          refine (HeldW.call (s := s4) (hv2 _)).mono ?_
          rintro e _ ⟨rfl, s5, rfl⟩
          obtain ⟨d0, d1, d2, d3, d4, d5⟩ := held_cmd s5 (w.heap.size) 1 t f n (.slice a 0 cap) (by simp)
          go_wp2_with fail
          go_wp2
          go_ret
          exact ⟨rfl, s5.below⟩
    · rw [if_neg (by omega)]
      clear hso hv2
      by_cases hf : f = 0
      · by_cases hn : n = 0
        · rw [if_neg (by omega)]
          subst hf hn
          go_enter Try.func46, Try.ntmps46
          go_wp2_with fail
          refine (HeldW.call (s := (HeldW.start w).push (cmdO 2 t 0 0 (.slice a L cap))) (hl _)).mono ?_
          rintro e _ ⟨rfl, s1, rfl⟩
          obtain ⟨d0, d1, d2, d3, d4, d5⟩ := held_cmd s1 (w.heap.size) 2 t 0 0 (.slice a L cap) (by simp)
          go_wp2_with fail
          clear d0 d1 d2 d3 d4 d5
          refine (HeldW.call (s := s1) (htg _)).mono ?_
          rintro e _ ⟨rfl, s2, rfl⟩
          go_wp2_with fail
          refine (HeldW.call (s := s2) (hv1 _)).mono ?_
          rintro e _ ⟨rfl, s3, rfl⟩
          obtain ⟨d0, d1, d2, d3, d4, d5⟩ := held_cmd s3 (w.heap.size) 2 t 0 0 (.slice a L cap) (by simp)
          go_wp2_with fail
          go_wp2
          go_ret
          exact ⟨rfl, s3.below⟩
        · rw [if_pos ⟨rfl, .inr hn⟩]
          subst hf
          have en : (n != 0) = true := by simpa using hn
          clear hn
          go_enter Try.func46, Try.ntmps46
          go_wp2_with fail
          refine (HeldW.call (s := (HeldW.start w).push (cmdO 2 t 0 n (.slice a L cap))) (hl _)).mono ?_
          rintro e _ ⟨rfl, s1, rfl⟩
          obtain ⟨d0, d1, d2, d3, d4, d5⟩ := held_cmd s1 (w.heap.size) 2 t 0 n (.slice a L cap) (by simp)
          go_wp2_with fail
          clear d0 d1 d2 d3 d4 d5
          refine (HeldW.call (s := s1) (htg _)).mono ?_
          rintro e _ ⟨rfl, s2, rfl⟩
          go_wp2_with fail
          refine (HeldW.call (s := s2) (hv1 _)).mono ?_
          rintro e _ ⟨rfl, s3, rfl⟩
          obtain ⟨d0, d1, d2, d3, d4, d5⟩ := held_cmd s3 (w.heap.size) 2 t 0 n (.slice a L cap) (by simp)
          go_wp2_with fail
          go_wp2
          go_ret
          exact ⟨rfl, s3.below⟩
      · rw [if_pos ⟨rfl, .inl hf⟩]
        have ef : (f != 0) = true := by simpa using hf
        clear hf
        go_enter Try.func46, Try.ntmps46
        go_wp2_with fail
        refine (HeldW.call (s := (HeldW.start w).push (cmdO 2 t f n (.slice a L cap))) (hl _)).mono ?_
        rintro e _ ⟨rfl, s1, rfl⟩
        obtain ⟨d0, d1, d2, d3, d4, d5⟩ := held_cmd s1 (w.heap.size) 2 t f n (.slice a L cap) (by simp)
        go_wp2_with fail
        clear d0 d1 d2 d3 d4 d5
        refine (HeldW.call (s := s1) (htg _)).mono ?_
        rintro e _ ⟨rfl, s2, rfl⟩
        go_wp2_with fail
        refine (HeldW.call (s := s2) (hv1 _)).mono ?_
        rintro e _ ⟨rfl, s3, rfl⟩
        obtain ⟨d0, d1, d2, d3, d4, d5⟩ := held_cmd s3 (w.heap.size) 2 t f n (.slice a L cap) (by simp)
        go_wp2_with fail
        go_wp2
        go_ret
        exact ⟨rfl, s3.below⟩
end Go.Proofs.Ytifdeeaoaekokaa
