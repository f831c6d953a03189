/- CommandExtents returns true for every command, and changes nothing that was there. -/
import Derived.Laws.StructEq
import Derived.Test.Ytfikjndkjjgcjaa04Alive
namespace Go.Proofs.Ytfikjndkjjgcjaa
open Go.RowKit Go.Shelf Go.Proofs.Ytfikjndkjjgcjaa.Plain01
set_option linter.unusedVariables false

/-- What a valid command is. -/
theorem chk_ok {k t f n : Int} {L : Nat} (h : chk k t f n L = 0) : (k = 1 ∧ L = 0 ∧ n ≠ 0 ∧ okE (t, n) = true ∧ okE (f, n) = true) ∨ (k = 2 ∧ f = 0 ∧ n = 0 ∧ 0 < L ∧ okE (t, (L : Int)) = true) := by
  unfold chk wlen at h
  by_cases h1 : k = 1
  · subst h1
    simp only [if_true] at h
    rw [if_neg (by omega)] at h
    left
    by_cases hn : n = 0
    · rw [if_pos hn] at h; omega
    rw [if_neg hn] at h
    cases o1 : okE (t, n) with
    | false => rw [o1, if_pos rfl] at h; omega
    | true =>
      rw [o1, if_neg (by simp)] at h
      cases o2 : okE (f, n) with
      | false => rw [if_pos ⟨trivial, .inr o2⟩] at h; omega
      | true =>
        by_cases hL : 0 < L
        · rw [if_pos ⟨trivial, .inl hL⟩] at h; omega
        · exact ⟨rfl, by omega, hn, rfl, rfl⟩
  · by_cases h2 : k = 2
    · subst h2
      simp only [show ¬ ((2 : Int) = 1) by omega, if_false] at h
      rw [if_neg (by omega)] at h
      right
      by_cases hn : (L : Int) = 0
      · rw [if_pos hn] at h; omega
      rw [if_neg hn] at h
      cases o1 : okE (t, (L : Int)) with
      | false => rw [o1, if_pos rfl] at h; omega
      | true =>
        rw [o1, if_neg (by simp), if_neg (by simp)] at h
        by_cases hf : f ≠ 0 ∨ n ≠ 0
        · rw [if_pos ⟨trivial, hf⟩] at h; omega
        · exact ⟨rfl, by omega, by omega, by omega, rfl⟩
    · rw [if_pos ⟨h1, h2⟩] at h; omega

set_option maxRecDepth 100000 in
set_option maxHeartbeats 4000000 in
theorem commandExtents_bad (k t f n : Int) (a : Option Addr) (L cap : Nat) (ht : I64 t) (hf : I64 f) (hn : I64 n) (hL : I64 L) (hbad : chk k t f n L ≠ 0) (w : World) : Calls Try.prog 5 #[cmdV k t f n (.slice a L cap)] w (Gives (.bool true) w) := by
  have h2 := rcheck_any k t f n a L cap ht hf hn hL
  generalize chk k t f n L = c at hbad h2
  have hc : (c != 0) = true := by simpa using hbad
  clear ht hf hn hL hbad
  go_enter Try.func5, Try.ntmps5
  go_wp2_with fail
  refine (HeldW.call (s := (HeldW.start w).push (cmdO k t f n (.slice a L cap))) (h2 _)).mono ?_
  rintro e _ ⟨rfl, s1, rfl⟩
  go_wp2_with fail
  refine (HeldW.call (s := s1) (alive04_gives _)).mono ?_
  rintro e _ ⟨rfl, s2, rfl⟩
  go_wp2_with fail
  go_wp2
  go_ret
  exact ⟨rfl, s2.below⟩

set_option maxRecDepth 100000 in
set_option maxHeartbeats 4000000 in
theorem commandExtents_copy (t f n : Int) (a : Option Addr) (L cap : Nat) (ht : I64 t) (hf : I64 f) (hn : I64 n) (hL : I64 L) (hok : chk 1 t f n L = 0) (w : World) : Calls Try.prog 5 #[cmdV 1 t f n (.slice a L cap)] w (Gives (.bool true) w) := by
  have h2 := rcheck_any 1 t f n a L cap ht hf hn hL
  rw [hok] at h2
  obtain ⟨hk1, hL0, hn0, o1, o2⟩ | ⟨h, _⟩ := chk_ok hok
  · have hs := msource_copy t f n a L cap
    have hr := rsource_any 1 t f n (.slice a L cap)
    have he : wlen 1 n L = n := by unfold wlen; rw [if_pos rfl]
    have g1 := mtarget_any 1 t f n (.inl rfl) a L cap
    have g2 := rtarget_any 1 t f n a L cap
    rw [he] at g1 g2
    have v1 := moverlaps_copy t f n o1 o2 a L cap
    have v2 := roverlaps_any 1 t f n a L cap (fun _ => o1) (fun _ => o2)
    generalize selfB 1 t f n = d at v1 v2
    clear ht hf hn hL hok o1 o2 he hn0 hk1 hL0
    go_enter Try.func5, Try.ntmps5
    go_wp2_with fail
    obtain ⟨S, hS⟩ := start1 w (cmdO 1 t f n (.slice a L cap))
    rw [hS]
    clear hS
    refine (HeldW.call (s := S) (h2 _)).mono ?_
    rintro e _ ⟨rfl, s1, rfl⟩
    obtain ⟨d0, d1, d2, d3, d4, d5⟩ := held_cmd s1 (w.heap.size) 1 t f n (.slice a L cap) (by simp)
    go_wp2_with fail
    clear d0 d1 d2 d3 d4 d5
    refine (HeldW.call (s := s1) (hs _)).mono ?_
    rintro e _ ⟨rfl, s2, rfl⟩
    obtain ⟨d0, d1, d2, d3, d4, d5⟩ := held_cmd s2 (w.heap.size) 1 t f n (.slice a L cap) (by simp)
    go_wp2_with fail
    obtain ⟨B, S3, hB, hB0, hlt, hS⟩ := s2.more2 (extO (f, n)) (extO (0, 0))
    have hwB : w.heap.size < B := hlt (w.heap.size, cmdO 1 t f n (.slice a L cap)) (by simp)
    rw [hS, ← hB]
    clear hS hB hlt
    clear d0 d1 d2 d3 d4 d5
    refine (HeldW.call (s := S3) (hr _)).mono ?_
    rintro e _ ⟨rfl, s5, rfl⟩
    obtain ⟨r0, r1, r2⟩ := held_ext1 s5 (B + 1) (0, 0) (by simp)
    go_wp2_with fail
    clear r0 r1 r2
    obtain ⟨S6, hS⟩ := s5.putExt (by omega) (by simp; omega) (f, n)
    rw [hS]
    clear hS
    refine wp_region_class _ _ (by kernel_rfl) (by kernel_rfl) (S6).below (S6).blocks (fun hne => ?_)
    obtain ⟨d0, d1, d2, d3, d4⟩ := held_cmdA (S6) (w.heap.size) 1 t f n (.slice a L cap) (by simp)
    obtain ⟨e0, e1⟩ := held_extA (S6) (B) (f, n) (by simp)
    obtain ⟨q0, q1⟩ := held_extA (S6) (B + 1) (f, n) (by simp)
    repeat (go_big_quiet_step ((first | (go_at_call 9; exact HeldW.call (alive04_gives _)) | (go_at_call 17; exact HeldW.call (g1 _)) | (go_at_call 18; exact HeldW.call (g2 _)) | (go_at_call 19; exact HeldW.call (v1 _)) | (go_at_call 20; exact HeldW.call (v2 _)))))
    refine wpQuiet_nil ?_
    rintro _ ⟨s7, rfl⟩
    clear hne d0 d1 d2 d3 d4 e0 e1 q0 q1
    go_wp2_with fail
    go_ret
    exact ⟨rfl, s7.below⟩
  · omega

set_option maxRecDepth 100000 in
set_option maxHeartbeats 4000000 in
theorem commandExtents_lit (t : Int) (a : Option Addr) (L cap : Nat) (ht : I64 t) (hL : I64 L) (hok : chk 2 t 0 0 L = 0) (w : World) : Calls Try.prog 5 #[cmdV 2 t 0 0 (.slice a L cap)] w (Gives (.bool true) w) := by
  have h2 := rcheck_any 2 t 0 0 a L cap ht i64_0 i64_0 hL
  rw [hok] at h2
  obtain ⟨h, _⟩ | ⟨hk1, hf0, hn0, hL0, o1⟩ := chk_ok hok
  · omega
  · have hs := msource_lit t 0 0 a L cap
    have he : wlen 2 0 L = L := by unfold wlen; rw [if_neg (by omega)]
    have g1 := mtarget_any 2 t 0 0 (.inr rfl) a L cap
    have g2 := rtarget_any 2 t 0 0 a L cap
    rw [he] at g1 g2
    have v1 := moverlaps_lit t 0 0 a L cap o1
    have v2 := roverlaps_any 2 t 0 0 a L cap (fun h => by omega) (fun h => by omega)
    generalize selfB 2 t 0 0 = d at v1 v2
    clear ht hL hok o1 he hn0 hf0 hk1 hL0
    go_enter Try.func5, Try.ntmps5
    go_wp2_with fail
    obtain ⟨S, hS⟩ := start1 w (cmdO 2 t 0 0 (.slice a L cap))
    rw [hS]
    clear hS
    refine (HeldW.call (s := S) (h2 _)).mono ?_
    rintro e _ ⟨rfl, s1, rfl⟩
    obtain ⟨d0, d1, d2, d3, d4, d5⟩ := held_cmd s1 (w.heap.size) 2 t 0 0 (.slice a L cap) (by simp)
    go_wp2_with fail
    clear d0 d1 d2 d3 d4 d5
    refine (HeldW.call (s := s1) (hs _)).mono ?_
    rintro e _ ⟨rfl, s2, rfl⟩
    obtain ⟨d0, d1, d2, d3, d4, d5⟩ := held_cmd s2 (w.heap.size) 2 t 0 0 (.slice a L cap) (by simp)
    go_wp2_with fail
    obtain ⟨B, S6, hB, hB0, hlt, hS⟩ := s2.more2 (extO (0, 0)) (extO (0, 0))
    rw [hS, ← hB]
    clear hS hB hlt
    clear d0 d1 d2 d3 d4 d5
    refine wp_region_class _ _ (by kernel_rfl) (by kernel_rfl) (S6).below (S6).blocks (fun hne => ?_)
    obtain ⟨d0, d1, d2, d3, d4⟩ := held_cmdA (S6) (w.heap.size) 2 t 0 0 (.slice a L cap) (by simp)
    obtain ⟨e0, e1⟩ := held_extA (S6) (B) (0, 0) (by simp)
    obtain ⟨q0, q1⟩ := held_extA (S6) (B + 1) (0, 0) (by simp)
    repeat (go_big_quiet_step ((first | (go_at_call 9; exact HeldW.call (alive04_gives _)) | (go_at_call 17; exact HeldW.call (g1 _)) | (go_at_call 18; exact HeldW.call (g2 _)) | (go_at_call 19; exact HeldW.call (v1 _)) | (go_at_call 20; exact HeldW.call (v2 _)))))
    refine wpQuiet_nil ?_
    rintro _ ⟨s7, rfl⟩
    clear hne d0 d1 d2 d3 d4 e0 e1 q0 q1
    go_wp2_with fail
    go_ret
    exact ⟨rfl, s7.below⟩

theorem commandExtents_walk (k t f n : Int) (a : Option Addr) (l : List Int) (cap : Nat) {w : World} (ht : I64 t) (hf : I64 f) (hn : I64 n) (hb : BytesIn w a l cap) (hok : OkB l) : Calls Try.prog 5 #[cmdV k t f n (.slice a l.length cap)] w (Gives (.bool true) w) := by
  have hL : I64 l.length := i64_len (a := a) hb.len hb.capb
  by_cases hc : chk k t f n l.length = 0
  · rcases chk_ok hc with ⟨rfl, _⟩ | ⟨rfl, rfl, rfl, _⟩
    · exact commandExtents_copy t f n a l.length cap ht hf hn hL hc w
    · exact commandExtents_lit t a l.length cap ht hL hc w
  · exact commandExtents_bad k t f n a l.length cap ht hf hn hL hc w
end Go.Proofs.Ytfikjndkjjgcjaa
