/- CommandDivides returns true for every command and offset, and changes nothing that was there. -/
import Derived.Test.Ytfikjndkjjgcjaa04LawParts
namespace Go.Proofs.Ytfikjndkjjgcjaa
open Go.RowKit Go.Shelf Go.Proofs.Ytfikjndkjjgcjaa.Plain01
set_option linter.unusedVariables false
set_option linter.unusedSimpArgs false

set_option maxRecDepth 100000 in
set_option maxHeartbeats 4000000 in
theorem commandDivides_bad (k t f n : Int) (a : Option Addr) (L cap : Nat) (z : Int) (ht : I64 t) (hf : I64 f) (hn : I64 n) (hL : I64 L) (hbad : chk k t f n L ≠ 0) (w : World) :
    Calls Try.prog 7 #[cmdV k t f n (.slice a L cap), .int .i64 z] w (Gives (.bool true) w) := by
  have h2 := rcheck_any k t f n a L cap ht hf hn hL
  generalize chk k t f n L = c at hbad h2
  have hc : (c != 0) = true := by simpa using hbad
  clear ht hf hn hL hbad
  go_enter Try.func7, Try.ntmps7
  go_wp2_with fail
  refine (HeldW.call (s := (HeldW.start w).push (cmdO k t f n (.slice a L cap))) (h2 _)).mono ?_
  rintro e _ ⟨rfl, s1, rfl⟩
  go_wp2_with fail
  refine (HeldW.call (s := s1) (alive04_gives _)).mono ?_
  rintro e _ ⟨rfl, s2, rfl⟩
  go_wp2_with fail
  go_wp2
  go_ret
  exact ⟨rfl, s2.below⟩

set_option maxRecDepth 100000 in
set_option maxHeartbeats 4000000 in
theorem commandDivides_out (k t f n : Int) (a : Option Addr) (L cap : Nat) (z x : Int) (ht : I64 t) (hf : I64 f) (hn : I64 n) (hL : I64 L) (hok : chk k t f n L = 0) (hw : wlen k n L = x) (hx : okE (t, x) = true) (hout : z ≤ t ∨ t + x ≤ z) (w : World) :
    Calls Try.prog 7 #[cmdV k t f n (.slice a L cap), .int .i64 z] w (Gives (.bool true) w) := by
  have h2 := rcheck_any k t f n a L cap ht hf hn hL
  rw [hok] at h2
  have hg := rtarget_any k t f n a L cap
  rw [hw] at hg
  obtain ⟨a0, a1, a2⟩ := okE_iff.1 hx
  simp only at a0 a1 a2
  have hcase : decide (z ≤ t) = true ∨ (decide (z ≤ t) = false ∧ decide (t + x ≤ z) = true) := by
    by_cases c0 : z ≤ t
    · left; simp [c0]
    · right; simp; omega
  clear ht hf hn hL hok hw hx hout
  rcases hcase with c0 | ⟨c0, c1⟩
  all_goals
    go_enter Try.func7, Try.ntmps7
    go_wp2_with fail
    refine (HeldW.call (s := (HeldW.start w).push (cmdO k t f n (.slice a L cap))) (h2 _)).mono ?_
    rintro e _ ⟨rfl, s1, rfl⟩
    obtain ⟨q0, q1, q2, q3, q4, q5⟩ := held_cmd s1 (w.heap.size) k t f n (.slice a L cap) (by simp)
    go_wp2_with fail
    clear q0 q1 q2 q3 q4 q5
    refine (HeldW.call (s := s1) (hg _)).mono ?_
    rintro e _ ⟨rfl, s2, rfl⟩
    go_wp2_with fail
    refine (HeldW.call (s := s2.push (extO (t, x))) (alive04_gives _)).mono ?_
    rintro e _ ⟨rfl, s3, rfl⟩
    go_wp2_with fail
    go_wp2
    go_ret
    exact ⟨rfl, s3.below⟩

set_option maxRecDepth 100000 in
set_option maxHeartbeats 4000000 in
theorem commandDivides_copy (t f n : Int) (a : Option Addr) (L cap : Nat) (z : Int) (ht : I64 t) (hf : I64 f) (hn : I64 n) (hL : I64 L) (hok : chk 1 t f n L = 0) (h1 : t < z) (h2 : z < t + n) (w : World) :
    Calls Try.prog 7 #[cmdV 1 t f n (.slice a L cap), .int .i64 z] w (Gives (.bool true) w) := by
  have hc := rcheck_any 1 t f n a L cap ht hf hn hL
  rw [hok] at hc
  obtain ⟨hk1, hL0, hn0, o1, o2⟩ | ⟨h, _⟩ := chk_ok hok
  · have hg := rtarget_any 1 t f n a L cap
    have hw : wlen 1 n L = n := by unfold wlen; rw [if_pos rfl]
    rw [hw] at hg
    obtain ⟨a0, a1, a2⟩ := okE_iff.1 o1
    obtain ⟨f0, f1, f2⟩ := okE_iff.1 o2
    simp only at a0 a1 a2 f0 f1 f2
    have hp1 := part_copy t f n a L cap (t, z - t) o1 o2 (by rw [okE_iff]; simp only; omega) (by simp only; omega) (by unfold insE; simp only; omega)
    have hp2 := part_copy t f n a L cap (z, t + n - z) o1 o2 (by rw [okE_iff]; simp only; omega) (by simp only; omega) (by unfold insE; simp only; omega)
    simp only [show f + (t - t) = f by omega] at hp1
    have c0 : decide (z ≤ t) = false := by simp; omega
    have c1 : decide (t + n ≤ z) = false := by simp; omega
    have c2 : (f == f) = true := by simp
    have c3 : (z - t + (t + n - z) == n) = true := by simp; omega
    have c4 : (f + (z - t) == f + (z - t)) = true := by simp
    clear ht hf hn hL hok hw o1 o2 hk1 hL0 hn0
    go_enter Try.func7, Try.ntmps7
    go_wp2_with fail
    obtain ⟨S, hS⟩ := start1 w (cmdO 1 t f n (.slice a L cap))
    rw [hS]
    clear hS
    refine (HeldW.call (s := S) (hc _)).mono ?_
    rintro e _ ⟨rfl, s1, rfl⟩
    obtain ⟨q0, q1, q2, q3, q4, q5⟩ := held_cmd s1 (w.heap.size) 1 t f n (.slice a L cap) (by simp)
    go_wp2_with fail
    clear q0 q1 q2 q3 q4 q5
    refine (HeldW.call (s := s1) (hg _)).mono ?_
    rintro e _ ⟨rfl, s2, rfl⟩
    obtain ⟨q0, q1, q2, q3, q4, q5⟩ := held_cmd s2 (w.heap.size) 1 t f n (.slice a L cap) (by simp)
    go_wp2_with fail
    obtain ⟨B, S3, hB, hB0, hS⟩ := s2.more (extO (t, n))
    rw [hS, ← hB]
    clear hS hB q0 q1 q2 q3 q4 q5
    refine (HeldW.call (s := S3) (hp1 _)).mono ?_
    rintro e _ ⟨rfl, s4, rfl⟩
    obtain ⟨d0, d1, d2⟩ := held_ext2 s4 (B) (t, n) (by simp)
    obtain ⟨q0, q1, q2, q3, q4, q5⟩ := held_cmd s4 (w.heap.size) 1 t f n (.slice a L cap) (by simp)
    go_wp2_with fail
    obtain ⟨B2, S5, hB2, hB20, hS⟩ := s4.more (cmdO 1 t f (z - t) (.slice none 0 0))
    rw [hS, ← hB2]
    clear hS hB2 q0 q1 q2 q3 q4 q5 d0 d1 d2
    refine (HeldW.call (s := S5) (hp2 _)).mono ?_
    rintro e _ ⟨rfl, s6, rfl⟩
    obtain ⟨d0, d1, d2⟩ := held_ext2 s6 (B) (t, n) (by simp)
    obtain ⟨q0, q1, q2, q3, q4, q5⟩ := held_cmd s6 (w.heap.size) 1 t f n (.slice a L cap) (by simp)
    obtain ⟨p0, p1, p2, p3, p4, p5⟩ := held_cmd s6 (B2) 1 t f (z - t) (.slice none 0 0) (by simp)
    go_wp2_with fail
    obtain ⟨B3, S7, hB3, hB30, hS⟩ := s6.more (cmdO 1 z (f + (z - t)) (t + n - z) (.slice none 0 0))
    rw [hS, ← hB3]
    clear hS hB3 q0 q1 q2 q3 q4 q5 d0 d1 d2 p0 p1 p2 p3 p4 p5
    refine (HeldW.call (s := S7) (alive04_gives _)).mono ?_
    rintro e _ ⟨rfl, s8, rfl⟩
    obtain ⟨q0, q1, q2, q3, q4, q5⟩ := held_cmd s8 (w.heap.size) 1 t f n (.slice a L cap) (by simp)
    obtain ⟨p0, p1, p2, p3, p4, p5⟩ := held_cmd s8 (B2) 1 t f (z - t) (.slice none 0 0) (by simp)
    obtain ⟨r0, r1, r2, r3, r4, r5⟩ := held_cmd s8 (B3) 1 z (f + (z - t)) (t + n - z) (.slice none 0 0) (by simp)
    go_wp2_with fail
    go_ret
    exact ⟨rfl, s8.below⟩
  · omega

theorem strOf_size (l : List Int) : (strOf l).size = l.length := by
  show (strOf l).data.size = l.length
  rw [strOf_data]
  simp

set_option maxRecDepth 100000 in
set_option maxHeartbeats 8000000 in
theorem commandDivides_lit (t : Int) (l : List Int) (a : Option Addr) (cap : Nat) (z : Int) (w : World) (hb : BytesIn w a l cap) (hm : l.length ≤ 140737488351232) (ht : I64 t) (hok : chk 2 t 0 0 l.length = 0) (h1 : t < z) (h2 : z < t + (l.length : Int)) :
    Calls Try.prog 7 #[cmdV 2 t 0 0 (.slice a l.length cap), .int .i64 z] w (Gives (.bool true) w) := by
  have hL : I64 (l.length : Int) := i64_len (a := a) hb.len hb.capb
  have hc := rcheck_any 2 t 0 0 a l.length cap ht i64_0 i64_0 hL
  rw [hok] at hc
  obtain ⟨h, _⟩ | ⟨hk1, hf0, hn0, hL0, o1⟩ := chk_ok hok
  · omega
  · have hg := rtarget_any 2 t 0 0 a l.length cap
    have hw : wlen 2 0 l.length = l.length := by unfold wlen; rw [if_neg (by omega)]
    rw [hw] at hg
    obtain ⟨a0, a1, a2⟩ := okE_iff.1 o1
    simp only at a0 a1 a2
    have hp1 := fun W (hB : Below w.heap.size w W) => part_lit t 0 0 l a cap (t, z - t) W (hb.below hB) hm o1 (by rw [okE_iff]; simp only; omega) (by simp only; omega) (by unfold insE; simp only; omega)
    have hp2 := fun W (hB : Below w.heap.size w W) => part_lit t 0 0 l a cap (z, t + (l.length : Int) - z) W (hb.below hB) hm o1 (by rw [okE_iff]; simp only; omega) (by simp only; omega) (by unfold insE; simp only; omega)
    obtain ⟨m1, hm1⟩ : ∃ m1 : Nat, (m1 : Int) = z - t := ⟨(z - t).toNat, by omega⟩
    obtain ⟨m2, hm2⟩ : ∃ m2 : Nat, (m2 : Int) = t + (l.length : Int) - z := ⟨(t + (l.length : Int) - z).toNat, by omega⟩
    simp only [show (t - t).toNat = 0 by omega, show (z - t).toNat = m1 by omega, show (t + (l.length : Int) - z).toNat = m2 by omega, List.drop_zero] at hp1 hp2
    have hsum : m1 + m2 = l.length := by omega
    have hq1 : (l.take m1).length = m1 := by rw [List.length_take]; omega
    have hq2 : ((l.drop m1).take m2).length = m2 := by rw [List.length_take, List.length_drop]; omega
    have hq : l.take m1 ++ (l.drop m1).take m2 = l := by
      rw [List.take_of_length_le (by rw [List.length_drop]; omega : (l.drop m1).length ≤ m2)]
      exact List.take_append_drop m1 l
    have hstr : strOf (l.take m1) ++ strOf ((l.drop m1).take m2) = strOf l := by rw [← strOf_append, hq]
    have hcv := fun W (hB : Below w.heap.size w W) => conv_str (hb.below hB)
    generalize l.take m1 = Q1 at hp1 hq1 hq hstr
    generalize (l.drop m1).take m2 = Q2 at hp2 hq2 hq hstr
    have c0 : decide (z ≤ t) = false := by simp; omega
    have c1 : decide (t + (l.length : Int) ≤ z) = false := by simp; omega
    have hm10 : 0 < m1 := by omega
    have hm20 : 0 < m2 := by omega
    have HP1 := Lib.hid hp1
    have HP2 := Lib.hid hp2
    have HQ1 := Lib.hid hq1
    have HQ2 := Lib.hid hq2
    have HCV := Lib.hid hcv
    have HST := Lib.hid hstr
    generalize strOf l = x at HCV HST
    generalize l.length = L at *
    have hs12 : m1 ≤ 140737488351232 ∧ m2 ≤ 140737488351232 := by omega
    clear ht hL hok hw o1 hk1 hL0 hf0 hn0 hp1 hp2 hq1 hq2 hq hcv hstr hb hm1 hm2 hsum
    go_enter Try.func7, Try.ntmps7
    go_wp2_with fail
    obtain ⟨S, hS⟩ := start1 w (cmdO 2 t 0 0 (.slice a L cap))
    rw [hS]
    clear hS
    refine (HeldW.call (s := S) (hc _)).mono ?_
    rintro e _ ⟨rfl, s1, rfl⟩
    obtain ⟨q0, q1, q2, q3, q4, q5⟩ := held_cmd s1 (w.heap.size) 2 t 0 0 (.slice a L cap) (by simp)
    go_wp2_with fail
    clear q0 q1 q2 q3 q4 q5
    refine (HeldW.call (s := s1) (hg _)).mono ?_
    rintro e _ ⟨rfl, s2, rfl⟩
    obtain ⟨q0, q1, q2, q3, q4, q5⟩ := held_cmd s2 (w.heap.size) 2 t 0 0 (.slice a L cap) (by simp)
    go_wp2_with fail
    obtain ⟨B, S3, hB, hB0, hS⟩ := s2.more (extO (t, (L : Int)))
    rw [hS, ← hB]
    clear hS hB q0 q1 q2 q3 q4 q5
    refine (HP1.out S3.w S3.below).mono ?_
    rintro e' _ ⟨v, rfl, o, rfl⟩
    obtain ⟨g1, C1, cur1, rfl, hmC1, hCb1, hgw1, hne1, hcur1, s4, hs4⟩ := S3.own o m1 (by rw [List.length_map]; exact HQ1.out) hm10
    rw [hs4]
    dsimp only
    clear hs4 o hne1
    obtain ⟨q0, q1, q2, q3, q4, q5⟩ := held_cmd s4 (w.heap.size) 2 t 0 0 (.slice a L cap) (by simp)
    obtain ⟨d0, d1, d2⟩ := held_ext2 s4 B (t, (L : Int)) (by simp)
    go_wp2_with fail
    obtain ⟨B2, S5, hB2, hB20, hS⟩ := s4.more (cmdO 2 t 0 0 (.slice (some ⟨g1, 0, none⟩) m1 C1))
    rw [hS, ← hB2]
    clear hS hB2 q0 q1 q2 q3 q4 q5 d0 d1 d2
    refine (HP2.out S5.w S5.below).mono ?_
    rintro e' _ ⟨v, rfl, o, rfl⟩
    obtain ⟨g2, C2, cur2, rfl, hmC2, hCb2, hgw2, hne2, hcur2, s6, hs6⟩ := S5.own o m2 (by rw [List.length_map]; exact HQ2.out) hm20
    rw [hs6]
    dsimp only
    clear hs6 o hne2
    obtain ⟨q0, q1, q2, q3, q4, q5⟩ := held_cmd s6 (w.heap.size) 2 t 0 0 (.slice a L cap) (by simp)
    go_wp2_with fail
    obtain ⟨B3, S7, hB3, hB30, hS⟩ := s6.more (cmdO 2 z 0 0 (.slice (some ⟨g2, 0, none⟩) m2 C2))
    rw [hS, ← hB3]
    clear hS hB3 q0 q1 q2 q3 q4 q5
    refine (HeldW.call (s := S7) (alive04_gives _)).mono ?_
    rintro e _ ⟨rfl, s8, rfl⟩
    obtain ⟨q0, q1, q2, q3, q4, q5⟩ := held_cmd s8 (w.heap.size) 2 t 0 0 (.slice a L cap) (by simp)
    obtain ⟨p0, p1, p2, p3, p4, p5⟩ := held_cmd s8 (B2) 2 t 0 0 (.slice (some ⟨g1, 0, none⟩) m1 C1) (by simp)
    obtain ⟨r0, r1, r2, r3, r4, r5⟩ := held_cmd s8 (B3) 2 z 0 0 (.slice (some ⟨g2, 0, none⟩) m2 C2) (by simp)
    have k1 := conv_str (bytes_block (s8.blocks (g1, .cells cur1 5 (0, 0)) (by simp)) HQ1.out hmC1 hCb1 hcur1.out)
    have k2 := conv_str (bytes_block (s8.blocks (g2, .cells cur2 5 (0, 0)) (by simp)) HQ2.out hmC2 hCb2 hcur2.out)
    rw [HQ1.out] at k1
    rw [HQ2.out] at k2
    have k3 := HCV.out s8.w s8.below
    have hsz : ¬ 9223372036854775807 < (strOf Q1).size + (strOf Q2).size := by
      rw [strOf_size, strOf_size, HQ1.out, HQ2.out]
      omega
    generalize strOf Q1 = x1 at k1 HST hsz
    generalize strOf Q2 = x2 at k2 HST hsz
    have HW := Lib.hid s8.below
    clear HQ1 HQ2 hcur1 hcur2 HP1 HP2 hgw1 hgw2
    go_wp2
    go_ret
    exact ⟨by (rw [HST.out]; simp), HW.out⟩

theorem commandDivides_walk (k t f n : Int) (a : Option Addr) (l : List Int) (cap : Nat) (z : Int) {w : World} (ht : I64 t) (hf : I64 f) (hn : I64 n) (hb : BytesIn w a l cap) (okl : OkB l) (hz : cap ≤ reachBytes) (hz' : I64 z) :
    Calls Try.prog 7 #[cmdV k t f n (.slice a l.length cap), .int .i64 z] w (Gives (.bool true) w) := by
  have hL : I64 l.length := i64_len (a := a) hb.len hb.capb
  have hm : l.length ≤ 140737488351232 := Nat.le_trans hb.len (by unfold reachBytes at hz; omega)
  by_cases hc : chk k t f n l.length = 0
  · rcases chk_ok hc with ⟨rfl, hL0, hn0, o1, o2⟩ | ⟨rfl, rfl, rfl, hL0, o1⟩
    · have hw : wlen 1 n l.length = n := by unfold wlen; rw [if_pos rfl]
      by_cases hout : z ≤ t ∨ t + n ≤ z
      · exact commandDivides_out 1 t f n a l.length cap z n ht hf hn hL hc hw o1 hout w
      · exact commandDivides_copy t f n a l.length cap z ht hf hn hL hc (by omega) (by omega) w
    · have hw : wlen 2 0 l.length = l.length := by unfold wlen; rw [if_neg (by omega)]
      by_cases hout : z ≤ t ∨ t + (l.length : Int) ≤ z
      · exact commandDivides_out 2 t 0 0 a l.length cap z l.length ht hf hn hL hc hw o1 hout w
      · exact commandDivides_lit t l a cap z w hb hm ht hc (by omega) (by omega)
  · exact commandDivides_bad k t f n a l.length cap z ht hf hn hL hc w
end Go.Proofs.Ytfikjndkjjgcjaa
