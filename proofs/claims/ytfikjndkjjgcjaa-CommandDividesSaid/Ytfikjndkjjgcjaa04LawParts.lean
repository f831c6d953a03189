/- CommandParts returns true for every command and extent, and changes nothing that was there. -/
import Derived.Laws.StructEq
import Derived.Test.Ytfikjndkjjgcjaa04Lit
import Derived.Test.Ytfikjndkjjgcjaa04LawExtents
namespace Go.Proofs.Ytfikjndkjjgcjaa
open Go.RowKit Go.Shelf Go.Proofs.Ytfikjndkjjgcjaa.Plain01
set_option linter.unusedVariables false
set_option linter.unusedSimpArgs false

set_option maxRecDepth 100000 in
set_option maxHeartbeats 4000000 in
theorem commandParts_bad (k t f n : Int) (a : Option Addr) (L cap : Nat) (e : Int × Int) (ht : I64 t) (hf : I64 f) (hn : I64 n) (hL : I64 L) (h0 : I64 e.1) (h1 : I64 e.2) (hbad : chk k t f n L ≠ 0 ∨ okE e = false) (w : World) :
    Calls Try.prog 6 #[cmdV k t f n (.slice a L cap), extV e] w (Gives (.bool true) w) := by
  have h2 := rcheck_any k t f n a L cap ht hf hn hL
  have hv := rvalid_gives e h0 h1
  by_cases hc : chk k t f n L = 0
  · have he : okE e = false := hbad.resolve_left (fun h => h hc)
    rw [hc] at h2
    rw [he] at hv
    clear ht hf hn hL hbad h0 h1 hc he
    go_enter Try.func6, Try.ntmps6
    go_wp2_with fail
    refine (HeldW.call (s := ((HeldW.start w).push (cmdO k t f n (.slice a L cap))).push (extO e)) (h2 _)).mono ?_
    rintro e _ ⟨rfl, s1, rfl⟩
    obtain ⟨d0, d1, d2⟩ := held_ext2 s1 (w.heap.size + 1) e (by simp)
    go_wp2_with fail
    clear d0 d1 d2
    refine (HeldW.call (s := s1) (hv _)).mono ?_
    rintro e _ ⟨rfl, s2, rfl⟩
    go_wp2_with fail
    refine (HeldW.call (s := s2) (alive04_gives _)).mono ?_
    rintro e _ ⟨rfl, s3, rfl⟩
    go_wp2_with fail
    go_wp2
    go_ret
    exact ⟨rfl, s3.below⟩
  · generalize chk k t f n L = c at hc h2
    have hc' : (c != 0) = true := by simpa using hc
    clear ht hf hn hL hbad h0 h1 hc hv
    go_enter Try.func6, Try.ntmps6
    go_wp2_with fail
    refine (HeldW.call (s := ((HeldW.start w).push (cmdO k t f n (.slice a L cap))).push (extO e)) (h2 _)).mono ?_
    rintro e _ ⟨rfl, s1, rfl⟩
    go_wp2_with fail
    refine (HeldW.call (s := s1) (alive04_gives _)).mono ?_
    rintro e _ ⟨rfl, s2, rfl⟩
    go_wp2_with fail
    go_wp2
    go_ret
    exact ⟨rfl, s2.below⟩

set_option maxRecDepth 100000 in
set_option maxHeartbeats 4000000 in
theorem commandParts_no (k t f n : Int) (a : Option Addr) (L cap : Nat) (e : Int × Int) (x : Int) (ht : I64 t) (hf : I64 f) (hn : I64 n) (hL : I64 L) (hok : chk k t f n L = 0) (he : okE e = true) (hx : okE (t, x) = true) (hw : wlen k n L = x)
    (hno : e.2 = 0 ∨ ¬ insE (t, x) e) (hp : ∀ w, Calls Try.prog 22 #[cmdV k t f n (.slice a L cap), extV e] w (Gives noPart w)) (w : World) :
    Calls Try.prog 6 #[cmdV k t f n (.slice a L cap), extV e] w (Gives (.bool true) w) := by
  have h2 := rcheck_any k t f n a L cap ht hf hn hL
  rw [hok] at h2
  have hv := rvalid_gives e (by have := okE_iff.1 he; unfold I64; omega) (by have := okE_iff.1 he; unfold I64; omega)
  rw [he] at hv
  have hg := rtarget_any k t f n a L cap
  rw [hw] at hg
  have hs := rsame_nil 0 0 0 0 0 0 0 0
  rw [sameB_refl] at hs
  obtain ⟨e0, e1, e2⟩ := okE_iff.1 he
  obtain ⟨a0, a1, a2⟩ := okE_iff.1 hx
  simp only at a0 a1 a2
  clear ht hf hn hL hok he hx hw
  have hcase : (e.2 == 0) = true ∨ ((e.2 == 0) = false ∧ decide (e.1 < t) = true) ∨ ((e.2 == 0) = false ∧ decide (e.1 < t) = false ∧ decide (t + x < e.1 + e.2) = true) := by
    by_cases c0 : e.2 = 0
    · left; simpa using c0
    · right
      have hin := hno.resolve_left c0
      unfold insE at hin
      simp only at hin
      by_cases c1 : e.1 < t
      · left; simp [c0, c1]
      · right; simp [c0]; omega
  clear hno
  rcases hcase with c0 | ⟨c0, c1⟩ | ⟨c0, c1, c2⟩
  all_goals
    go_enter Try.func6, Try.ntmps6
    go_wp2_with fail
    obtain ⟨S, hS⟩ := start2 w (cmdO k t f n (.slice a L cap)) (extO e)
    rw [hS]
    clear hS
    refine (HeldW.call (s := S) (h2 _)).mono ?_
    rintro e _ ⟨rfl, s1, rfl⟩
    obtain ⟨d0, d1, d2⟩ := held_ext2 s1 (w.heap.size + 1) e (by simp)
    go_wp2_with fail
    clear d0 d1 d2
    refine (HeldW.call (s := s1) (hv _)).mono ?_
    rintro e _ ⟨rfl, s2, rfl⟩
    obtain ⟨d0, d1, d2⟩ := held_ext2 s2 (w.heap.size + 1) e (by simp)
    obtain ⟨q0, q1, q2, q3, q4, q5⟩ := held_cmd s2 (w.heap.size) k t f n (.slice a L cap) (by simp)
    go_wp2_with fail
    clear d0 d1 d2 q0 q1 q2 q3 q4 q5
    refine (HeldW.call (s := s2) (hp _)).mono ?_
    rintro e _ ⟨rfl, s3, rfl⟩
    obtain ⟨q0, q1, q2, q3, q4, q5⟩ := held_cmd s3 (w.heap.size) k t f n (.slice a L cap) (by simp)
    go_wp2_with fail
    obtain ⟨B, S4, hB, hB0, hlt, hS⟩ := s3.more1 (cmdO 0 0 0 0 (.slice none 0 0))
    rw [hS, ← hB]
    clear hS hB hlt q0 q1 q2 q3 q4 q5
    refine (HeldW.call (s := S4) (hg _)).mono ?_
    rintro e _ ⟨rfl, s5, rfl⟩
    obtain ⟨d0, d1, d2⟩ := held_ext2 s5 (w.heap.size + 1) e (by simp)
    go_wp2_with fail
    clear d0 d1 d2
    refine (HeldW.call (s := s5.push (extO (t, x))) (alive04_gives _)).mono ?_
    rintro e _ ⟨rfl, s6, rfl⟩
    obtain ⟨r0, r1, r2, r3, r4, r5⟩ := held_cmd s6 (B) 0 0 0 0 (.slice none 0 0) (by simp)
    go_wp2_with fail
    clear r0 r1 r2 r3 r4 r5
    refine (HeldW.call (s := s6) (hs _)).mono ?_
    rintro e _ ⟨rfl, s7, rfl⟩
    go_wp2_with fail
    go_ret
    exact ⟨rfl, s7.below⟩

set_option maxRecDepth 100000 in
set_option maxHeartbeats 4000000 in
theorem commandParts_copy (t f n : Int) (a : Option Addr) (L cap : Nat) (e : Int × Int) (ht : I64 t) (hf : I64 f) (hn : I64 n) (hL : I64 L) (hok : chk 1 t f n L = 0) (he : okE e = true) (h0 : e.2 ≠ 0) (hi : insE (t, n) e) (w : World) :
    Calls Try.prog 6 #[cmdV 1 t f n (.slice a L cap), extV e] w (Gives (.bool true) w) := by
  have h2 := rcheck_any 1 t f n a L cap ht hf hn hL
  rw [hok] at h2
  obtain ⟨hk1, hL0, hn0, o1, o2⟩ | ⟨h, _⟩ := chk_ok hok
  · have hv := rvalid_gives e (by have := okE_iff.1 he; unfold I64; omega) (by have := okE_iff.1 he; unfold I64; omega)
    rw [he] at hv
    have hg := rtarget_any 1 t f n a L cap
    have hw : wlen 1 n L = n := by unfold wlen; rw [if_pos rfl]
    rw [hw] at hg
    have hp := part_copy t f n a L cap e o1 o2 he h0 hi
    have hr := rpart_copy t f n a L cap e o1 o2 he hi
    have hs := rsame_nil 1 e.1 (f + (e.1 - t)) e.2 1 e.1 (f + (e.1 - t)) e.2
    rw [sameB_refl] at hs
    obtain ⟨e0, e1, e2⟩ := okE_iff.1 he
    obtain ⟨a0, a1, a2⟩ := okE_iff.1 o1
    obtain ⟨f0, f1, f2⟩ := okE_iff.1 o2
    have hi' := hi
    unfold insE at hi'
    simp only at a0 a1 a2 f0 f1 f2 hi'
    obtain ⟨i0, i1⟩ := hi'
    have hch := check_any 1 e.1 (f + (e.1 - t)) e.2 none 0 0 (by unfold I64; omega) (by unfold I64; omega) (by unfold I64; omega) i64_0
    have hz : chk 1 e.1 (f + (e.1 - t)) e.2 0 = 0 := by
      have q1 : okE (e.1, e.2) = true := he
      have q2 : okE (f + (e.1 - t), e.2) = true := by rw [okE_iff]; simp only; omega
      unfold chk wlen
      simp [q1, q2, h0]
    rw [hz] at hch
    have htg := mtarget_any 1 e.1 (f + (e.1 - t)) e.2 (.inl rfl) none 0 0
    have hw2 : wlen 1 e.2 0 = e.2 := by unfold wlen; rw [if_pos rfl]
    rw [hw2] at htg
    have c0 : (e.2 == 0) = false := by simpa using h0
    have c1 : decide (e.1 < t) = false := by simp; omega
    have c2 : decide (t + n < e.1 + e.2) = false := by simp; omega
    clear ht hf hn hL hok he hw hw2 hz hi o1 o2 h0 hk1 hL0 hn0
    go_enter Try.func6, Try.ntmps6
    go_wp2_with fail
    obtain ⟨S, hS⟩ := start2 w (cmdO 1 t f n (.slice a L cap)) (extO e)
    rw [hS]
    clear hS
    refine (HeldW.call (s := S) (h2 _)).mono ?_
    rintro e _ ⟨rfl, s1, rfl⟩
    obtain ⟨d0, d1, d2⟩ := held_ext2 s1 (w.heap.size + 1) e (by simp)
    go_wp2_with fail
    clear d0 d1 d2
    refine (HeldW.call (s := s1) (hv _)).mono ?_
    rintro e _ ⟨rfl, s2, rfl⟩
    obtain ⟨d0, d1, d2⟩ := held_ext2 s2 (w.heap.size + 1) e (by simp)
    obtain ⟨q0, q1, q2, q3, q4, q5⟩ := held_cmd s2 (w.heap.size) 1 t f n (.slice a L cap) (by simp)
    go_wp2_with fail
    clear d0 d1 d2 q0 q1 q2 q3 q4 q5
    refine (HeldW.call (s := s2) (hp _)).mono ?_
    rintro e _ ⟨rfl, s3, rfl⟩
    obtain ⟨q0, q1, q2, q3, q4, q5⟩ := held_cmd s3 (w.heap.size) 1 t f n (.slice a L cap) (by simp)
    go_wp2_with fail
    obtain ⟨B, S4, hB, hB0, hlt, hS⟩ := s3.more1 (cmdO 1 e.1 (f + (e.1 - t)) e.2 (.slice none 0 0))
    rw [hS, ← hB]
    clear hS hB hlt q0 q1 q2 q3 q4 q5
    refine (HeldW.call (s := S4) (hg _)).mono ?_
    rintro e _ ⟨rfl, s5, rfl⟩
    obtain ⟨d0, d1, d2⟩ := held_ext2 s5 (w.heap.size + 1) e (by simp)
    go_wp2_with fail
    obtain ⟨B2, S6, hB2, hB02, hS⟩ := s5.more (extO (t, n))
    rw [hS, ← hB2]
    clear hS hB2 d0 d1 d2
    refine wp_region_class _ _ (by kernel_rfl) (by kernel_rfl) (S6).below (S6).blocks (fun hne => ?_)
    obtain ⟨p0, p1, p2, p3, p4⟩ := held_cmdA (S6) (B) 1 e.1 (f + (e.1 - t)) e.2 (.slice none 0 0) (by simp)
    obtain ⟨q0, q1, q2, q3, q4⟩ := held_cmdA (S6) (w.heap.size) 1 t f n (.slice a L cap) (by simp)
    obtain ⟨d0, d1⟩ := held_extA (S6) (w.heap.size + 1) e (by simp)
    repeat (go_big_quiet_step ((first | (go_at_call 9; exact HeldW.call (alive04_gives _)) | (go_at_call 23; exact HeldW.call (hr _)) | (go_at_call 12; exact HeldW.call (hs _)) | (go_at_call 13; exact HeldW.call (hch _)) | (go_at_call 17; exact HeldW.call (htg _)))))
    refine wpQuiet_nil ?_
    rintro _ ⟨s7, rfl⟩
    clear hne p0 p1 p2 p3 p4 q0 q1 q2 q3 q4 d0 d1
    go_wp2_with fail
    go_ret
    exact ⟨rfl, s7.below⟩
  · omega

/-- The cells of a boxed command, in whatever later world. -/
theorem cmd_later {w1 : World} {b : Nat} {k t f n : Int} {v : Value} (h : w1.heap[b]? = some (cmdO k t f n v)) : ∀ W, Below w1.heap.size w1 W →
    W.cell? ⟨b, 0, none⟩ = some (.int .i64 k) ∧ W.cell? ⟨b, 1, none⟩ = some (.int .i64 t) ∧ W.cell? ⟨b, 2, none⟩ = some (.int .i64 f) ∧ W.cell? ⟨b, 3, none⟩ = some (.int .i64 n) ∧ W.cell? ⟨b, 4, none⟩ = some v := fun W hW => cmd_cells (heap_below h hW)
theorem ext_later {w1 : World} {b : Nat} {x : Int × Int} (h : w1.heap[b]? = some (extO x)) : ∀ W, Below w1.heap.size w1 W → W.cell? ⟨b, 0, none⟩ = some (.int .i64 x.1) ∧ W.cell? ⟨b, 1, none⟩ = some (.int .i64 x.2) := fun W hW =>
  ⟨(ext_cells (heap_below h hW)).1, (ext_cells (heap_below h hW)).2.1⟩
theorem IsOwn.bytes {base : Nat} {mk : Value → Value} {Q : List Int} {v : Value} {W : World} (h : IsOwn base mk Q v W) (hb : base ≤ W.heap.size) : ∃ A C, v = mk (.slice A Q.length C) ∧ BytesIn W A Q C := by
  obtain ⟨A, C, hv, h1, h2⟩ := h
  refine ⟨A, C, hv, ?_⟩
  rcases h2 with ⟨h3, h0⟩ | ⟨g, cap, cur, h3, hg, hbk, hc, hm, hs, ht⟩
  · have h4 := List.eq_nil_of_length_eq_zero h0
    subst h4
    simp at h3
    obtain ⟨rfl, rfl⟩ := h3
    exact bytes_nil W
  · simp at h3
    obtain ⟨rfl, rfl⟩ := h3
    refine ⟨hc, by unfold maxLen at hm; omega, fun hp => ⟨g, 0, rfl, fun i hi => ?_⟩, fun h => by cases h⟩
    rw [Nat.zero_add, cell_of hbk]
    have : (cur.toList.take (Q.length * 1))[i]? = (Q.map (Value.int .u8))[i]? := by rw [ht]
    rw [List.getElem?_take, if_pos (by omega), List.getElem?_map, List.getElem?_eq_getElem hi] at this
    rw [List.getElem?_eq_getElem hi]
    simpa using this

/-- Bytes in a block that is known whole. -/
theorem bytes_block {W : World} {g C m : Nat} {cur : Array Value} {Q : List Int} {t : TypeId} {fr : Nat × Nat} (h : W.heap[g]? = some (.cells cur t fr)) (hQ : Q.length = m) (h1 : m ≤ C) (h2 : C ≤ 9223372036854775807) (hc : ∀ (j : Nat) (u : Value), (Q.map (Value.int .u8))[j]? = some u → cur[j]? = some u) : BytesIn W (some ⟨g, 0, none⟩) Q C :=
  ⟨by omega, h2, fun hp => ⟨g, 0, rfl, fun i hi => by
    rw [Nat.zero_add, cell_of_row W g _ _ _ _ h]
    exact hc i _ (by rw [List.getElem?_map, List.getElem?_eq_getElem hi]; rfl)⟩, fun h => by cases h⟩

set_option maxRecDepth 100000 in
set_option maxHeartbeats 8000000 in
theorem commandParts_lit (t : Int) (l : List Int) (a : Option Addr) (cap : Nat) (e : Int × Int) (w : World) (hb : BytesIn w a l cap) (okl : OkB l) (hm : l.length ≤ 140737488351232) (ht : I64 t) (hok : chk 2 t 0 0 l.length = 0) (he : okE e = true) (h0 : e.2 ≠ 0) (hi : insE (t, (l.length : Int)) e) :
    Calls Try.prog 6 #[cmdV 2 t 0 0 (.slice a l.length cap), extV e] w (Gives (.bool true) w) := by
  have hL : I64 (l.length : Int) := i64_len (a := a) hb.len hb.capb
  have h2 := rcheck_any 2 t 0 0 a l.length cap ht i64_0 i64_0 hL
  rw [hok] at h2
  obtain ⟨h, _⟩ | ⟨hk1, hf0, hn0, hL0, o1⟩ := chk_ok hok
  · omega
  · have hv := rvalid_gives e (by have := okE_iff.1 he; unfold I64; omega) (by have := okE_iff.1 he; unfold I64; omega)
    rw [he] at hv
    have hg := rtarget_any 2 t 0 0 a l.length cap
    have hw : wlen 2 0 l.length = l.length := by unfold wlen; rw [if_neg (by omega)]
    rw [hw] at hg
    have hp := fun W (hB : Below w.heap.size w W) => part_lit t 0 0 l a cap e W (hb.below hB) hm o1 he h0 hi
    have hr := fun W (hB : Below w.heap.size w W) => rpart_lit t 0 0 l a cap e W (hb.below hB) hm o1 he h0 hi
    obtain ⟨e0, e1, e2⟩ := okE_iff.1 he
    obtain ⟨a0, a1, a2⟩ := okE_iff.1 o1
    have hi' := hi
    unfold insE at hi'
    simp only at a0 a1 a2 hi'
    obtain ⟨i0, i1⟩ := hi'
    obtain ⟨m, hm2⟩ : ∃ m : Nat, e.2 = (m : Int) := ⟨e.2.toNat, by omega⟩
    have hQ : ((l.drop (e.1 - t).toNat).take e.2.toNat).length = m := by rw [List.length_take, List.length_drop]; omega
    have okQ : OkB ((l.drop (e.1 - t).toNat).take e.2.toNat) := fun x hx => okl x (List.mem_of_mem_drop (List.mem_of_mem_take hx))
    generalize (l.drop (e.1 - t).toNat).take e.2.toNat = Q at hp hr hQ okQ
    have hch := fun (A : Option Addr) (C : Nat) => check_any 2 e.1 0 0 A m C (by unfold I64; omega) i64_0 i64_0 (by unfold I64; omega)
    have hz : chk 2 e.1 0 0 m = 0 := by
      have q1 : okE (e.1, (m : Int)) = true := by rw [← hm2]; exact he
      unfold chk wlen
      simp [q1]
      omega
    rw [hz] at hch
    have htg := fun (A : Option Addr) (C : Nat) => mtarget_any 2 e.1 0 0 (.inr rfl) A m C
    have hw2 : wlen 2 0 m = e.2 := by unfold wlen; rw [if_neg (by omega), hm2]
    rw [hw2] at htg
    have c0 : (e.2 == 0) = false := by simpa using h0
    have c1 : decide (e.1 < t) = false := by simp; omega
    have c2 : decide (t + (l.length : Int) < e.1 + e.2) = false := by simp; omega
    have hmpos : 0 < m := by omega
    have HQ := Lib.hid hQ
    have HOKQ := Lib.hid okQ
    have HP := Lib.hid hp
    have HR := Lib.hid hr
    generalize l.length = L at *
    clear ht hL hok he hw hw2 hz hi o1 h0 hk1 hL0 hn0 hf0 hp hr hQ okQ hb okl hm2
    go_enter Try.func6, Try.ntmps6
    go_wp2_with fail
    obtain ⟨S, hS⟩ := start2 w (cmdO 2 t 0 0 (.slice a L cap)) (extO e)
    rw [hS]
    clear hS
    refine (HeldW.call (s := S) (h2 _)).mono ?_
    rintro e _ ⟨rfl, s1, rfl⟩
    obtain ⟨d0, d1, d2⟩ := held_ext2 s1 (w.heap.size + 1) e (by simp)
    go_wp2_with fail
    clear d0 d1 d2
    refine (HeldW.call (s := s1) (hv _)).mono ?_
    rintro e _ ⟨rfl, s2, rfl⟩
    obtain ⟨d0, d1, d2⟩ := held_ext2 s2 (w.heap.size + 1) e (by simp)
    obtain ⟨q0, q1, q2, q3, q4, q5⟩ := held_cmd s2 (w.heap.size) 2 t 0 0 (.slice a L cap) (by simp)
    go_wp2_with fail
    refine (HP.out s2.w s2.below).mono ?_
    rintro e' _ ⟨v, rfl, o, rfl⟩
    obtain ⟨g, C, cur, rfl, hmC, hCb, hgw, hne, hcur, s3, hs3⟩ := s2.own o m (by rw [List.length_map]; exact HQ.out) hmpos
    rw [hs3]
    dsimp only
    clear hs3 o hne d0 d1 d2 q0 q1 q2 q3 q4 q5
    obtain ⟨q0, q1, q2, q3, q4, q5⟩ := held_cmd s3 (w.heap.size) 2 t 0 0 (.slice a L cap) (by simp)
    go_wp2_with fail
    obtain ⟨B, S4, hB, hB0, hS⟩ := s3.more (cmdO 2 e.1 0 0 (.slice (some ⟨g, 0, none⟩) m C))
    rw [hS, ← hB]
    clear hS hB q0 q1 q2 q3 q4 q5
    refine (HeldW.call (s := S4) (hg _)).mono ?_
    rintro e _ ⟨rfl, s5, rfl⟩
    obtain ⟨d0, d1, d2⟩ := held_ext2 s5 (w.heap.size + 1) e (by simp)
    go_wp2_with fail
    obtain ⟨B2, S6, hB2, hB02, hS⟩ := s5.more (extO (t, (L : Int)))
    rw [hS, ← hB2]
    clear hS hB2 d0 d1 d2
    have HP5 := Lib.hid (cmd_later (S6.blocks (B, cmdO 2 e.1 0 0 (.slice (some ⟨g, 0, none⟩) m C)) (by simp)))
    have HP2 := Lib.hid (cmd_later (S6.blocks (w.heap.size, cmdO 2 t 0 0 (.slice a L cap)) (by simp)))
    have HP3 := Lib.hid (ext_later (S6.blocks (w.heap.size + 1, extO e) (by simp)))
    have HPB := Lib.hid (bytes_block (S6.blocks (g, .cells cur 5 (0, 0)) (by simp)) HQ.out hmC hCb hcur.out)
    have HSB := Lib.hid S6.below
    clear S S4 s1 s2 s3 s5 hcur hmC hCb hgw
    generalize S6.w = w1 at HP5 HP2 HP3 HPB HSB ⊢
    have HCH := Lib.hid (hch (some ⟨g, 0, none⟩) C)
    have HTG := Lib.hid (htg (some ⟨g, 0, none⟩) C)
    clear S6 hch htg hv h2 hg c0 c1 c2
    refine wp_region_loose
      [IsV (.bool true), IsV (.bool true), IsV (.bool true), IsV (.bool true), IsV (.bool true),
       IsV (cmdV 2 e.1 0 0 (.slice (some ⟨g, 0, none⟩) m C)), IsV (cmdV 2 t 0 0 (.slice a L cap)), IsV (extV e), IsOwn w1.heap.size (fun v => cmdV 2 e.1 0 0 v) Q, IsV (.bool true), IsV (.bool true), IsV (.bool true),
       IsV (cmdV 2 e.1 0 0 (.slice (some ⟨g, 0, none⟩) m C)), IsV (.int .i64 0), IsV (.bool true), IsV (.bool true), IsV (.bool true),
       IsV (cmdV 2 e.1 0 0 (.slice (some ⟨g, 0, none⟩) m C)), IsV (extV e), IsV (extV e), IsV (.bool true), IsV (.bool true), IsV (.bool true)]
      [⟨58, [], []⟩, ⟨59, [(0, 58)], []⟩, ⟨60, [(1, 59)], [6]⟩, ⟨61, [(1, 59), (2, 60)], []⟩, ⟨62, [(3, 61)], []⟩,
       ⟨63, [(4, 62)], [5]⟩, ⟨64, [(4, 62)], [2]⟩, ⟨65, [(4, 62)], [3]⟩, ⟨66, [(4, 62), (6, 64), (7, 65)], []⟩, ⟨67, [(4, 62), (5, 63), (8, 66)], []⟩, ⟨68, [(4, 62), (9, 67)], []⟩, ⟨69, [(10, 68)], []⟩,
       ⟨70, [(11, 69)], [5]⟩, ⟨71, [(11, 69), (12, 70)], []⟩, ⟨72, [(11, 69), (13, 71)], []⟩, ⟨73, [(11, 69), (14, 72)], []⟩, ⟨74, [(15, 73)], []⟩,
       ⟨75, [(16, 74)], [5]⟩, ⟨76, [(16, 74), (17, 75)], []⟩, ⟨77, [(16, 74)], [3]⟩, ⟨78, [(16, 74), (18, 76), (19, 77)], []⟩, ⟨79, [(16, 74), (20, 78)], []⟩, ⟨4, [(21, 79)], []⟩]
      (fun W => Below w1.heap.size w1 W) (fun W W' => Below W.heap.size W W') (by kernel_rfl) (by kernel_rfl) rfl rfl (Below.refl _ w1).drew ?_
      ⟨?_, ?_, ?_, ?_, ?_, ?_, ?_, ?_, ?_, ?_, ?_, ?_, ?_, ?_, ?_, ?_, ?_, ?_, ?_, ?_, ?_, ?_, ?_, trivial⟩ ?_
    · repeat (first | (intro _ h; cases h; done) | refine List.forall_mem_cons.2 ⟨stable_V _ _, ?_⟩ | refine List.forall_mem_cons.2 ⟨stable_own _ _ _, ?_⟩)
    · intro A' W hC hd hx
      refine ⟨fun g hg => (by cases hg), ?_⟩
      refine loose_call rfl Try.func9 (by kernel_rfl) (by kernel_rfl) ?_
      simp only [Array.map_empty]
      refine (alive04_gives W).mono ?_
      rintro e' W' ⟨rfl, hE⟩
      exact ⟨_, rfl, rfl, hC.trans (hE.mono hC.size), hE⟩
    · intro A W hC hd hx
      have hk : ∀ v, A.eval (.const v) = v := fun _ => rfl
      simp [factOf] at hd
      generalize A.eval = ρ at hd hk ⊢
      simp [go_sem, looseUpon, factOf, hd, hk]
      exact ⟨hC, Below.refl _ _⟩
    · intro A W hC hd hx
      have hk : ∀ v, A.eval (.const v) = v := fun _ => rfl
      have hy0 : A.eval (.tmp 6) = .bool true := hx 6 (by simp)
      simp [factOf] at hd
      generalize A.eval = ρ at hd hk hy0 ⊢
      simp [go_sem, looseUpon, factOf, hd, hk, hy0]
      exact ⟨hC, Below.refl _ _⟩
    · intro A W hC hd hx
      have hk : ∀ v, A.eval (.const v) = v := fun _ => rfl
      simp [factOf] at hd
      generalize A.eval = ρ at hd hk ⊢
      simp [go_sem, looseUpon, factOf, hd, hk]
      exact ⟨hC, Below.refl _ _⟩
    · intro A W hC hd hx
      have hk : ∀ v, A.eval (.const v) = v := fun _ => rfl
      simp [factOf] at hd
      generalize A.eval = ρ at hd hk ⊢
      simp [go_sem, looseUpon, factOf, hd, hk]
      exact ⟨hC, Below.refl _ _⟩
    · intro A W hC hd hx
      have hk : ∀ v, A.eval (.const v) = v := fun _ => rfl
      have hy0 : A.eval (.tmp 5) = .pointer (some ⟨B, 0, none⟩) := hx 5 (by simp)
      have c0 := (HP5.out W hC).1
      have c1 := (HP5.out W hC).2.1
      have c2 := (HP5.out W hC).2.2.1
      have c3 := (HP5.out W hC).2.2.2.1
      have c4 := (HP5.out W hC).2.2.2.2
      simp [factOf] at hd
      generalize A.eval = ρ at hd hk hy0 ⊢
      simp [go_sem, looseUpon, factOf, hd, hk, hy0, c0, c1, c2, c3, c4]
      exact ⟨hC, Below.refl _ _⟩
    · intro A W hC hd hx
      have hk : ∀ v, A.eval (.const v) = v := fun _ => rfl
      have hy0 : A.eval (.tmp 2) = .pointer (some ⟨w.heap.size, 0, none⟩) := hx 2 (by simp)
      have c0 := (HP2.out W hC).1
      have c1 := (HP2.out W hC).2.1
      have c2 := (HP2.out W hC).2.2.1
      have c3 := (HP2.out W hC).2.2.2.1
      have c4 := (HP2.out W hC).2.2.2.2
      simp [factOf] at hd
      generalize A.eval = ρ at hd hk hy0 ⊢
      simp [go_sem, looseUpon, factOf, hd, hk, hy0, c0, c1, c2, c3, c4]
      exact ⟨hC, Below.refl _ _⟩
    · intro A W hC hd hx
      have hk : ∀ v, A.eval (.const v) = v := fun _ => rfl
      have hy0 : A.eval (.tmp 3) = .pointer (some ⟨w.heap.size + 1, 0, none⟩) := hx 3 (by simp)
      have c0 := (HP3.out W hC).1
      have c1 := (HP3.out W hC).2
      simp [factOf] at hd
      generalize A.eval = ρ at hd hk hy0 ⊢
      simp [go_sem, looseUpon, factOf, hd, hk, hy0, c0, c1]
      exact ⟨hC, Below.refl _ _⟩
    · intro A' W hC hd hx
      simp [factOf] at hd
      refine ⟨fun g hg q hq hq2 => ?_, ?_⟩
      · cases hg; simp at hq; rcases hq with rfl | rfl | rfl <;> first | exact hd.1 | cases hq2
      · obtain ⟨_, h64, h65⟩ := hd
        refine loose_call rfl Try.func23 (by kernel_rfl) (by kernel_rfl) ?_
        simp only [List.map_toArray, List.map_cons, List.map_nil, h64, h65]
        refine (HR.out W (HSB.out.trans (hC.mono HSB.out.size))).mono ?_
        rintro e' W' ⟨v, rfl, s, rfl⟩
        refine ⟨_, rfl, ?_, hC.trans (s.below.mono hC.size), s.below⟩
        obtain ⟨A2, C2, rfl, _⟩ := s.bytes
        have ho := s.own
        simp only [List.length_map] at ho
        exact ⟨A2, C2, rfl, ho.mono hC.size⟩
    · intro A' W hC hd hx
      simp [factOf] at hd
      refine ⟨fun g hg q hq hq2 => ?_, ?_⟩
      · cases hg; simp at hq; rcases hq with rfl | rfl | rfl <;> first | exact hd.1 | cases hq2
      · obtain ⟨_, h63, h66⟩ := hd
        obtain ⟨A2, C2, h66, hA2⟩ := h66.bytes hC.size
        rw [HQ.out] at h66
        refine loose_call rfl Try.func12 (by kernel_rfl) (by kernel_rfl) ?_
        simp only [List.map_toArray, List.map_cons, List.map_nil, h63, h66]
        have hs := rsame_any 2 e.1 0 0 2 e.1 0 0 Q Q (some ⟨g, 0, none⟩) A2 C C2 W (HPB.out.below hC) hA2 HOKQ.out HOKQ.out
        rw [sameB_refl, HQ.out] at hs
        refine hs.mono ?_
        rintro e' W' ⟨rfl, hE⟩
        exact ⟨_, rfl, rfl, hC.trans (hE.mono hC.size), hE⟩
    · intro A W hC hd hx
      have hk : ∀ v, A.eval (.const v) = v := fun _ => rfl
      simp [factOf] at hd
      generalize A.eval = ρ at hd hk ⊢
      simp [go_sem, looseUpon, factOf, hd, hk]
      exact ⟨hC, Below.refl _ _⟩
    · intro A W hC hd hx
      have hk : ∀ v, A.eval (.const v) = v := fun _ => rfl
      simp [factOf] at hd
      generalize A.eval = ρ at hd hk ⊢
      simp [go_sem, looseUpon, factOf, hd, hk]
      exact ⟨hC, Below.refl _ _⟩
    · intro A W hC hd hx
      have hk : ∀ v, A.eval (.const v) = v := fun _ => rfl
      have hy0 : A.eval (.tmp 5) = .pointer (some ⟨B, 0, none⟩) := hx 5 (by simp)
      have c0 := (HP5.out W hC).1
      have c1 := (HP5.out W hC).2.1
      have c2 := (HP5.out W hC).2.2.1
      have c3 := (HP5.out W hC).2.2.2.1
      have c4 := (HP5.out W hC).2.2.2.2
      simp [factOf] at hd
      generalize A.eval = ρ at hd hk hy0 ⊢
      simp [go_sem, looseUpon, factOf, hd, hk, hy0, c0, c1, c2, c3, c4]
      exact ⟨hC, Below.refl _ _⟩
    · intro A' W hC hd hx
      simp [factOf] at hd
      refine ⟨fun g hg q hq hq2 => ?_, ?_⟩
      · cases hg; simp at hq; rcases hq with rfl | rfl <;> first | exact hd.1 | cases hq2
      · obtain ⟨_, h70⟩ := hd
        refine loose_call rfl Try.func13 (by kernel_rfl) (by kernel_rfl) ?_
        simp only [List.map_toArray, List.map_cons, List.map_nil, h70]
        refine (HCH.out W).mono ?_
        rintro e' W' ⟨rfl, hE⟩
        exact ⟨_, rfl, rfl, hC.trans (hE.mono hC.size), hE⟩
    · intro A W hC hd hx
      have hk : ∀ v, A.eval (.const v) = v := fun _ => rfl
      simp [factOf] at hd
      generalize A.eval = ρ at hd hk ⊢
      simp [go_sem, looseUpon, factOf, hd, hk]
      exact ⟨hC, Below.refl _ _⟩
    · intro A W hC hd hx
      have hk : ∀ v, A.eval (.const v) = v := fun _ => rfl
      simp [factOf] at hd
      generalize A.eval = ρ at hd hk ⊢
      simp [go_sem, looseUpon, factOf, hd, hk]
      exact ⟨hC, Below.refl _ _⟩
    · intro A W hC hd hx
      have hk : ∀ v, A.eval (.const v) = v := fun _ => rfl
      simp [factOf] at hd
      generalize A.eval = ρ at hd hk ⊢
      simp [go_sem, looseUpon, factOf, hd, hk]
      exact ⟨hC, Below.refl _ _⟩
    · intro A W hC hd hx
      have hk : ∀ v, A.eval (.const v) = v := fun _ => rfl
      have hy0 : A.eval (.tmp 5) = .pointer (some ⟨B, 0, none⟩) := hx 5 (by simp)
      have c0 := (HP5.out W hC).1
      have c1 := (HP5.out W hC).2.1
      have c2 := (HP5.out W hC).2.2.1
      have c3 := (HP5.out W hC).2.2.2.1
      have c4 := (HP5.out W hC).2.2.2.2
      simp [factOf] at hd
      generalize A.eval = ρ at hd hk hy0 ⊢
      simp [go_sem, looseUpon, factOf, hd, hk, hy0, c0, c1, c2, c3, c4]
      exact ⟨hC, Below.refl _ _⟩
    · intro A' W hC hd hx
      simp [factOf] at hd
      refine ⟨fun g hg q hq hq2 => ?_, ?_⟩
      · cases hg; simp at hq; rcases hq with rfl | rfl <;> first | exact hd.1 | cases hq2
      · obtain ⟨_, h75⟩ := hd
        refine loose_call rfl Try.func17 (by kernel_rfl) (by kernel_rfl) ?_
        simp only [List.map_toArray, List.map_cons, List.map_nil, h75]
        refine (HTG.out W).mono ?_
        rintro e' W' ⟨rfl, hE⟩
        exact ⟨_, rfl, rfl, hC.trans (hE.mono hC.size), hE⟩
    · intro A W hC hd hx
      have hk : ∀ v, A.eval (.const v) = v := fun _ => rfl
      have hy0 : A.eval (.tmp 3) = .pointer (some ⟨w.heap.size + 1, 0, none⟩) := hx 3 (by simp)
      have c0 := (HP3.out W hC).1
      have c1 := (HP3.out W hC).2
      simp [factOf] at hd
      generalize A.eval = ρ at hd hk hy0 ⊢
      simp [go_sem, looseUpon, factOf, hd, hk, hy0, c0, c1]
      exact ⟨hC, Below.refl _ _⟩
    · intro A W hC hd hx
      have hk : ∀ v, A.eval (.const v) = v := fun _ => rfl
      simp [factOf] at hd
      generalize A.eval = ρ at hd hk ⊢
      simp [go_sem, looseUpon, factOf, hd, hk]
      exact ⟨hC, Below.refl _ _⟩
    · intro A W hC hd hx
      have hk : ∀ v, A.eval (.const v) = v := fun _ => rfl
      simp [factOf] at hd
      generalize A.eval = ρ at hd hk ⊢
      simp [go_sem, looseUpon, factOf, hd, hk]
      exact ⟨hC, Below.refl _ _⟩
    · intro A W hC hd hx
      have hk : ∀ v, A.eval (.const v) = v := fun _ => rfl
      simp [factOf] at hd
      generalize A.eval = ρ at hd hk ⊢
      simp [go_sem, looseUpon, factOf, hd, hk]
      exact ⟨hC, Below.refl _ _⟩
    · intro W hC
      simp only [ends]
      rintro _ rfl _ rfl _ rfl _ rfl _ rfl _ rfl _ rfl _ rfl _ ⟨A2, C2, rfl, _⟩ _ rfl _ rfl _ rfl _ rfl _ rfl _ rfl _ rfl _ rfl _ rfl _ rfl _ rfl _ rfl _ rfl _ rfl
      simp only [putAll, List.zip_cons_cons, List.zip_nil_left, List.foldl_cons, List.foldl_nil, Act.put, List.setIfInBounds_toArray, List.set_cons_succ, List.set_cons_zero]
      go_wp2
      go_ret
      exact ⟨rfl, HSB.out.trans (hC.mono HSB.out.size)⟩

theorem commandParts_walk (k t f n : Int) (a : Option Addr) (l : List Int) (cap : Nat) (e : Int × Int) {w : World} (ht : I64 t) (hf : I64 f) (hn : I64 n) (hb : BytesIn w a l cap) (okl : OkB l) (hz : cap ≤ reachBytes) (h0 : I64 e.1) (h1 : I64 e.2) :
    Calls Try.prog 6 #[cmdV k t f n (.slice a l.length cap), extV e] w (Gives (.bool true) w) := by
  have hL : I64 l.length := i64_len (a := a) hb.len hb.capb
  have hm : l.length ≤ 140737488351232 := Nat.le_trans hb.len (by unfold reachBytes at hz; omega)
  by_cases hc : chk k t f n l.length = 0
  · cases he : okE e with
    | false => exact commandParts_bad k t f n a l.length cap e ht hf hn hL h0 h1 (.inr he) w
    | true =>
      rcases chk_ok hc with ⟨rfl, hL0, hn0, o1, o2⟩ | ⟨rfl, rfl, rfl, hL0, o1⟩
      · have hw : wlen 1 n l.length = n := by unfold wlen; rw [if_pos rfl]
        by_cases hno : e.2 = 0 ∨ ¬ insE (t, n) e
        · have hd := fun w => describe_any 1 t f n a l.length cap w
          simp only [descA_copy] at hd
          exact commandParts_no 1 t f n a l.length cap e n ht hf hn hL hc he o1 hw hno (fun w => part_no 1 t f n _ t n 1 f n _ e o1 he hno hd w) w
        · exact commandParts_copy t f n a l.length cap e ht hf hn hL hc he (fun h => hno (.inl h)) (Classical.byContradiction fun h => hno (.inr h)) w
      · have hw : wlen 2 0 l.length = l.length := by unfold wlen; rw [if_neg (by omega)]
        by_cases hno : e.2 = 0 ∨ ¬ insE (t, (l.length : Int)) e
        · have hd := fun w => describe_any 2 t 0 0 a l.length cap w
          simp only [descA_lit] at hd
          exact commandParts_no 2 t 0 0 a l.length cap e l.length ht hf hn hL hc he o1 hw hno (fun w => part_no 2 t 0 0 _ t l.length 2 0 0 _ e o1 he hno hd w) w
        · exact commandParts_lit t l a cap e w hb okl hm ht hc he (fun h => hno (.inl h)) (Classical.byContradiction fun h => hno (.inr h))
  · exact commandParts_bad k t f n a l.length cap e ht hf hn hL h0 h1 (.inl hc) w
end Go.Proofs.Ytfikjndkjjgcjaa
