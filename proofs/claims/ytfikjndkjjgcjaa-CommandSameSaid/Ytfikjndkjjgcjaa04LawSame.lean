/- CommandSame returns true for every two commands, and changes nothing that was there. -/
import Derived.LoopTactic
import Derived.Test.Ytfikjndkjjgcjaa04Lit
import Derived.Test.Ytfikjndkjjgcjaa04LawExtents
namespace Go.Proofs.Ytfikjndkjjgcjaa
open Go.RowKit Go.Shelf Go.Proofs.Ytfikjndkjjgcjaa.Plain01
set_option linter.unusedVariables false
set_option linter.unusedSimpArgs false

theorem HeldW.rebased {w0 : World} {bs : List (Nat × Obj)} (s : HeldW w0 bs) : ∃ R : HeldW s.w bs, s.w = R.w := ⟨s.rebase, rfl⟩

set_option maxRecDepth 100000 in
set_option maxHeartbeats 4000000 in
theorem commandSame_big (k t f n : Int) (a : Option Addr) (L cap : Nat) (k' t' f' n' : Int) (b : Option Addr) (M cap' : Nat) (hbig : 1000 < L ∨ 1000 < M) (hL : L ≤ 9223372036854775807) (hM : M ≤ 9223372036854775807) (w : World) :
    Calls Try.prog 8 #[cmdV k t f n (.slice a L cap), cmdV k' t' f' n' (.slice b M cap')] w (Gives (.bool true) w) := by
  by_cases h1 : 1000 < L
  · have hd : decide (1000 < (L : Int)) = true := by simp; omega
    clear hbig
    go_enter Try.func8, Try.ntmps8
    go_wp2_with fail
    refine (HeldW.call (s := ((HeldW.start w).push (cmdO k t f n (.slice a L cap))).push (cmdO k' t' f' n' (.slice b M cap'))) (alive04_gives _)).mono ?_
    rintro e _ ⟨rfl, s1, rfl⟩
    go_wp2_with fail
    go_wp2
    go_ret
    exact ⟨rfl, s1.below⟩
  · have hd : decide (1000 < (L : Int)) = false := by simp; omega
    have hd2 : decide (1000 < (M : Int)) = true := by simp; omega
    clear hbig
    go_enter Try.func8, Try.ntmps8
    go_wp2_with fail
    refine (HeldW.call (s := ((HeldW.start w).push (cmdO k t f n (.slice a L cap))).push (cmdO k' t' f' n' (.slice b M cap'))) (alive04_gives _)).mono ?_
    rintro e _ ⟨rfl, s1, rfl⟩
    go_wp2_with fail
    go_wp2
    go_ret
    exact ⟨rfl, s1.below⟩

set_option maxRecDepth 100000 in
set_option maxHeartbeats 8000000 in
theorem commandSame_small (k t f n : Int) (a : Option Addr) (l : List Int) (cap : Nat) (k' t' f' n' : Int) (b : Option Addr) (m : List Int) (cap' : Nat) (w : World) (hl : l.length ≤ 1000) (hm : m.length ≤ 1000) (hb : BytesIn w a l cap) (hb' : BytesIn w b m cap') (okl : OkB l) (okm : OkB m) :
    Calls Try.prog 8 #[cmdV k t f n (.slice a l.length cap), cmdV k' t' f' n' (.slice b m.length cap')] w (Gives (.bool true) w) := by
  have hcl := fun (A : Option Addr) (C : Nat) (W : World) (h : BytesIn W A l C) => mclone_any k t f n l A C W h (by omega)
  have hms := fun (W : World) (h1 : BytesIn W a l cap) (h2 : BytesIn W b m cap') => msame_any k t f n k' t' f' n' l m a b cap cap' W h1 h2 okl okm
  have hrs := fun (W : World) (h1 : BytesIn W a l cap) (h2 : BytesIn W b m cap') => rsame_any k t f n k' t' f' n' l m a b cap cap' W h1 h2 okl okm
  have hxs := fun (A : Option Addr) (C : Nat) (W : World) (h1 : BytesIn W A l C) (h2 : BytesIn W a l cap) => rsame_any k t f n k t f n l l A a C cap W h1 h2 okl okl
  simp only [sameB_refl] at hxs
  generalize sameB k t f n l k' t' f' n' m = d at hms hrs
  obtain ⟨L, hL⟩ : ∃ L, L = l.length := ⟨_, rfl⟩
  obtain ⟨M, hM⟩ : ∃ M, M = m.length := ⟨_, rfl⟩
  simp only [← hL, ← hM] at hcl hms hrs hxs hl hm ⊢
  have hd1 : decide (1000 < (L : Int)) = false := by simp; omega
  have hd2 : decide (1000 < (M : Int)) = false := by simp; omega
  have HL := Lib.hid hL.symm
  have HB := Lib.hid hb
  have HB' := Lib.hid hb'
  have HCL := Lib.hid hcl
  clear hL hM hb hb' okl okm hcl
  go_enter Try.func8, Try.ntmps8
  go_wp2_with fail
  obtain ⟨S, hS⟩ := start2 w (cmdO k t f n (.slice a L cap)) (cmdO k' t' f' n' (.slice b M cap'))
  rw [hS]
  clear hS
  refine (HCL.out a cap S.w (HB.out.W S)).mono ?_
  rintro e _ ⟨v, rfl, o, rfl⟩
  obtain ⟨A, C, rfl, hA⟩ := o.bytesN (n := L) HL.out
  obtain ⟨s1, hs1⟩ := OwnW.on S o
  rw [hs1] at hA ⊢
  dsimp only
  clear hs1 o
  go_wp2_with fail
  obtain ⟨B, S2, hB, hB0, hS⟩ := s1.more (cmdO k t f n (.slice A L C))
  have hA2 : BytesIn S2.w A l C := by rw [← hS]; exact hA.below ((Below.refl _ _).alloc (Nat.le_refl _) _)
  rw [hS, ← hB]
  clear hS hB hA s1
  have HW := Lib.hid S2.below
  have hz1 := (Array.getElem?_eq_some_iff.1 (S2.blocks (B, cmdO k t f n (.slice A L C)) (by simp))).1
  have hz2 := (Array.getElem?_eq_some_iff.1 (S2.blocks (w.heap.size + 1, cmdO k' t' f' n' (.slice b M cap')) (by simp))).1
  simp only at hz1 hz2
  obtain ⟨R, hR⟩ := S2.rebased
  rw [hR]
  clear hR
  have Hms := fun s : HeldW S2.w [(B, cmdO k t f n (.slice A L C)), (w.heap.size + 1, cmdO k' t' f' n' (.slice b M cap')), (w.heap.size, cmdO k t f n (.slice a L cap))] => hms s.w ((HB.out.below S2.below).W s) ((HB'.out.below S2.below).W s)
  have Hrs := fun s : HeldW S2.w [(B, cmdO k t f n (.slice A L C)), (w.heap.size + 1, cmdO k' t' f' n' (.slice b M cap')), (w.heap.size, cmdO k t f n (.slice a L cap))] => hrs s.w ((HB.out.below S2.below).W s) ((HB'.out.below S2.below).W s)
  have Hxs := fun s : HeldW S2.w [(B, cmdO k t f n (.slice A L C)), (w.heap.size + 1, cmdO k' t' f' n' (.slice b M cap')), (w.heap.size, cmdO k t f n (.slice a L cap))] => hxs A C s.w (hA2.W s) ((HB.out.below S2.below).W s)
  have HXS := Lib.hid hxs
  clear hms hrs hxs
  cases d
  all_goals
    refine wp_region_class _ _ (by kernel_rfl) (by kernel_rfl) (R).below (R).blocks (fun hne => ?_)
    obtain ⟨p0, p1, p2, p3, p4⟩ := held_cmdA (R) (B) k t f n (.slice A L C) (by simp)
    obtain ⟨q0, q1, q2, q3, q4⟩ := held_cmdA (R) (w.heap.size + 1) k' t' f' n' (.slice b M cap') (by simp)
    obtain ⟨r0, r1, r2, r3, r4⟩ := held_cmdA (R) (w.heap.size) k t f n (.slice a L cap) (by simp)
    repeat (go_big_quiet_step ((first | (go_at_call 25; exact HeldW.call (Hms _)) | (go_at_call_of 12 A; exact HeldW.call (Hxs _)) | (go_at_call 12; exact HeldW.call (Hrs _)))))
    refine wpQuiet_nil ?_
    rintro _ ⟨s3, rfl⟩
    clear hne p0 p1 p2 p3 p4 q0 q1 q2 q3 q4 r0 r1 r2 r3 r4
    obtain ⟨p0, p1, p2, p3, p4, p5⟩ := held_cmd s3 (B) k t f n (.slice A L C) (by simp)
    go_wp2_with fail
    refine (HCL.out A C s3.w (hA2.W s3)).mono ?_
    rintro e _ ⟨v, rfl, o, rfl⟩
    dsimp only
    clear p0 p1 p2 p3 p4 p5 Hms Hrs Hxs
    by_cases hp : 0 < L
    · obtain ⟨g, C2, cur, rfl, hmC, hCb, hgw, hne, hcur, s4, hs4⟩ := s3.own o L (by rw [List.length_map]; exact HL.out) hp
      have HCUR := Lib.hid (show ∀ j, j < L → ∃ z : Int, cur[j]? = some (.int .u8 z) from fun j hj => ⟨l[j]?.getD 0, hcur.out j _ (by rw [List.getElem?_map, List.getElem?_eq_getElem (by have := HL.out; omega)]; rfl)⟩)
      rw [hs4]
      clear hs4 o hcur s3
      go_wp2_with fail
      obtain ⟨By, S5, hB5, hB50, hlt5, hS⟩ := s4.more1 (cmdO k t f n (.slice (some ⟨g, 0, none⟩) L C2))
      have hgB : g < By := hlt5 (g, .cells cur 5 (0, 0)) (by simp)
      have hBy : B < By := hlt5 (B, cmdO k t f n (.slice A L C)) (by simp)
      rw [hS, ← hB5]
      clear hS hB5 hlt5 s4
      go_loopw [7, 39] (fun _ i wr => ∃ j : Nat, j ≤ L ∧ i = .int .i64 j ∧ ∃ cur' : Array Value, Hid (∀ j, j < L → ∃ z : Int, cur'[j]? = some (.int .u8 z)) ∧ ∃ s : HeldW S2.w [(g, .cells cur' 5 (0, 0)), (By, cmdO k t f n (.slice (some ⟨g, 0, none⟩) L C2)), (B, cmdO k t f n (.slice A L C)), (w.heap.size + 1, cmdO k' t' f' n' (.slice b M cap')), (w.heap.size, cmdO k t f n (.slice a L cap))], wr = s.w) (fun _ i _ => L - (intOf i).toNat)
      case atStart => exact ⟨0, by omega, rfl, cur, HCUR, S5.sub (fun p hp => by simp only [List.mem_cons] at hp ⊢; rcases hp with h | h | h | h | h | h <;> simp [h]), rfl⟩
      case round =>
        obtain ⟨j, hj, rfl, cur', hcur, s, rfl⟩ := hrel
        by_cases hlt : j < L
        · obtain ⟨z, hz⟩ := hcur.out j hlt
          obtain ⟨p0, p1, p2, p3, p4, p5⟩ := held_cmd s By k t f n (.slice (some ⟨g, 0, none⟩) L C2) (by simp)
          have hcell : s.w.cell? ⟨g, j, none⟩ = some (.int .u8 z) := (cell_of (s.blocks (g, .cells cur' 5 (0, 0)) (by simp)) j).trans hz
          have hfr : s.w.frozen? ⟨g, j, none⟩ = false := free_of (s.blocks (g, .cells cur' 5 (0, 0)) (by simp)) j
          have HX := Lib.hid (show ∀ y : Int, ∀ i, i < L → ∃ z : Int, (cur'.setIfInBounds j (.int .u8 y))[i]? = some (.int .u8 z) from fun y i hi => by
            by_cases hij : j = i
            · subst hij
              have hjs := (Array.getElem?_eq_some_iff.1 hz).1
              exact ⟨y, by simp [hjs]⟩
            · rw [Array.getElem?_setIfInBounds_ne hij]
              exact hcur.out i hi)
          clear hz hcur
          go_wp2
          go_roundw
          case rel => exact ⟨j + 1, by omega, by go_num, _, Lib.hid (HX.out _), s.store (i := j) (v := _) hgw (by simp; omega) rfl, rfl⟩
          case measure => simp [intOf]; omega
        · obtain rfl : j = L := by omega
          clear hcur
          go_wp2_with fail
          refine (HeldW.call (s := s) (alive04_gives _)).mono ?_
          rintro e _ ⟨rfl, s6, rfl⟩
          obtain ⟨p0, p1, p2, p3, p4, p5⟩ := held_cmd s6 (B) k t f n (.slice A j C) (by simp)
          obtain ⟨r0, r1, r2, r3, r4, r5⟩ := held_cmd s6 (w.heap.size) k t f n (.slice a j cap) (by simp)
          go_wp2_with fail
          clear p0 p1 p2 p3 p4 p5 r0 r1 r2 r3 r4 r5
          refine (HeldW.call (s := s6) (HXS.out A C s6.w (hA2.W s6) ((HB.out.below S2.below).W s6))).mono ?_
          rintro e _ ⟨rfl, s7, rfl⟩
          go_wp2_with fail
          go_wp2
          go_ret
          exact ⟨rfl, HW.out.trans (s7.below.mono HW.out.size)⟩
    · obtain rfl : L = 0 := by omega
      obtain ⟨A2, C2, rfl, hA3⟩ := o.bytesN (n := 0) HL.out
      obtain ⟨s4, hs4⟩ := OwnW.on s3 o
      rw [hs4]
      clear hs4 hA3 o s3
      go_wp2_with fail
      obtain ⟨By, S5, hB5, hB50, hlt5, hS⟩ := s4.more1 (cmdO k t f n (.slice A2 0 C2))
      rw [hS, ← hB5]
      clear hS hB5 hlt5 s4
      go_loopw [7, 39] (fun _ i wr => i = .int .i64 0 ∧ wr = S5.w) (fun _ _ _ => 0)
      case atStart => exact ⟨rfl, rfl⟩
      case round =>
        obtain ⟨rfl, rfl⟩ := hrel
        go_wp2_with fail
        refine (HeldW.call (s := S5) (alive04_gives _)).mono ?_
        rintro e _ ⟨rfl, s6, rfl⟩
        obtain ⟨p0, p1, p2, p3, p4, p5⟩ := held_cmd s6 (B) k t f n (.slice A 0 C) (by simp)
        obtain ⟨r0, r1, r2, r3, r4, r5⟩ := held_cmd s6 (w.heap.size) k t f n (.slice a 0 cap) (by simp)
        go_wp2_with fail
        clear p0 p1 p2 p3 p4 p5 r0 r1 r2 r3 r4 r5
        refine (HeldW.call (s := s6) (HXS.out A C s6.w (hA2.W s6) ((HB.out.below S2.below).W s6))).mono ?_
        rintro e _ ⟨rfl, s7, rfl⟩
        go_wp2_with fail
        go_wp2
        go_ret
        exact ⟨rfl, HW.out.trans (s7.below.mono HW.out.size)⟩

theorem commandSame_walk (k t f n : Int) (a : Option Addr) (l : List Int) (cap : Nat) (k' t' f' n' : Int) (b : Option Addr) (m : List Int) (cap' : Nat) {w : World} (_ : I64 t) (_ : I64 f) (_ : I64 n) (hb : BytesIn w a l cap) (okl : OkB l) (_ : I64 t') (_ : I64 f') (_ : I64 n') (hb' : BytesIn w b m cap') (okm : OkB m) :
    Calls Try.prog 8 #[cmdV k t f n (.slice a l.length cap), cmdV k' t' f' n' (.slice b m.length cap')] w (Gives (.bool true) w) := by
  by_cases h : 1000 < l.length ∨ 1000 < m.length
  · exact commandSame_big k t f n a l.length cap k' t' f' n' b m.length cap' h (Nat.le_trans hb.len hb.capb) (Nat.le_trans hb'.len hb'.capb) w
  · exact commandSame_small k t f n a l cap k' t' f' n' b m cap' w (by omega) (by omega) hb hb' okl okm
end Go.Proofs.Ytfikjndkjjgcjaa
