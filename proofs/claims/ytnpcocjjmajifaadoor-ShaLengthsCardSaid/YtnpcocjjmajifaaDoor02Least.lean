/- Whether a power is at most a bound. -/
import Derived.Test.YtnpcocjjmajifaaDoor02Times
namespace Go.Proofs.YtnpcocjjmajifaaDoor
open Go.RowKit
set_option linter.unusedVariables false

/-- The words below word k, the highest first. -/
def lexB (A B : List Int) : Nat → Bool
  | 0 => true
  | k + 1 => if A[k]?.getD 0 ≠ B[k]?.getD 0 then decide (A[k]?.getD 0 < B[k]?.getD 0) else lexB A B k
def powL (m : Int) (cubes : Bool) : List Int := if cubes then timesL (timesL [m % 4294967296, m / 4294967296, 0, 0] m) m else timesL [m % 4294967296, m / 4294967296, 0, 0] m
def bndL (n : Int) (cubes : Bool) : List Int := if cubes then [0, 0, 0, n] else [0, 0, n, 0]
def leastB (m n : Int) (cubes : Bool) : Bool := lexB (powL m cubes) (bndL n cubes) 4

set_option maxRecDepth 100000 in
set_option maxHeartbeats 8000000 in
theorem least_false (m n : Int) (h0 : 0 ≤ m) (h1 : m < 18446744073709551616) (w : World) : Calls Tryd.prog 42 #[.int .u64 m, .int .u64 n, .bool false] w (Gives (.bool (leastB m n false)) w) := by
  unfold leastB
  have hand := u64_and32 m h0 h1
  have HT := Lib.hid (fun a (ha : a.length = 4) => times_any a m ha h0 h1)
  obtain ⟨A1, hA1⟩ : ∃ A1, A1 = timesL [m % 4294967296, m / 4294967296, 0, 0] m := ⟨_, rfl⟩
  obtain ⟨A0, hA0⟩ : ∃ A0, A0 = [m % 4294967296, m / 4294967296, 0, 0] := ⟨_, rfl⟩
  have HLA1 := Lib.hid (show A1.length = 4 by rw [hA1, timesL_length])
  have ht := HT.out A0 (by rw [hA0]; rfl)
  rw [hA0, ← hA1] at ht
  rw [show powL m false = A1 from hA1.symm, show bndL n false = [0, 0, n, 0] from rfl]
  clear h0 h1 hA1 hA0 HT
  obtain ⟨B0, hB0⟩ : ∃ B0 : List Int, B0 = [0, 0, n, 0] := ⟨_, rfl⟩
  have HLB0 := Lib.hid (show B0.length = 4 by rw [hB0]; rfl)
  have hbl0 : Tryd.prog.built 73 [(0, .int .u64 (m % 4294967296)), (1, .int .u64 (m / 4294967296)), (2, .int .u64 0), (3, .int .u64 0)] = some (wideA [m % 4294967296, m / 4294967296, 0, 0]) := by kernel_rfl
  have hbl1 : Tryd.prog.built 73 [(0, .int .u64 0), (1, .int .u64 0), (2, .int .u64 n), (3, .int .u64 0)] = some (wideA B0) := by rw [hB0]; kernel_rfl
  go_enter Tryd.func42, Tryd.ntmps42
  go_wp2_with (refine wpList_buildTo rfl 73 _ rfl (some 14) rfl _ hbl0 ?_)
  refine (HeldW.call (s := HeldW.start w) (ht w)).mono ?_
  rintro e _ ⟨rfl, s1, rfl⟩
  clear ht hbl0 hand
  have hn1 := heap_new s1.w (.cells (wideA zero4) 73 (0, 0)) rfl
  have hsz1 : (wideA A1).size = 4 := by rw [wideA_size, HLA1.out]
  have hsr1 : (wideA zero4).size = (wideA A1).size := by rw [hsz1]; rfl
  have hinf7 : (Tryd.prog.info? 73).map (·.size) = some (wideA A1).size := by rw [hsz1]; kernel_rfl
  have hone1 := wideA_one A1
  obtain ⟨w7, s2, hs2, hw7, hg7⟩ : ∃ (w7 : Nat) (s2 : HeldW w [(w7, .cells (wideA A1) 73 (0, 0))]), s1.w.alloc (.cells (wideA A1) 73 (0, 0)) = s2.w ∧ w7 = s1.w.heap.size ∧ w.heap.size ≤ w7 := ⟨_, s1.push _, rfl, rfl, s1.below.size⟩
  have hn2 := heap_new s2.w (.cells (wideA zero4) 73 (0, 0)) rfl
  have hszb : (wideA B0).size = 4 := by rw [wideA_size, HLB0.out]
  have hsrb : (wideA zero4).size = (wideA B0).size := by rw [hszb]; rfl
  have hinfb : (Tryd.prog.info? 73).map (·.size) = some (wideA B0).size := by rw [hszb]; kernel_rfl
  have honeb := wideA_one B0
  obtain ⟨w8, s3, hs3, hw8, hg8, hne8⟩ : ∃ (w8 : Nat) (s3 : HeldW w [(w8, .cells (wideA B0) 73 (0, 0)), (w7, .cells (wideA A1) 73 (0, 0))]), s2.w.alloc (.cells (wideA B0) 73 (0, 0)) = s3.w ∧ w8 = s2.w.heap.size ∧ w.heap.size ≤ w8 ∧ w8 ≠ w7 :=
    ⟨_, s2.push _, rfl, rfl, s2.below.size, by have := (Array.getElem?_eq_some_iff.1 (s2.blocks (w7, _) List.mem_cons_self)).1; omega⟩
  clear hsz1 hszb
  have hs3' : s2.w.alloc (.cells #[.int .u64 0, .int .u64 0, .int .u64 n, .int .u64 0] 73) = s3.w := by rw [← hs3, hB0]; rfl
  have h7 : (s2.w.alloc (.cells #[.int .u64 0, .int .u64 0, .int .u64 n, .int .u64 0] 73)).heap[w7]? = some (.cells (wideA A1) 73 (0, 0)) := by rw [hs3']; exact s3.blocks (w7, .cells (wideA A1) 73 (0, 0)) (by simp)
  have HS3 := Lib.hid hs3'
  have HW8 := Lib.hid hw8
  have HS2 := Lib.hid hs2
  have HW7 := Lib.hid hw7
  clear hs3' hs3 hw8 hs2 hw7
  go_wp2_with (first
    | (refine wpList_store_rowTo rfl 73 (.tmp 7) (.tmp 16) rfl rfl s1.w.heap.size (wideA A1) rfl rfl 73 (wideA zero4) hn1 hinf7 hsr1 hone1 ?_; rw [World.setRow_alloc_new, HS2.out, ← HW7.out])
    | (refine wpList_buildTo rfl 73 _ rfl (some 18) rfl _ hbl1 ?_)
    | (refine wpList_load_row rfl 73 (.tmp 7) rfl w7 rfl 73 _ (0, 0) _ h7 Tryd.underlying73 rfl hinf7 ?_))
  rw [show s2.w.alloc (.cells #[.int .u64 0, .int .u64 0, .int .u64 n, .int .u64 0] 73) = s3.w from HS3.out, show s2.w.heap.size = w8 from HW8.out.symm]
  clear hn1 hsr1 hone1 hn2 hsrb honeb hinfb h7 HS3 HW8 HS2 HW7 hbl1 s2 s1
  rw [show ([0, 0, n, 0] : List Int) = B0 from hB0.symm]
  have HB := Lib.hid hB0
  clear hB0 hinf7
  go_loopw [9] (fun i wr => ((i = .int .i64 (-1) ∧ lexB A1 B0 4 = true) ∨ ∃ j : Nat, j < 4 ∧ i = .int .i64 j ∧ lexB A1 B0 4 = lexB A1 B0 (j + 1)) ∧ ∃ s : HeldW w [(w8, .cells (wideA B0) 73 (0, 0)), (w7, .cells (wideA A1) 73 (0, 0))], wr = s.w) (fun i _ => (intOf i + 1).toNat)
  case atStart => exact ⟨.inr ⟨3, by omega, rfl, rfl⟩, s3, rfl⟩
  case round =>
    clear s3
    obtain ⟨hi, s, rfl⟩ := hrel
    rcases hi with ⟨rfl, hres⟩ | ⟨j, hj, rfl, hres⟩
    · have HX := Lib.hid hres
      clear hres
      go_wp2
      go_ret
      exact ⟨by first | (rw [HX.out]; rfl) | (rw [← HB.out, HX.out]; rfl), s.below⟩
    · have cA := fun s : HeldW w [(w8, .cells (wideA B0) 73 (0, 0)), (w7, .cells (wideA A1) 73 (0, 0))] => show s.w.cell? ⟨w7, j, none⟩ = some (.int .u64 (A1[j]?.getD 0)) by
        rw [cell_of (s.blocks (w7, .cells (wideA A1) 73 (0, 0)) (by simp)), wideA_get _ (by rw [HLA1.out]; exact hj)]
      have cB := fun s : HeldW w [(w8, .cells (wideA B0) 73 (0, 0)), (w7, .cells (wideA A1) 73 (0, 0))] => show s.w.cell? ⟨w8, j, none⟩ = some (.int .u64 (B0[j]?.getD 0)) by
        rw [cell_of (s.blocks (w8, .cells (wideA B0) 73 (0, 0)) (by simp)), wideA_get _ (by rw [HLB0.out]; exact hj)]
      have HE := Lib.hid (hres.trans (show lexB A1 B0 (j + 1) = if A1[j]?.getD 0 ≠ B0[j]?.getD 0 then decide (A1[j]?.getD 0 < B0[j]?.getD 0) else lexB A1 B0 j from rfl))
      clear hres
      by_cases he : A1[j]?.getD 0 = B0[j]?.getD 0
      · have hd : (A1[j]?.getD 0 != B0[j]?.getD 0) = false := by simp [he]
        have HR2 := Lib.hid (HE.out.trans (if_neg (by simp [he])))
        generalize A1[j]?.getD 0 = x at cA hd he
        generalize B0[j]?.getD 0 = y at cB hd he
        clear HE
        go_wp2
        refine wp_region_class _ _ (by kernel_rfl) (by kernel_rfl) s.below s.blocks (fun hne => ?_)
        clear s
        repeat (go_big_quiet_step (fail))
        refine wpQuiet_nil ?_
        rintro _ ⟨s, rfl⟩
        clear hne cA cB
        go_wp2
        go_roundw
        case rel =>
          refine ⟨?_, s, rfl⟩
          cases j with
          | zero => exact .inl ⟨rfl, HR2.out⟩
          | succ j => exact .inr ⟨j, by omega, by go_num, HR2.out⟩
        case measure => simp [intOf]; try omega
      · have hd : (A1[j]?.getD 0 != B0[j]?.getD 0) = true := by simp [he]
        have HR2 := Lib.hid (HE.out.trans (if_pos he))
        generalize A1[j]?.getD 0 = x at cA hd HR2
        generalize B0[j]?.getD 0 = y at cB hd HR2
        clear HE he
        go_wp2
        refine wp_region_class _ _ (by kernel_rfl) (by kernel_rfl) s.below s.blocks (fun hne => ?_)
        clear s
        repeat (go_big_quiet_step (fail))
        refine wpQuiet_nil ?_
        rintro _ ⟨s, rfl⟩
        clear hne
        go_wp2
        refine wp_region_class _ _ (by kernel_rfl) (by kernel_rfl) s.below s.blocks (fun hne => ?_)
        clear s
        repeat (go_big_quiet_step (fail))
        refine wpQuiet_nil ?_
        rintro _ ⟨s, rfl⟩
        clear hne cA cB
        go_wp2
        go_ret
        exact ⟨by first | (rw [HR2.out]; rfl) | (rw [← HB.out, HR2.out]; rfl), s.below⟩
set_option maxRecDepth 100000 in
set_option maxHeartbeats 8000000 in
theorem least_true (m n : Int) (h0 : 0 ≤ m) (h1 : m < 18446744073709551616) (w : World) : Calls Tryd.prog 42 #[.int .u64 m, .int .u64 n, .bool true] w (Gives (.bool (leastB m n true)) w) := by
  unfold leastB
  have hand := u64_and32 m h0 h1
  have HT := Lib.hid (fun a (ha : a.length = 4) => times_any a m ha h0 h1)
  obtain ⟨A1, hA1⟩ : ∃ A1, A1 = timesL [m % 4294967296, m / 4294967296, 0, 0] m := ⟨_, rfl⟩
  obtain ⟨A0, hA0⟩ : ∃ A0, A0 = [m % 4294967296, m / 4294967296, 0, 0] := ⟨_, rfl⟩
  have HLA1 := Lib.hid (show A1.length = 4 by rw [hA1, timesL_length])
  have ht := HT.out A0 (by rw [hA0]; rfl)
  rw [hA0, ← hA1] at ht
  obtain ⟨A2, hA2⟩ : ∃ A2, A2 = timesL A1 m := ⟨_, rfl⟩
  have HLA2 := Lib.hid (show A2.length = 4 by rw [hA2, timesL_length])
  rw [show powL m true = A2 by rw [hA2, hA1]; rfl, show bndL n true = [0, 0, 0, n] from rfl]
  have HT2 := Lib.hid (HT.out A1 HLA1.out)
  rw [← hA2] at HT2
  clear hA2
  clear h0 h1 hA1 hA0 HT
  obtain ⟨B0, hB0⟩ : ∃ B0 : List Int, B0 = [0, 0, n, 0] := ⟨_, rfl⟩
  have HLB0 := Lib.hid (show B0.length = 4 by rw [hB0]; rfl)
  have hbl0 : Tryd.prog.built 73 [(0, .int .u64 (m % 4294967296)), (1, .int .u64 (m / 4294967296)), (2, .int .u64 0), (3, .int .u64 0)] = some (wideA [m % 4294967296, m / 4294967296, 0, 0]) := by kernel_rfl
  have hbl1 : Tryd.prog.built 73 [(0, .int .u64 0), (1, .int .u64 0), (2, .int .u64 n), (3, .int .u64 0)] = some (wideA B0) := by rw [hB0]; kernel_rfl
  go_enter Tryd.func42, Tryd.ntmps42
  go_wp2_with (refine wpList_buildTo rfl 73 _ rfl (some 14) rfl _ hbl0 ?_)
  refine (HeldW.call (s := HeldW.start w) (ht w)).mono ?_
  rintro e _ ⟨rfl, s1, rfl⟩
  clear ht hbl0 hand
  have hn1 := heap_new s1.w (.cells (wideA zero4) 73 (0, 0)) rfl
  have hsz1 : (wideA A1).size = 4 := by rw [wideA_size, HLA1.out]
  have hsr1 : (wideA zero4).size = (wideA A1).size := by rw [hsz1]; rfl
  have hinf7 : (Tryd.prog.info? 73).map (·.size) = some (wideA A1).size := by rw [hsz1]; kernel_rfl
  have hone1 := wideA_one A1
  obtain ⟨w7, s2, hs2, hw7, hg7⟩ : ∃ (w7 : Nat) (s2 : HeldW w [(w7, .cells (wideA A1) 73 (0, 0))]), s1.w.alloc (.cells (wideA A1) 73 (0, 0)) = s2.w ∧ w7 = s1.w.heap.size ∧ w.heap.size ≤ w7 := ⟨_, s1.push _, rfl, rfl, s1.below.size⟩
  have hn2 := heap_new s2.w (.cells (wideA zero4) 73 (0, 0)) rfl
  have hszb : (wideA B0).size = 4 := by rw [wideA_size, HLB0.out]
  have hsrb : (wideA zero4).size = (wideA B0).size := by rw [hszb]; rfl
  have hinfb : (Tryd.prog.info? 73).map (·.size) = some (wideA B0).size := by rw [hszb]; kernel_rfl
  have honeb := wideA_one B0
  obtain ⟨w8, s3, hs3, hw8, hg8, hne8⟩ : ∃ (w8 : Nat) (s3 : HeldW w [(w8, .cells (wideA B0) 73 (0, 0)), (w7, .cells (wideA A1) 73 (0, 0))]), s2.w.alloc (.cells (wideA B0) 73 (0, 0)) = s3.w ∧ w8 = s2.w.heap.size ∧ w.heap.size ≤ w8 ∧ w8 ≠ w7 :=
    ⟨_, s2.push _, rfl, rfl, s2.below.size, by have := (Array.getElem?_eq_some_iff.1 (s2.blocks (w7, _) List.mem_cons_self)).1; omega⟩
  clear hsz1 hszb
  have hs3' : s2.w.alloc (.cells #[.int .u64 0, .int .u64 0, .int .u64 n, .int .u64 0] 73) = s3.w := by rw [← hs3, hB0]; rfl
  have h7 : (s2.w.alloc (.cells #[.int .u64 0, .int .u64 0, .int .u64 n, .int .u64 0] 73)).heap[w7]? = some (.cells (wideA A1) 73 (0, 0)) := by rw [hs3']; exact s3.blocks (w7, .cells (wideA A1) 73 (0, 0)) (by simp)
  have HS3 := Lib.hid hs3'
  have HW8 := Lib.hid hw8
  have HS2 := Lib.hid hs2
  have HW7 := Lib.hid hw7
  clear hs3' hs3 hw8 hs2 hw7
  go_wp2_with (first
    | (refine wpList_store_rowTo rfl 73 (.tmp 7) (.tmp 16) rfl rfl s1.w.heap.size (wideA A1) rfl rfl 73 (wideA zero4) hn1 hinf7 hsr1 hone1 ?_; rw [World.setRow_alloc_new, HS2.out, ← HW7.out])
    | (refine wpList_buildTo rfl 73 _ rfl (some 18) rfl _ hbl1 ?_)
    | (refine wpList_load_row rfl 73 (.tmp 7) rfl w7 rfl 73 _ (0, 0) _ h7 Tryd.underlying73 rfl hinf7 ?_))
  rw [show s2.w.alloc (.cells #[.int .u64 0, .int .u64 0, .int .u64 n, .int .u64 0] 73) = s3.w from HS3.out, show s2.w.heap.size = w8 from HW8.out.symm]
  clear hn1 hsr1 hone1 hn2 hsrb honeb hinfb h7 HS3 HW8 HS2 HW7 hbl1 s2 s1
  refine (HeldW.call (s := s3) (HT2.out s3.w)).mono ?_
  rintro e _ ⟨rfl, s4, rfl⟩
  clear s3
  obtain ⟨B2, hB2⟩ : ∃ B2 : List Int, B2 = [0, 0, 0, n] := ⟨_, rfl⟩
  have HLB2 := Lib.hid (show B2.length = 4 by rw [hB2]; rfl)
  have hbl2 : Tryd.prog.built 73 [(0, .int .u64 0), (1, .int .u64 0), (2, .int .u64 0), (3, .int .u64 n)] = some (wideA B2) := by rw [hB2]; kernel_rfl
  have h7 := s4.blocks (w7, .cells (wideA A1) 73 (0, 0)) (by simp)
  have hsz2 : (wideA A2).size = 4 := by rw [wideA_size, HLA2.out]
  have hsr2 : (wideA A1).size = (wideA A2).size := by rw [hsz2, wideA_size, HLA1.out]
  have hinf2 : (Tryd.prog.info? 73).map (·.size) = some (wideA A2).size := by rw [hsz2]; kernel_rfl
  have hone2 := wideA_one A2
  obtain ⟨s5, hs5⟩ : ∃ s5 : HeldW w [(w7, .cells (wideA A2) 73 (0, 0)), (w8, .cells (wideA B0) 73 (0, 0))], s4.w.setRow w7 (wideA A2) = s5.w :=
    ⟨(s4.sub (bs' := [(w7, .cells (wideA A1) 73 (0, 0)), (w8, .cells (wideA B0) 73 (0, 0))]) (fun p hp => by simp only [List.mem_cons, List.not_mem_nil, or_false] at hp ⊢; rcases hp with h | h <;> simp [h])).row hg7 (by simpa using hne8), rfl⟩
  have h8 := s5.blocks (w8, .cells (wideA B0) 73 (0, 0)) (by simp)
  have hszc : (wideA B2).size = 4 := by rw [wideA_size, HLB2.out]
  have hsrc : (wideA B0).size = (wideA B2).size := by rw [hszc, wideA_size, HLB0.out]
  have hinfc : (Tryd.prog.info? 73).map (·.size) = some (wideA B2).size := by rw [hszc]; kernel_rfl
  have honec := wideA_one B2
  obtain ⟨s6, hs6⟩ : ∃ s6 : HeldW w [(w8, .cells (wideA B2) 73 (0, 0)), (w7, .cells (wideA A2) 73 (0, 0))], s5.w.setRow w8 (wideA B2) = s6.w :=
    ⟨(s5.sub (bs' := [(w8, .cells (wideA B0) 73 (0, 0)), (w7, .cells (wideA A2) 73 (0, 0))]) (fun p hp => by simp only [List.mem_cons, List.not_mem_nil, or_false] at hp ⊢; rcases hp with h | h <;> simp [h])).row hg8 (by simpa using (fun h => hne8 h.symm)), rfl⟩
  have HS5 := Lib.hid hs5
  have HS6 := Lib.hid hs6
  clear hs5 hs6 hsz2 hszc HT2
  go_wp2_with (first
    | (refine wpList_store_rowTo rfl 73 (.tmp 7) (.tmp 22) rfl rfl w7 (wideA A2) rfl rfl 73 (wideA A1) h7 hinf2 hsr2 hone2 ?_; rw [HS5.out])
    | (refine wpList_buildTo rfl 73 _ rfl (some 24) rfl _ hbl2 ?_)
    | (refine wpList_store_rowTo rfl 73 (.tmp 8) (.tmp 24) rfl rfl w8 (wideA B2) rfl (by rw [hB2]; rfl) 73 (wideA B0) h8 hinfc hsrc honec ?_; rw [HS6.out]))
  rw [show ([0, 0, 0, n] : List Int) = B2 from hB2.symm]
  have HB := Lib.hid hB2
  clear h7 h8 hsr2 hinf2 hone2 hsrc hinfc honec HS5 HS6 hbl2 hB2 hB0 hinf7 s4 s5 hne8
  go_loopw [9] (fun i wr => ((i = .int .i64 (-1) ∧ lexB A2 B2 4 = true) ∨ ∃ j : Nat, j < 4 ∧ i = .int .i64 j ∧ lexB A2 B2 4 = lexB A2 B2 (j + 1)) ∧ ∃ s : HeldW w [(w8, .cells (wideA B2) 73 (0, 0)), (w7, .cells (wideA A2) 73 (0, 0))], wr = s.w) (fun i _ => (intOf i + 1).toNat)
  case atStart => exact ⟨.inr ⟨3, by omega, rfl, rfl⟩, s6, rfl⟩
  case round =>
    clear s6
    obtain ⟨hi, s, rfl⟩ := hrel
    rcases hi with ⟨rfl, hres⟩ | ⟨j, hj, rfl, hres⟩
    · have HX := Lib.hid hres
      clear hres
      go_wp2
      go_ret
      exact ⟨by first | (rw [HX.out]; rfl) | (rw [← HB.out, HX.out]; rfl), s.below⟩
    · have cA := fun s : HeldW w [(w8, .cells (wideA B2) 73 (0, 0)), (w7, .cells (wideA A2) 73 (0, 0))] => show s.w.cell? ⟨w7, j, none⟩ = some (.int .u64 (A2[j]?.getD 0)) by
        rw [cell_of (s.blocks (w7, .cells (wideA A2) 73 (0, 0)) (by simp)), wideA_get _ (by rw [HLA2.out]; exact hj)]
      have cB := fun s : HeldW w [(w8, .cells (wideA B2) 73 (0, 0)), (w7, .cells (wideA A2) 73 (0, 0))] => show s.w.cell? ⟨w8, j, none⟩ = some (.int .u64 (B2[j]?.getD 0)) by
        rw [cell_of (s.blocks (w8, .cells (wideA B2) 73 (0, 0)) (by simp)), wideA_get _ (by rw [HLB2.out]; exact hj)]
      have HE := Lib.hid (hres.trans (show lexB A2 B2 (j + 1) = if A2[j]?.getD 0 ≠ B2[j]?.getD 0 then decide (A2[j]?.getD 0 < B2[j]?.getD 0) else lexB A2 B2 j from rfl))
      clear hres
      by_cases he : A2[j]?.getD 0 = B2[j]?.getD 0
      · have hd : (A2[j]?.getD 0 != B2[j]?.getD 0) = false := by simp [he]
        have HR2 := Lib.hid (HE.out.trans (if_neg (by simp [he])))
        generalize A2[j]?.getD 0 = x at cA hd he
        generalize B2[j]?.getD 0 = y at cB hd he
        clear HE
        go_wp2
        refine wp_region_class _ _ (by kernel_rfl) (by kernel_rfl) s.below s.blocks (fun hne => ?_)
        clear s
        repeat (go_big_quiet_step (fail))
        refine wpQuiet_nil ?_
        rintro _ ⟨s, rfl⟩
        clear hne cA cB
        go_wp2
        go_roundw
        case rel =>
          refine ⟨?_, s, rfl⟩
          cases j with
          | zero => exact .inl ⟨rfl, HR2.out⟩
          | succ j => exact .inr ⟨j, by omega, by go_num, HR2.out⟩
        case measure => simp [intOf]; try omega
      · have hd : (A2[j]?.getD 0 != B2[j]?.getD 0) = true := by simp [he]
        have HR2 := Lib.hid (HE.out.trans (if_pos he))
        generalize A2[j]?.getD 0 = x at cA hd HR2
        generalize B2[j]?.getD 0 = y at cB hd HR2
        clear HE he
        go_wp2
        refine wp_region_class _ _ (by kernel_rfl) (by kernel_rfl) s.below s.blocks (fun hne => ?_)
        clear s
        repeat (go_big_quiet_step (fail))
        refine wpQuiet_nil ?_
        rintro _ ⟨s, rfl⟩
        clear hne
        go_wp2
        refine wp_region_class _ _ (by kernel_rfl) (by kernel_rfl) s.below s.blocks (fun hne => ?_)
        clear s
        repeat (go_big_quiet_step (fail))
        refine wpQuiet_nil ?_
        rintro _ ⟨s, rfl⟩
        clear hne cA cB
        go_wp2
        go_ret
        exact ⟨by first | (rw [HR2.out]; rfl) | (rw [← HB.out, HR2.out]; rfl), s.below⟩
end Go.Proofs.YtnpcocjjmajifaaDoor
