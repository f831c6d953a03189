import Derived.Great.BuildSlice
import Derived.Test.YtojipgeclofjmaaE09a23
import Derived.Test.YtojipgeclofjmaaE09a24
import Derived.Test.YtojipgeclofjmaaE09a13
/- The example of the chapter on canonical forms. -/
namespace Go.Proofs.Ytojipgeclofjmaa
open Go.RowKit Go.Proofs.Ytojipgeclofjmaa.Plain01
set_option linter.unusedVariables false
set_option linter.unusedSimpArgs false

theorem row_flat {W : World} {B : Nat} {cs : List Cmd} (h : W.heap[B]? = some (.cells (flat5 cs).toArray 37 (0, 0))) (hok : ∀ c ∈ cs, CmdOK W c) (hl : cs.length ≤ 1000000) : CmdsIn W (some ⟨B, 0, none⟩) cs cs.length :=
  ⟨Nat.le_refl _, by omega, fun _ => ⟨B, 0, rfl, fun i c hi j u hu => by
    rw [Nat.zero_add, cell_of h]
    have := flat5_put cs i j c u hi hu
    simpa using this⟩, hok, fun h => by cases h⟩
def exX : Cmd := ⟨1, 0, 5, 2, [], none, 0⟩
def exY : Cmd := ⟨1, 2, 7, 3, [], none, 0⟩
def exZ : Cmd := ⟨1, 5, 9, 1, [], none, 0⟩
def exV : Cmd := ⟨1, 0, 5, 5, [], none, 0⟩
theorem copy_ok (W : World) (t f n : Nat) (ht : t ≤ 100) (hf : f ≤ 100) (hn : n ≤ 100) : CmdOK W ⟨1, t, f, n, [], none, 0⟩ := ⟨by unfold I64; simp, by unfold I64; simp only; omega, by unfold I64; simp only; omega, by unfold I64; simp only; omega, ⟨Nat.le_refl _, by simp, fun h => by simp at h, fun _ => rfl⟩, okB_nil⟩
theorem exX_ok (W : World) : CmdOK W exX := copy_ok W 0 5 2 (by omega) (by omega) (by omega)
theorem exY_ok (W : World) : CmdOK W exY := copy_ok W 2 7 3 (by omega) (by omega) (by omega)
theorem exZ_ok (W : World) : CmdOK W exZ := copy_ok W 5 9 1 (by omega) (by omega) (by omega)
theorem exV_ok (W : World) : CmdOK W exV := copy_ok W 0 5 5 (by omega) (by omega) (by omega)
theorem ex9_valid : ValidD 10 ((6 : Nat) : Int) [exZ, exY, exX] := ⟨by unfold LensBad; omega, fun c hc => by
    simp only [List.mem_cons, List.not_mem_nil, or_false] at hc
    rcases hc with rfl | rfl | rfl <;> decide, by
    show Tiles 0 6 [(5, 1), (2, 3), (0, 2)]
    refine ⟨fun p hp => ?_, ?_, fun x h0 h1 => ?_⟩
    · simp only [List.mem_cons, List.not_mem_nil, or_false] at hp
      rcases hp with rfl | rfl | rfl <;> simp
    · simp [Off]
    · by_cases h : x < 2
      · exact ⟨(0, 2), by simp, by simp; omega⟩
      · by_cases h2 : x < 5
        · exact ⟨(2, 3), by simp, by simp; omega⟩
        · exact ⟨(5, 1), by simp, by simp; omega⟩⟩
theorem ex9_merge : mergeL (cores [exX, exY, exZ]) = cores [exV, exZ] := by decide
theorem ex9_find : findOf [exZ, exY, exX] ((3 : Nat) : Int) = ((1 : Nat) : Int) := by
  refine findOf_eq ⟨fun h => absurd h (by omega), fun _ => ⟨1, exY, rfl, rfl, ?_, fun j c hj hc => ?_⟩⟩
  · unfold Cmd.has; show (2 : Int) ≤ 3 ∧ (3 : Int) < 2 + 3; omega
  · obtain rfl : j = 0 := by omega
    cases hc
    unfold Cmd.has
    show ¬ ((5 : Int) ≤ 3 ∧ _)
    omega
theorem ex9_org : orgOf exY (((3 : Nat) : Int) - exY.t) = orgA true 8 0 := rfl

set_option maxRecDepth 100000 in
set_option maxHeartbeats 8000000 in
theorem alive09_any (w : World) : Calls Try.prog 10 #[] w (Gives (.bool true) w) := by
  have hz := zero_delta
  obtain ⟨S, hS⟩ := start3 w (cmdO 1 0 5 2 (.slice none 0 0)) (cmdO 1 2 7 3 (.slice none 0 0)) (cmdO 1 5 9 1 (.slice none 0 0))
  have e3 : S.w.heap.size = w.heap.size + 1 + 1 + 1 := by rw [← hS]; simp
  obtain ⟨B, S4, hB, hB0, hlt, hS4⟩ := S.more1 (.cells (flat5 [exX, exY, exZ]).toArray 37 (0, 0))
  have hmg := merge9_any (some ⟨B, 0, none⟩) [exX, exY, exZ] 3 S4.w (row_flat (S4.blocks (B, .cells (flat5 [exX, exY, exZ]).toArray 37 (0, 0)) (by simp)) (fun c hc => by
    simp only [List.mem_cons, List.not_mem_nil, or_false] at hc
    rcases hc with rfl | rfl | rfl
    · exact exX_ok _
    · exact exY_ok _
    · exact exZ_ok _) (by simp)) (fun c hc => by
    simp only [List.mem_cons, List.not_mem_nil, or_false] at hc
    rcases hc with rfl | rfl | rfl <;> (unfold GoodB; decide)) (by simp) (fun c hc => by
    simp only [List.mem_cons, List.not_mem_nil, or_false] at hc
    rcases hc with rfl | rfl | rfl <;> simp [exX, exY, exZ])
  have HS := Lib.hid hS
  have HS4 := Lib.hid (And.intro hS4 (hB.trans e3))
  clear hS hS4 hB hlt e3
  go_enter Try.func10, Try.ntmps10
  go_wp2_with fail
  rw [HS.out, show S.w.alloc (.cells #[.int .i64 1, .int .i64 0, .int .i64 5, .int .i64 2, .slice none 0 0, .int .i64 1, .int .i64 2, .int .i64 7, .int .i64 3, .slice none 0 0, .int .i64 1, .int .i64 5, .int .i64 9, .int .i64 1, .slice none 0 0] 37 (0, 0)) = S4.w from HS4.out.1, ← HS4.out.2]
  refine hmg.mono ?_
  rintro e W5 ⟨v5, rfl, ⟨R⟩⟩
  have hRB := R.below
  obtain ⟨cs5, a5, cap5, rfl, hcs5, hco5⟩ := R.slice
  rw [ex9_merge] at hco5
  obtain ⟨s5, h5⟩ : ∃ s5 : HeldW W5 [(w.heap.size + 1 + 1, cmdO 1 5 9 1 (.slice none 0 0)), (w.heap.size + 1, cmdO 1 2 7 3 (.slice none 0 0)), (w.heap.size, cmdO 1 0 5 2 (.slice none 0 0))], W5 = s5.w := ⟨⟨W5, Below.refl _ _, fun p hp => heap_below (S4.blocks p (List.mem_cons_of_mem _ hp)) hRB⟩, rfl⟩
  have HBW := Lib.hid (S4.below.trans (hRB.mono S4.below.size))
  have HCS := Lib.hid (And.intro hcs5 hco5)
  have hx := s5.blocks (w.heap.size, cmdO 1 0 5 2 (.slice none 0 0)) (by simp)
  have hy := s5.blocks (w.heap.size + 1, cmdO 1 2 7 3 (.slice none 0 0)) (by simp)
  have hzz := s5.blocks (w.heap.size + 1 + 1, cmdO 1 5 9 1 (.slice none 0 0)) (by simp)
  rw [← h5] at hx hy hzz
  obtain ⟨x0, x1, x2, x3, x4⟩ := cmd_cells hx
  obtain ⟨y0, y1, y2, y3, y4⟩ := cmd_cells hy
  obtain ⟨z0, z1, z2, z3, z4⟩ := cmd_cells hzz
  obtain ⟨D9, hD9⟩ : ∃ D9, D9 = (((zeroDel.setIfInBounds 0 (.int .i64 10)).setIfInBounds 1 (.int .i64 6)).setIfInBounds 66 (.slice (some ⟨W5.heap.size, 0, none⟩) 3 3)) := ⟨_, rfl⟩
  have hDD : DeltaOf D9 10 ((6 : Nat) : Int) zeros32 zeros32 (.slice (some ⟨W5.heap.size, 0, none⟩) 3 3) := by rw [hD9]; exact ⟨rfl, rfl, rfl⟩
  have hinf := infoDelta hDD
  have hone := hDD.one rfl
  have hsz : zeroDel.size = D9.size := by rw [zeroDel_of.size, hDD.size]
  have hgN : ((W5.alloc (.cells (flat5 [exZ, exY, exX]).toArray 37 (0, 0))).alloc (deltaO zeroDel)).heap[W5.heap.size + 1]? = some (deltaO zeroDel) := heap_new _ _ (by simp)
  obtain ⟨S7, h7⟩ : ∃ S7 : HeldW W5 [(W5.heap.size + 1, deltaO D9), (W5.heap.size, .cells (flat5 [exZ, exY, exX]).toArray 37 (0, 0)), (w.heap.size + 1 + 1, cmdO 1 5 9 1 (.slice none 0 0))], ((W5.alloc (.cells (flat5 [exZ, exY, exX]).toArray 37 (0, 0))).alloc (deltaO zeroDel)).setRow (W5.heap.size + 1) D9 = S7.w := by
    have hb : Below W5.heap.size W5 ((W5.alloc (.cells (flat5 [exZ, exY, exX]).toArray 37 (0, 0))).alloc (deltaO zeroDel)) := below2 W5 _ _
    have hzl := (Array.getElem?_eq_some_iff.1 hzz).1
    refine ⟨⟨_, below_setRow hb (by omega) D9, ?_⟩, rfl⟩
    refine List.forall_mem_cons.2 ⟨setRow_heap _ _ _ _ _ _ hgN, List.forall_mem_cons.2 ⟨(setRow_other _ _ _ _ (show W5.heap.size ≠ W5.heap.size + 1 by omega)).trans (heap_old (heap_new W5 _ rfl) _), all1 ((setRow_other _ _ _ _ (show w.heap.size + 1 + 1 ≠ W5.heap.size + 1 by omega)).trans (heap_old (heap_old hzz _) _))⟩⟩
  have HX := Lib.hid h7
  have hg7 := S7.blocks (W5.heap.size + 1, deltaO D9) (by simp)
  dsimp only at hg7
  have HGD := Lib.hid (fun (W : World) (hW : Below S7.w.heap.size S7.w W) => heap_below hg7 hW)
  have HCM : Hid (∀ W, Below S7.w.heap.size S7.w W → CmdsIn W (some ⟨W5.heap.size, 0, none⟩) [exZ, exY, exX] 3) := Lib.hid fun W hW => row_flat (heap_below (S7.blocks (W5.heap.size, .cells (flat5 [exZ, exY, exX]).toArray 37 (0, 0)) (by simp)) hW) (fun c hc => by
    simp only [List.mem_cons, List.not_mem_nil, or_false] at hc
    rcases hc with rfl | rfl | rfl
    · exact exZ_ok _
    · exact exY_ok _
    · exact exX_ok _) (by simp)
  have HOF : Hid (∀ W, Below S7.w.heap.size S7.w W → Calls Try.prog 11 #[.agg D9, .int .i64 3] W (Gives (.tuple #[.agg (orgA true 8 0), .bool true]) W)) := Lib.hid fun W hW => by
    have := of9_yes D9 10 6 zeros32 zeros32 (some ⟨W5.heap.size, 0, none⟩) [exZ, exY, exX] 3 hDD 3 exY 1 W (HCM.out W hW) (by simp) ex9_valid ex9_find rfl (by unfold Cmd.has; show (2 : Int) ≤ 3 ∧ (3 : Int) < 2 + 3; omega)
    rw [ex9_org] at this
    exact this
  have hsml : ∀ c ∈ [exZ, exY, exX], c.l.length ≤ 1000 := fun c hc => by
    simp only [List.mem_cons, List.not_mem_nil, or_false] at hc
    rcases hc with rfl | rfl | rfl <;> simp [exX, exY, exZ]
  have HEV : Hid (∀ W, Below S7.w.heap.size S7.w W → Calls Try.prog 21 #[.agg D9, .agg D9] W (Gives (.bool true) W)) := Lib.hid fun W hW => by
    have := equiv9_any D9 D9 10 ((6 : Nat) : Int) 10 ((6 : Nat) : Int) zeros32 zeros32 zeros32 zeros32 (some ⟨W5.heap.size, 0, none⟩) (some ⟨W5.heap.size, 0, none⟩) [exZ, exY, exX] [exZ, exY, exX] 3 3 hDD hDD W (HCM.out W hW) (HCM.out W hW) (by simp) (by simp) hsml hsml ex9_valid ex9_valid
    rwa [decide_eq_true ⟨rfl, rfl, rfl⟩] at this
  have HZ7 := Lib.hid (fun (W : World) (hW : Below S7.w.heap.size S7.w W) => cmd_cells (heap_below (S7.blocks (w.heap.size + 1 + 1, cmdO 1 5 9 1 (.slice none 0 0)) (by simp)) hW))
  have HL7 := Lib.hid (fun (W : World) (hW : Below S7.w.heap.size S7.w W) => HCS.out.1.below (S7.below.trans (hW.mono S7.below.size)))
  have HB7 := Lib.hid (fun (W : World) (hW : Below S7.w.heap.size S7.w W) => HBW.out.trans ((S7.below.trans (hW.mono S7.below.size)).mono HBW.out.size))
  have HD9 := Lib.hid hD9
  clear hDD hsml
  clear hD9 hmg hRB hcs5 hco5 h5 hx hy hzz s5 h7 HS HS4 S S4 R
  go_wp2_with (first
    | (refine wpList_buildTo rfl 25 _ rfl (some 20) rfl D9 (by rw [HD9.out]; kernel_rfl) ?_)
    | (rw [show (W5.alloc (.cells #[.int .i64 1, .int .i64 5, .int .i64 9, .int .i64 1, .slice none 0 0, .int .i64 1, .int .i64 2, .int .i64 7, .int .i64 3, .slice none 0 0, .int .i64 1, .int .i64 0, .int .i64 5, .int .i64 2, .slice none 0 0] 37 (0, 0))) = W5.alloc (.cells (flat5 [exZ, exY, exX]).toArray 37 (0, 0)) from rfl]; refine wpList_store_rowTo rfl 25 (.tmp 5) (.tmp 20) rfl rfl (W5.heap.size + 1) D9 rfl rfl 25 zeroDel hgN hinf hsz hone ?_; rw [HX.out])
    | (refine wpList_load_row rfl 25 (.tmp 5) rfl (W5.heap.size + 1) rfl 25 _ (0, 0) _ hg7 Try.underlying25 rfl hinf ?_))
  refine (HOF.out S7.w (Below.refl _ _)).mono ?_
  rintro e W8 ⟨rfl, hb8⟩
  clear z0 z1 z2 z3 z4
  have hb9 : Below S7.w.heap.size S7.w (W8.alloc (orgO true 8 0)) := hb8.alloc hb8.size _
  obtain ⟨z0, z1, z2, z3, z4⟩ := HZ7.out (W8.alloc (orgO true 8 0)) hb9
  clear x0 x1 x2 x3 x4 y0 y1 y2 y3 y4 hgN hg7 HX
  go_wp2_with fail
  have h10 : Below S7.w.heap.size S7.w ((W8.alloc (orgO true 8 0)).alloc (.cells (flat5 [exV, exZ]).toArray 37 (0, 0))) := hb9.alloc hb9.size _
  have hin10 : CmdsIn ((W8.alloc (orgO true 8 0)).alloc (.cells (flat5 [exV, exZ]).toArray 37 (0, 0))) (some ⟨W8.heap.size + 1, 0, none⟩) [exV, exZ] 2 := row_flat (heap_new _ _ (by simp)) (fun c hc => by
    simp only [List.mem_cons, List.not_mem_nil, or_false] at hc
    rcases hc with rfl | rfl
    · exact exV_ok _
    · exact exZ_ok _) (by simp)
  have hall := all_any a5 (some ⟨W8.heap.size + 1, 0, none⟩) cs5 [exV, exZ] cap5 2 _ (HL7.out _ h10) hin10
  rw [decide_eq_true (show cores cs5 = cores [exV, exZ] from HCS.out.2)] at hall
  have ho10 : ((W8.alloc (orgO true 8 0)).alloc (.cells (flat5 [exV, exZ]).toArray 37 (0, 0))).heap[W8.heap.size]? = some (orgO true 8 0) := heap_old (heap_new W8 _ rfl) _
  refine hall.mono ?_
  rintro e W11 ⟨rfl, hb11⟩
  have ho11 := heap_below ho10 hb11
  have o0 : W11.cell? ⟨W8.heap.size, 0, none⟩ = some (.bool true) := cell_of ho11 0
  have o1 : W11.cell? ⟨W8.heap.size, 1, none⟩ = some (.int .i64 8) := cell_of ho11 1
  have o2 : W11.cell? ⟨W8.heap.size, 2, none⟩ = some (.int .u8 0) := cell_of ho11 2
  have h11 : Below S7.w.heap.size S7.w W11 := h10.trans (hb11.mono h10.size)
  have HBL := Lib.hid (HB7.out _ h11)
  have HE11 := Lib.hid (HEV.out _ h11)
  have hG11 := HGD.out _ h11
  clear z0 z1 z2 z3 z4 ho10 ho11 hall hin10 h10 h11 hb11
  go_wp2_with (first
    | (refine wpList_load_rowG rfl 25 (.tmp 5) rfl (some 40) rfl (W5.heap.size + 1) rfl 25 _ (0, 0) _ hG11 Try.underlying25 rfl hinf ?_)
    | (refine wpList_load_rowG rfl 25 (.tmp 5) rfl (some 41) rfl (W5.heap.size + 1) rfl 25 _ (0, 0) _ hG11 Try.underlying25 rfl hinf ?_))
  refine HE11.out.mono ?_
  rintro e W12 ⟨rfl, hb12⟩
  have HB12 := Lib.hid (HBL.out.trans (hb12.mono HBL.out.size))
  clear o0 o1 o2 hG11 hb12
  go_wp2
  go_ret
  exact ⟨by simp, HB12.out⟩
end Go.Proofs.Ytojipgeclofjmaa

/- TidyOrigins returns true for every delta and offset, and changes nothing that was there. -/
namespace Go.Proofs.Ytojipgeclofjmaa
open Go.RowKit Go.Shelf Go.Proofs.Ytojipgeclofjmaa.Plain01
set_option linter.unusedVariables false
set_option linter.unusedSimpArgs false

set_option maxRecDepth 100000 in
set_option maxHeartbeats 4000000 in
theorem tidyOrigins_big (D : Array Value) (o n : Int) (xx y : List Int) (ca : Option Addr) (cs : List Cmd) (ccap : Nat) (hD : DeltaOf D o n xx y (.slice ca cs.length ccap)) (off : Int) (w : World) (h : CmdsIn w ca cs ccap) (hf : ¬ SmallD o n cs) :
    Calls Try.prog 3 #[.agg D, .int .i64 off] w (Gives (.bool true) w) := by
  obtain ⟨S, hS⟩ := start1 w (deltaO D)
  have hF := rsmall9_any D o n xx y ca cs ccap hD S.w (h.W S)
  rw [decide_eq_false hf] at hF
  have hinf := infoDelta hD
  have hg : (w.alloc (deltaO D)).heap[w.heap.size]? = some (deltaO D) := heap_new w _ rfl
  have HS := Lib.hid hS
  clear hS hD h hf
  go_enter Try.func3, Try.ntmps3
  go_wp2_with (refine wpList_load_row rfl 25 (.tmp 2) rfl w.heap.size rfl 25 _ (0, 0) _ hg Try.underlying25 rfl hinf ?_)
  rw [HS.out]
  clear hg
  refine (HeldW.call hF).mono ?_
  rintro e _ ⟨rfl, s2, rfl⟩
  go_wp2_with fail
  refine (HeldW.call (alive09_any _)).mono ?_
  rintro e _ ⟨rfl, s3, rfl⟩
  go_wp2
  go_ret
  exact ⟨rfl, s3.below⟩

set_option maxRecDepth 100000 in
set_option maxHeartbeats 4000000 in
theorem tidyOrigins_in (D : Array Value) (o : Int) (n : Nat) (xx y : List Int) (ca : Option Addr) (cs : List Cmd) (ccap : Nat) (hD : DeltaOf D o n xx y (.slice ca cs.length ccap)) (off : Nat) (w : World) (h : CmdsIn w ca cs ccap) (hf : SmallD o n cs) (hL : cs.length ≤ 1000000) (hv : ValidD o n cs) (h1 : (off : Int) < (n : Int)) :
    Calls Try.prog 3 #[.agg D, .int .i64 (off : Int)] w (Gives (.bool true) w) := by
  have hne : findOf cs (off : Int) ≠ -1 := fun hr => by
    obtain ⟨i, c, hi, hx⟩ := (hv.some (off : Int)).1 ⟨by omega, h1⟩
    exact findOf_neg.1 (by omega : findOf cs (off : Int) < 0) c (List.mem_of_getElem? hi) hx
  obtain ⟨fi, c, hfe, hci, hhas, _⟩ := (findOf_spec cs (off : Int)).yes hne
  have HT := fun s : HeldW w [(w.heap.size, deltaO D)] => of9_yes D o n xx y ca cs ccap hD off c fi s.w (h.W s) hL hv hfe hci hhas
  have HR := fun (bs : List (Nat × Obj)) (s : HeldW w bs) => rof9_any D o n xx y ca cs ccap hD off c fi s.w (h.W s) hL hv hfe hci hhas
  rw [orgOf_eq] at HT HR
  generalize orgB c = q1 at *
  generalize orgF c ((off : Int) - c.t) = q2 at *
  generalize orgX c ((off : Int) - c.t) = q3 at *
  replace HT := Lib.hid HT
  replace HR := Lib.hid HR
  have HD := Lib.hid hD
  obtain ⟨S, hS⟩ := start1 w (deltaO D)
  have hF := rsmall9_any D o n xx y ca cs ccap hD S.w (h.W S)
  rw [decide_eq_true hf] at hF
  have hinf := infoDelta hD
  have hg : (w.alloc (deltaO D)).heap[w.heap.size]? = some (deltaO D) := heap_new w _ rfl
  have HGD := Lib.hid (fun s : HeldW w [(w.heap.size, deltaO D)] => s.blocks (w.heap.size, deltaO D) (by simp))
  have HS := Lib.hid hS
  have e0 : decide ((off : Int) < 0) = false := by simp
  have e1 : decide (n ≤ off) = false := by simp; omega
  clear h1 hfe hci hhas hne hS hD h hf hv hL
  go_enter Try.func3, Try.ntmps3
  go_wp2_with (refine wpList_load_row rfl 25 (.tmp 2) rfl w.heap.size rfl 25 _ (0, 0) _ hg Try.underlying25 rfl hinf ?_)
  rw [HS.out]
  clear hg
  refine (HeldW.call hF).mono ?_
  rintro e _ ⟨rfl, s2, rfl⟩
  clear hF
  have hg := HGD.out s2
  go_wp2_with (refine wpList_load_row rfl 25 (.tmp 2) rfl w.heap.size rfl 25 _ (0, 0) _ hg Try.underlying25 rfl hinf ?_)
  clear hg
  refine (HeldW.call (HT.out s2)).mono ?_
  rintro e _ ⟨rfl, s3, rfl⟩
  obtain ⟨B4, s4, hB4, hB40, hlt4, hS4⟩ := s3.more1 (orgO q1 q2 q3)
  have c1 : (s3.w.alloc (orgO q1 q2 q3)).cell? ⟨w.heap.size, 1, none⟩ = some (.int .i64 n) := by rw [hS4]; exact (cell_of (s4.blocks (w.heap.size, deltaO D) (by simp)) 1).trans HD.out.c1
  have HS4 := Lib.hid (And.intro hS4 hB4)
  have LD := Lib.hid (fun s : HeldW w [(B4, orgO q1 q2 q3), (w.heap.size, deltaO D)] => load_delta HD.out (s.blocks (w.heap.size, deltaO D) (by simp)))
  have CO := Lib.hid (fun s : HeldW w [(B4, orgO q1 q2 q3), (w.heap.size, deltaO D)] => And.intro (cell_of (s.blocks (B4, orgO q1 q2 q3) (by simp)) 0) (And.intro (cell_of (s.blocks (B4, orgO q1 q2 q3) (by simp)) 1) (cell_of (s.blocks (B4, orgO q1 q2 q3) (by simp)) 2)))
  clear hB4 hB40 hlt4 hS4
  go_wp2_with fail
  rw [HS4.out.1, ← HS4.out.2]
  clear c1 e0 e1
  have LO : Hid (∀ s : HeldW w [(B4, orgO q1 q2 q3), (w.heap.size, deltaO D)], (Instr.loadAt 29 (.pointer (some ⟨B4, 0, none⟩))).run Try.prog s.w = .ok (.agg (orgA q1 q2 q3)) s.w) := Lib.hid fun s => by
    obtain ⟨c0, c1, c2⟩ := CO.out s
    simp at c0 c1 c2
    simp [go_sem, c0, c1, c2]
  refine wp_region_class w _ (by kernel_rfl) (by kernel_rfl) s4.below s4.blocks (fun hne => ?_)
  repeat (first
    | (refine quiet_load 29 (.tmp 5) (.agg (orgA q1 q2 q3)) s4.w ⟨s4, rfl⟩ (by rintro _ ⟨s, rfl⟩; exact LO.out s) ?_; go_big_quiet_step (fail))
    | (refine quiet_load 25 (.tmp 2) (.agg D) s4.w ⟨s4, rfl⟩ (by rintro _ ⟨s, rfl⟩; exact LD.out s) ?_; go_big_quiet_step (fail))
    | go_big_quiet_step (first | (go_at_call 10; exact HeldW.call (alive09_any _)) | (go_at_call 12; exact HeldW.call (HR.out _ _))))
  refine wpQuiet_nil ?_
  rintro _ ⟨s5, rfl⟩
  clear hne
  go_wp2
  go_ret
  exact ⟨by simp, s5.below⟩

set_option maxRecDepth 100000 in
set_option maxHeartbeats 4000000 in
theorem tidyOrigins_left (D : Array Value) (o : Int) (n : Nat) (xx y : List Int) (ca : Option Addr) (cs : List Cmd) (ccap : Nat) (hD : DeltaOf D o n xx y (.slice ca cs.length ccap)) (off : Int) (w : World) (h : CmdsIn w ca cs ccap) (hf : SmallD o n cs) (hv : ValidD o n cs) (h0 : off < 0) :
    Calls Try.prog 3 #[.agg D, .int .i64 off] w (Gives (.bool true) w) := by
  have HT := Lib.hid (fun s : HeldW w [(w.heap.size, deltaO D)] => of9_no D o n xx y ca cs ccap hD off s.w (h.W s) hv (by omega))
  have HD := Lib.hid hD
  obtain ⟨S, hS⟩ := start1 w (deltaO D)
  have hF := rsmall9_any D o n xx y ca cs ccap hD S.w (h.W S)
  rw [decide_eq_true hf] at hF
  have hinf := infoDelta hD
  have hg : (w.alloc (deltaO D)).heap[w.heap.size]? = some (deltaO D) := heap_new w _ rfl
  have HGD := Lib.hid (fun s : HeldW w [(w.heap.size, deltaO D)] => s.blocks (w.heap.size, deltaO D) (by simp))
  have HS := Lib.hid hS
  have e0 : decide (off < 0) = true := by simp; omega
  clear h0
  clear hS hD h hf hv
  go_enter Try.func3, Try.ntmps3
  go_wp2_with (refine wpList_load_row rfl 25 (.tmp 2) rfl w.heap.size rfl 25 _ (0, 0) _ hg Try.underlying25 rfl hinf ?_)
  rw [HS.out]
  clear hg
  refine (HeldW.call hF).mono ?_
  rintro e _ ⟨rfl, s2, rfl⟩
  clear hF
  have hg := HGD.out s2
  go_wp2_with (refine wpList_load_row rfl 25 (.tmp 2) rfl w.heap.size rfl 25 _ (0, 0) _ hg Try.underlying25 rfl hinf ?_)
  clear hg
  refine (HeldW.call (HT.out s2)).mono ?_
  rintro e _ ⟨rfl, s3, rfl⟩
  obtain ⟨B4, s4, hB4, hB40, hlt4, hS4⟩ := s3.more1 (orgO false 0 0)
  have c1 : (s3.w.alloc (orgO false 0 0)).cell? ⟨w.heap.size, 1, none⟩ = some (.int .i64 n) := by rw [hS4]; exact (cell_of (s4.blocks (w.heap.size, deltaO D) (by simp)) 1).trans HD.out.c1
  have HS4 := Lib.hid (And.intro hS4 hB4)
  have CO := Lib.hid (fun s : HeldW w [(B4, orgO false 0 0), (w.heap.size, deltaO D)] => And.intro (cell_of (s.blocks (B4, orgO false 0 0) (by simp)) 0) (And.intro (cell_of (s.blocks (B4, orgO false 0 0) (by simp)) 1) (cell_of (s.blocks (B4, orgO false 0 0) (by simp)) 2)))
  clear hB4 hB40 hlt4 hS4
  go_wp2_with fail
  rw [HS4.out.1, ← HS4.out.2]
  refine (HeldW.call (s := s4) (alive09_any _)).mono ?_
  rintro e _ ⟨rfl, s5, rfl⟩
  obtain ⟨o0, o1, o2⟩ := CO.out s5
  simp at o0 o1 o2
  clear c1
  go_wp2
  go_ret
  exact ⟨by simp, s5.below⟩

set_option maxRecDepth 100000 in
set_option maxHeartbeats 4000000 in
theorem tidyOrigins_right (D : Array Value) (o : Int) (n : Nat) (xx y : List Int) (ca : Option Addr) (cs : List Cmd) (ccap : Nat) (hD : DeltaOf D o n xx y (.slice ca cs.length ccap)) (off : Int) (w : World) (h : CmdsIn w ca cs ccap) (hf : SmallD o n cs) (hv : ValidD o n cs) (h0 : 0 ≤ off) (h1 : (n : Int) ≤ off) :
    Calls Try.prog 3 #[.agg D, .int .i64 off] w (Gives (.bool true) w) := by
  have HT := Lib.hid (fun s : HeldW w [(w.heap.size, deltaO D)] => of9_no D o n xx y ca cs ccap hD off s.w (h.W s) hv (by omega))
  have HD := Lib.hid hD
  obtain ⟨S, hS⟩ := start1 w (deltaO D)
  have hF := rsmall9_any D o n xx y ca cs ccap hD S.w (h.W S)
  rw [decide_eq_true hf] at hF
  have hinf := infoDelta hD
  have hg : (w.alloc (deltaO D)).heap[w.heap.size]? = some (deltaO D) := heap_new w _ rfl
  have HGD := Lib.hid (fun s : HeldW w [(w.heap.size, deltaO D)] => s.blocks (w.heap.size, deltaO D) (by simp))
  have HS := Lib.hid hS
  have e0 : decide (off < 0) = false := by simp; omega
  have e1 : decide ((n : Int) ≤ off) = true := by simp; omega
  clear h0 h1
  clear hS hD h hf hv
  go_enter Try.func3, Try.ntmps3
  go_wp2_with (refine wpList_load_row rfl 25 (.tmp 2) rfl w.heap.size rfl 25 _ (0, 0) _ hg Try.underlying25 rfl hinf ?_)
  rw [HS.out]
  clear hg
  refine (HeldW.call hF).mono ?_
  rintro e _ ⟨rfl, s2, rfl⟩
  clear hF
  have hg := HGD.out s2
  go_wp2_with (refine wpList_load_row rfl 25 (.tmp 2) rfl w.heap.size rfl 25 _ (0, 0) _ hg Try.underlying25 rfl hinf ?_)
  clear hg
  refine (HeldW.call (HT.out s2)).mono ?_
  rintro e _ ⟨rfl, s3, rfl⟩
  obtain ⟨B4, s4, hB4, hB40, hlt4, hS4⟩ := s3.more1 (orgO false 0 0)
  have c1 : (s3.w.alloc (orgO false 0 0)).cell? ⟨w.heap.size, 1, none⟩ = some (.int .i64 n) := by rw [hS4]; exact (cell_of (s4.blocks (w.heap.size, deltaO D) (by simp)) 1).trans HD.out.c1
  have HS4 := Lib.hid (And.intro hS4 hB4)
  have CO := Lib.hid (fun s : HeldW w [(B4, orgO false 0 0), (w.heap.size, deltaO D)] => And.intro (cell_of (s.blocks (B4, orgO false 0 0) (by simp)) 0) (And.intro (cell_of (s.blocks (B4, orgO false 0 0) (by simp)) 1) (cell_of (s.blocks (B4, orgO false 0 0) (by simp)) 2)))
  clear hB4 hB40 hlt4 hS4
  go_wp2_with fail
  rw [HS4.out.1, ← HS4.out.2]
  refine (HeldW.call (s := s4) (alive09_any _)).mono ?_
  rintro e _ ⟨rfl, s5, rfl⟩
  obtain ⟨o0, o1, o2⟩ := CO.out s5
  simp at o0 o1 o2
  clear c1
  go_wp2
  go_ret
  exact ⟨by simp, s5.below⟩

theorem tidyOrigins_walk (o n : Int) (xx y : List Int) (ca : Option Addr) (cs : List Cmd) (ccap : Nat) (off : Int) {w : World} (ho : I64 o) (hn : I64 n) (hx : xx.length = 32) (hy : y.length = 32) (h : CmdsIn w ca cs ccap) (hoff : I64 off) :
    Calls Try.prog 3 #[.agg (deltaA o n xx y (.slice ca cs.length ccap)), .int .i64 off] w (Gives (.bool true) w) := by
  have hD : DeltaOf (deltaA o n xx y (.slice ca cs.length ccap)) o n xx y (.slice ca cs.length ccap) := ⟨rfl, hx, hy⟩
  by_cases hf : SmallD o n cs
  · have hv : ValidD o n cs := faultOf_zero.1 hf.2
    have hL : cs.length ≤ 1000000 := by have := hf.1.1.2; omega
    obtain ⟨N, rfl⟩ : ∃ N : Nat, n = N := ⟨n.toNat, by have := hv.lens; unfold LensBad at this; omega⟩
    by_cases h0 : 0 ≤ off
    · by_cases h1 : off < N
      · obtain ⟨k, rfl⟩ : ∃ k : Nat, off = k := ⟨off.toNat, by omega⟩
        exact tidyOrigins_in _ o N xx y ca cs ccap hD k w h hf hL hv h1
      · exact tidyOrigins_right _ o N xx y ca cs ccap hD off w h hf hv h0 (by omega)
    · exact tidyOrigins_left _ o N xx y ca cs ccap hD off w h hf hv (by omega)
  · exact tidyOrigins_big _ o n xx y ca cs ccap hD off w h hf
end Go.Proofs.Ytojipgeclofjmaa
