import Derived.Test.YtefonhnidkfbgaaE07d19
import Derived.Test.YtefonhnidkfbgaaE07d8
/- The reference's reader: Bytes, a piece of the reader's own bytes. -/
namespace Go.Proofs.Ytefonhnidkfbgaa
open Go.RowKit
set_option linter.unusedVariables false
set_option linter.unusedSimpArgs false

/-- What Bytes hands back: the piece lies where the reader's bytes lie. -/
def PiecePost (g : Nat) (o : Obj) (l : List Int) (da : Option Addr) (w : World) (e : Ending) (w' : World) : Prop :=
  ∃ A C, e = .returned (.slice A l.length C) ∧ But g w.heap.size w w' ∧ w'.heap[g]? = some o ∧ BytesIn w' A l C ∧ (∀ ad, A = some ad → ∃ ad', da = some ad' ∧ ad'.block = ad.block)

section
variable (g dcap : Nat) (da : Option Addr) (D : List Int) (s : RS) (w : World)
theorem bytes_nilR (W : World) : BytesIn W none [] 0 := ⟨by simp, by omega, fun h => by simp at h, fun _ => rfl⟩
set_option maxRecDepth 100000 in
theorem rrbytes_not (k : Int) (n : Nat) (c p : Int) (L : Nat) (h : w.heap[g]? = some (rrO n L da dcap c p)) (h0 : c ≠ 0) :
    Calls Try.prog 20 #[.pointer (some ⟨g, 0, none⟩), .int .i64 k] w (PiecePost g (rrO n L da dcap c p) [] da w) := by
  have hb : (c != 0) = true := by simpa using h0
  obtain ⟨c0, c1, c2, c3⟩ := rr_cells h
  have HH := Lib.hid h
  clear h
  go_enter Try.func20, Try.ntmps20
  go_wp2
  go_ret
  exact ⟨none, 0, rfl, But.refl _ _ _, HH.out, bytes_nilR _, fun ad h => by cases h⟩
set_option maxRecDepth 100000 in
theorem rrbytes_range (k : Int) (n : Nat) (p : Int) (L : Nat) (h : w.heap[g]? = some (rrO n L da dcap 0 p)) (h1 : k < 0) :
    Calls Try.prog 20 #[.pointer (some ⟨g, 0, none⟩), .int .i64 k] w (PiecePost g (rrO n L da dcap 2 n) [] da w) := by
  have hf := rrfail_all g dcap da ⟨n, 0, p⟩ w L 2 n h
  rw [show (RS.fail ⟨n, 0, p⟩ 2 n) = ⟨n, 2, n⟩ by unfold RS.fail; rw [if_pos ⟨rfl, by simp⟩]] at hf
  obtain ⟨c0, c1, c2, c3⟩ := rr_cells h
  clear h
  go_enter Try.func20, Try.ntmps20
  go_wp2_with (refine hf.mono ?_; rintro e w2 ⟨rfl, hb, ho⟩)
  go_ret
  exact ⟨none, 0, rfl, hb, ho, bytes_nilR _, fun ad h => by cases h⟩
set_option maxRecDepth 100000 in
theorem rrbytes_short (k : Int) (n : Nat) (p : Int) (L : Nat) (h : w.heap[g]? = some (rrO n L da dcap 0 p)) (h1 : 0 ≤ k) (hn : n ≤ L) (hL : L ≤ 9223372036854775807) (h2 : (L : Int) - n < k) :
    Calls Try.prog 20 #[.pointer (some ⟨g, 0, none⟩), .int .i64 k] w (PiecePost g (rrO n L da dcap 8 L) [] da w) := by
  have HF := Lib.hid (fun (s : HeldW w []) => rrfail_all g dcap da ⟨n, 0, p⟩ s.w L 8 L (heap_below h s.below))
  have e8 : (RS.fail ⟨n, 0, p⟩ 8 L) = ⟨n, 8, L⟩ := by unfold RS.fail; rw [if_pos ⟨rfl, by simp⟩]
  rw [e8] at HF
  obtain ⟨c0, c1, c2, c3⟩ := rr_cells h
  have HC := Lib.hid (fun (s : HeldW w []) => rr_cellsW h s)
  clear h e8
  have e1 : (k < 0) = False := eq_false (by omega)
  go_enter Try.func20, Try.ntmps20
  go_wp2
  have d0 := fun s : HeldW w [] => (HC.out s).1
  have d1 := fun s : HeldW w [] => (HC.out s).2.1
  refine wp_region_class w [] (by kernel_rfl) (by kernel_rfl) (Below.refl _ _) (by simp) (fun hne => ?_)
  clear c0 c1 c2 c3
  repeat (go_big_quiet_step (fail))
  refine wpQuiet_nil ?_
  rintro _ ⟨s, rfl⟩
  clear hne d0 d1
  obtain ⟨c0, c1, c2, c3⟩ := HC.out s
  have hf := HF.out s
  go_wp2_with (refine hf.mono ?_; rintro e w2 ⟨rfl, hb, ho⟩)
  go_ret
  exact ⟨none, 0, rfl, (But.of_below s.below).trans (hb.mono s.below.size), ho, bytes_nilR _, fun ad h => by cases h⟩
set_option maxRecDepth 100000 in
set_option maxHeartbeats 1000000 in
theorem rrbytes_ok (n : Nat) (p : Int) (k : Nat) (h : w.heap[g]? = some (rrO n D.length da dcap 0 p)) (hn : n + k ≤ D.length) (hD : BytesIn w da D dcap) (hne : 0 < D.length → ∀ ad, da = some ad → ad.block ≠ g) :
    Calls Try.prog 20 #[.pointer (some ⟨g, 0, none⟩), .int .i64 k] w (PiecePost g (rrO (n + k) D.length da dcap 0 p) ((D.drop n).take k) da w) := by
  have hL : D.length ≤ 9223372036854775807 := Nat.le_trans hD.len hD.capb
  obtain ⟨A, hsl, hA, hap⟩ := cut_midA hD n (n + k) (by omega) hn
  rw [show n + k - n = k by omega] at hsl hA
  rw [show ((n + k : Nat) : Int) = (n : Int) + (k : Int) by omega] at hsl
  have hpl : ((D.drop n).take k).length = k := by rw [List.length_take, List.length_drop]; omega
  generalize (D.drop n).take k = part at hA hpl ⊢
  have HPL := Lib.hid hpl
  generalize D.length = L at *
  have HC := Lib.hid (fun (s : HeldW w []) => rr_cellsW h s)
  have HH := Lib.hid h
  have HA := Lib.hid (And.intro hA hap)
  have HKEEP : Hid (∀ (W : World) (hw : But g w.heap.size w W), BytesIn W A part (dcap - n)) := Lib.hid (fun W hw => ⟨hA.len, hA.capb, fun hp => by
    obtain ⟨b, o, he, hc⟩ := hA.cells hp
    obtain ⟨ad', h1, h2⟩ := hap _ he
    refine ⟨b, o, he, fun i hi => ?_⟩
    have hlt := World.block_lt_of_cell? _ _ (hc i hi)
    rw [← hc i hi]
    unfold World.cell?
    rw [hw.block b hlt (fun e => hne (by omega) ad' h1 (by rw [h2]; exact e))], hA.nil⟩)
  obtain ⟨c0, c1, c2, c3⟩ := rr_cells h
  have e1 : ((k : Int) < 0) = False := eq_false (by omega)
  have HSL := Lib.hid hsl
  clear h hA hap hsl hpl hD hne
  go_enter Try.func20, Try.ntmps20
  go_wp2
  have d0 := fun s : HeldW w [] => (HC.out s).1
  have d1 := fun s : HeldW w [] => (HC.out s).2.1
  refine wp_region_class w [] (by kernel_rfl) (by kernel_rfl) (Below.refl _ _) (by simp) (fun hne => ?_)
  clear c0 c1 c2 c3
  repeat (go_big_quiet_step (fail))
  refine wpQuiet_nil ?_
  rintro _ ⟨s, rfl⟩
  clear hne d0 d1 e1
  have e3 : ((L : Int) - n < k) = False := eq_false (by omega)
  obtain ⟨X, hX⟩ : ∃ X : HeldX w g [(g, rrO n L da dcap 0 p)], s.w = X.w := ⟨⟨s.w, But.of_below s.below, by simpa using heap_below HH.out s.below⟩, rfl⟩
  rw [hX]
  clear hX
  have HBK := Lib.hid (fun s : HeldX w g [(g, rrO n L da dcap 0 p)] => rr_cells (s.blocks (g, rrO n L da dcap 0 p) (by simp)))
  go_wp2
  clear e3
  have hsl := HSL.out
  have d0 := fun s : HeldX w g [(g, rrO n L da dcap 0 p)] => (HBK.out s).1
  have d1 := fun s : HeldX w g [(g, rrO n L da dcap 0 p)] => (HBK.out s).2.1
  refine wp_region_X_tail 15 X (by kernel_rfl) (by kernel_rfl) (fun hne => ?_)
  simp only [List.take_succ_cons, List.take_zero, List.drop_succ_cons, List.drop_zero]
  repeat (go_big_quiet_step (fail))
  refine wpQuiet_nil ?_
  rintro _ ⟨s2, rfl⟩
  clear hne d0 d1
  obtain ⟨b0, b1, b2, b3⟩ := HBK.out s2
  have hblk := s2.blocks (g, rrO n L da dcap 0 p) (by simp)
  have hfr := free_of hblk 1
  have HFIN : Hid (PiecePost g (rrO (n + k) L da dcap 0 p) part da w (.returned (.slice A k (dcap - n))) (s2.w.setCell ⟨g, 1, none⟩ (.int .i64 ((n + k : Nat) : Int)))) := Lib.hid ⟨A, dcap - n, by rw [HPL.out], s2.but.store 1 _, rr_set1 hblk (n + k), HKEEP.out _ (s2.but.store 1 _), HA.out.2⟩
  rw [show ((n + k : Nat) : Int) = (n : Int) + (k : Int) by omega] at HFIN
  clear hblk
  go_wp2
  go_ret
  exact HFIN.out
theorem rrbytes_all (k : Int) (h : w.heap[g]? = some (rrS s D.length da dcap)) (hn : s.n ≤ D.length) (hD : BytesIn w da D dcap) (hne : 0 < D.length → ∀ ad, da = some ad → ad.block ≠ g) :
    Calls Try.prog 20 #[.pointer (some ⟨g, 0, none⟩), .int .i64 k] w (PiecePost g (rrS (bytesR D k s).2 D.length da dcap) (bytesR D k s).1 da w) := by
  obtain ⟨n, c, p⟩ := s
  simp only at hn
  have hL : D.length ≤ 9223372036854775807 := Nat.le_trans hD.len hD.capb
  by_cases h0 : c = 0
  · subst h0
    by_cases h1 : k < 0
    · have e : bytesR D k ⟨n, 0, p⟩ = ([], ⟨n, 2, n⟩) := by unfold bytesR; rw [if_neg (by simp), if_pos h1]
      rw [e]
      exact rrbytes_range g dcap da w k n p D.length h h1
    · by_cases h2 : (D.length : Int) - n < k
      · have e : bytesR D k ⟨n, 0, p⟩ = ([], ⟨n, 8, D.length⟩) := by unfold bytesR; rw [if_neg (by simp), if_neg h1, if_pos h2]
        rw [e]
        exact rrbytes_short g dcap da w k n p D.length h (by omega) hn hL h2
      · have e : bytesR D k ⟨n, 0, p⟩ = ((D.drop n).take k.toNat, ⟨n + k.toNat, 0, p⟩) := by unfold bytesR; rw [if_neg (by simp), if_neg h1, if_neg h2]
        rw [e]
        have := rrbytes_ok g dcap da D w n p k.toNat h (by omega) hD hne
        rw [Int.toNat_of_nonneg (by omega)] at this
        exact this
  · have e : bytesR D k ⟨n, c, p⟩ = ([], ⟨n, c, p⟩) := by unfold bytesR; rw [if_pos h0]
    rw [e]
    exact rrbytes_not g dcap da w k n c p D.length h h0
end
end Go.Proofs.Ytefonhnidkfbgaa

/- The reference's reader: Expect. -/
namespace Go.Proofs.Ytefonhnidkfbgaa
open Go.RowKit
set_option linter.unusedVariables false
set_option linter.unusedSimpArgs false

section
variable (g dcap : Nat) (da : Option Addr) (D : List Int) (s : RS) (w : World)
set_option maxRecDepth 100000 in
theorem rrexpect_not (v : Value) (code : Int) (n : Nat) (c p : Int) (L : Nat) (h : w.heap[g]? = some (rrO n L da dcap c p)) (h0 : c ≠ 0) :
    Calls Try.prog 16 #[.pointer (some ⟨g, 0, none⟩), v, .int .i64 code] w (Puts g (rrO n L da dcap c p) (.bool false) w) := by
  have hb : (c != 0) = true := by simpa using h0
  obtain ⟨c0, c1, c2, c3⟩ := rr_cells h
  have HH := Lib.hid h
  clear h
  go_enter Try.func16, Try.ntmps16
  go_wp2
  go_ret
  exact ⟨rfl, But.refl _ _ _, HH.out⟩

set_option maxRecDepth 100000 in
set_option maxHeartbeats 2000000 in
theorem rrexpect_ready (n : Nat) (B : List Int) (ba : Option Addr) (bcap : Nat) (p code : Int) (h : w.heap[g]? = some (rrO n D.length da dcap 0 p)) (hn : n ≤ D.length) (hD : BytesIn w da D dcap) (hB : BytesIn w ba B bcap) (okD : OkB D) (okB : OkB B) :
    Calls Try.prog 16 #[.pointer (some ⟨g, 0, none⟩), .slice ba B.length bcap, .int .i64 code] w (Puts g (rrS (expectR D B code ⟨n, 0, p⟩).2 D.length da dcap) (.bool (expectR D B code ⟨n, 0, p⟩).1) w) := by
  have hL : D.length ≤ 9223372036854775807 := Nat.le_trans hD.len hD.capb
  have hBL : B.length ≤ 9223372036854775807 := Nat.le_trans hB.len hB.capb
  obtain ⟨R, hR⟩ : ∃ R, R = D.length - n := ⟨_, rfl⟩
  obtain ⟨m, hm⟩ : ∃ m, m = min B.length R := ⟨_, rfl⟩
  have hm1 : m ≤ B.length := by omega
  have hm2 : n + m ≤ D.length := by omega
  obtain ⟨A, hsl, hA⟩ := cut_mid hD n (n + m) (by omega) hm2
  rw [show n + m - n = m by omega] at hsl hA
  rw [show ((n + m : Nat) : Int) = (n : Int) + (m : Int) by omega] at hsl
  obtain ⟨A2, hsl2, hA2⟩ := cutb_h hB m hm1
  obtain ⟨X, hX⟩ : ∃ X, X = (D.drop n).take m := ⟨_, rfl⟩
  obtain ⟨Y, hY⟩ : ∃ Y, Y = B.take m := ⟨_, rfl⟩
  rw [← hX] at hA
  rw [← hY] at hA2
  have hXl : X.length = m := by rw [hX, List.length_take, List.length_drop]; omega
  have hYl : Y.length = m := by rw [hY, List.length_take]; omega
  have okX : OkB X := fun x hx => okD x (List.mem_of_mem_drop (List.mem_of_mem_take (hX ▸ hx)))
  have okY : OkB Y := fun x hx => okB x (List.mem_of_mem_take (hY ▸ hx))
  have hcx := fun s : HeldW w [] => conv_str (hA.W s)
  have hcy := fun s : HeldW w [] => conv_str (hA2.W s)
  rw [hXl] at hcx
  rw [hYl] at hcy
  have hse := str_eq okX okY
  have hexp : expectR D B code ⟨n, 0, p⟩ = if X ≠ Y then (false, RS.fail ⟨n, 0, p⟩ code n) else if R < B.length then (false, ⟨n, 8, D.length⟩) else (true, ⟨n + B.length, 0, p⟩) := by
    unfold expectR
    rw [if_neg (by simp)]
    simp only [← hR, ← hm, ← hX, ← hY]
  obtain ⟨POST, hP⟩ : ∃ P, P = Puts g (rrS (expectR D B code ⟨n, 0, p⟩).2 D.length da dcap) (.bool (expectR D B code ⟨n, 0, p⟩).1) w := ⟨_, rfl⟩
  rw [← hP]
  rw [hexp] at hP
  have HP := Lib.hid hP
  have HC := Lib.hid (fun (s : HeldW w []) => rr_cellsW h s)
  obtain ⟨c0, c1, c2, c3⟩ := rr_cells h
  have HH := Lib.hid h
  have HR := Lib.hid hR
  have HM := Lib.hid hm
  have hLR : (D.length : Int) - n = (R : Int) := by omega
  generalize B.length = BL at *
  generalize D.length = L at *
  have HLR := Lib.hid hLR
  clear hX hY hA hA2 hD hB hexp h hR hm hP hLR
  have HSL := Lib.hid (And.intro hsl hsl2)
  have HCV := Lib.hid (And.intro hcx hcy)
  have hmin : (if (R : Int) < (BL : Int) then (R : Int) else (BL : Int)) = m := by have := HM.out; split <;> omega
  clear hsl hsl2 hcx hcy hmin
  by_cases hq : R < BL
  · obtain rfl : R = m := by have := HM.out; omega
    have hqi : (R : Int) < (BL : Int) := by omega
    have hmn : min (BL : Int) (R : Int) = (R : Int) := by omega
    by_cases hXY : X = Y
    · rw [decide_eq_true hXY] at hse
      rw [if_neg (by simpa using hXY), if_pos hq] at HP
      clear hXY hq
      go_enter Try.func16, Try.ntmps16
      go_wp2
      have d0 := fun s : HeldW w [] => (HC.out s).1
      have d1 := fun s : HeldW w [] => (HC.out s).2.1
      have hLR := HLR.out
      refine wp_region_class_tail 13 w [] (by kernel_rfl) (by kernel_rfl) (Below.refl _ _) (by simp) (fun hne => ?_)
      simp only [List.take_succ_cons, List.take_zero, List.drop_succ_cons, List.drop_zero]
      clear c0 c1 c2 c3
      repeat (go_big_quiet_step (fail))
      refine wpQuiet_nil ?_
      rintro _ ⟨s, rfl⟩
      clear hne hLR
      go_wp2
      have hsl := HSL.out.1
      have hsl2 := HSL.out.2
      have hcx := HCV.out.1
      have hcy := HCV.out.2
      refine wp_region_class w [] (by kernel_rfl) (by kernel_rfl) s.below (by simp) (fun hne => ?_)
      clear s
      repeat (go_big_quiet_step (fail))
      refine wpQuiet_nil ?_
      rintro _ ⟨s, rfl⟩
      clear hne d0 d1 hsl hsl2 hcx hcy
      obtain ⟨c0, c1, c2, c3⟩ := HC.out s
      have hf := rrfail_all g dcap da ⟨n, 0, p⟩ s.w L 8 L (heap_below HH.out s.below)
      rw [show (RS.fail ⟨n, 0, p⟩ 8 L) = ⟨n, 8, L⟩ by unfold RS.fail; rw [if_pos ⟨rfl, by simp⟩]] at hf
      go_wp2_with (refine hf.mono ?_; rintro e w2 ⟨rfl, hb, ho⟩)
      have hQ : POST (.returned (.bool false)) w2 := by
        rw [HP.out]
        exact ⟨rfl, (But.of_below s.below).trans (hb.mono s.below.size), ho⟩
      exact hQ
    · rw [decide_eq_false hXY] at hse
      rw [if_pos (by simpa using hXY)] at HP
      clear hXY hq
      go_enter Try.func16, Try.ntmps16
      go_wp2
      have d0 := fun s : HeldW w [] => (HC.out s).1
      have d1 := fun s : HeldW w [] => (HC.out s).2.1
      have hLR := HLR.out
      refine wp_region_class_tail 13 w [] (by kernel_rfl) (by kernel_rfl) (Below.refl _ _) (by simp) (fun hne => ?_)
      simp only [List.take_succ_cons, List.take_zero, List.drop_succ_cons, List.drop_zero]
      clear c0 c1 c2 c3
      repeat (go_big_quiet_step (fail))
      refine wpQuiet_nil ?_
      rintro _ ⟨s, rfl⟩
      clear hne hLR
      go_wp2
      have hsl := HSL.out.1
      have hsl2 := HSL.out.2
      have hcx := HCV.out.1
      have hcy := HCV.out.2
      refine wp_region_class w [] (by kernel_rfl) (by kernel_rfl) s.below (by simp) (fun hne => ?_)
      clear s
      repeat (go_big_quiet_step (fail))
      refine wpQuiet_nil ?_
      rintro _ ⟨s, rfl⟩
      clear hne d0 d1 hsl hsl2 hcx hcy
      obtain ⟨c0, c1, c2, c3⟩ := HC.out s
      have hf := rrfail_all g dcap da ⟨n, 0, p⟩ s.w L code n (heap_below HH.out s.below)
      go_wp2_with (refine hf.mono ?_; rintro e w2 ⟨rfl, hb, ho⟩)
      have hQ : POST (.returned (.bool false)) w2 := by
        rw [HP.out]
        exact ⟨rfl, (But.of_below s.below).trans (hb.mono s.below.size), ho⟩
      exact hQ
  · obtain rfl : BL = m := by have := HM.out; omega
    have hqi : ¬ (R : Int) < (BL : Int) := by omega
    have hmn : min (BL : Int) (R : Int) = (BL : Int) := by omega
    by_cases hXY : X = Y
    · rw [decide_eq_true hXY] at hse
      rw [if_neg (by simpa using hXY), if_neg hq] at HP
      clear hXY hq
      go_enter Try.func16, Try.ntmps16
      go_wp2
      have d0 := fun s : HeldW w [] => (HC.out s).1
      have d1 := fun s : HeldW w [] => (HC.out s).2.1
      have hLR := HLR.out
      refine wp_region_class_tail 13 w [] (by kernel_rfl) (by kernel_rfl) (Below.refl _ _) (by simp) (fun hne => ?_)
      simp only [List.take_succ_cons, List.take_zero, List.drop_succ_cons, List.drop_zero]
      clear c0 c1 c2 c3
      repeat (go_big_quiet_step (fail))
      refine wpQuiet_nil ?_
      rintro _ ⟨s, rfl⟩
      clear hne hLR
      go_wp2
      have hsl := HSL.out.1
      have hsl2 := HSL.out.2
      have hcx := HCV.out.1
      have hcy := HCV.out.2
      refine wp_region_class w [] (by kernel_rfl) (by kernel_rfl) s.below (by simp) (fun hne => ?_)
      clear s
      repeat (go_big_quiet_step (fail))
      refine wpQuiet_nil ?_
      rintro _ ⟨s, rfl⟩
      clear hne d0 d1 hsl hsl2 hcx hcy
      obtain ⟨c0, c1, c2, c3⟩ := HC.out s
      have hblk := heap_below HH.out s.below
      have hfr := free_of hblk 1
      have HFIN : Hid (POST (.returned (.bool true)) (s.w.setCell ⟨g, 1, none⟩ (.int .i64 ((n + BL : Nat) : Int)))) := Lib.hid (by rw [HP.out]; exact ⟨rfl, (But.of_below s.below).store 1 _, rr_set1 hblk (n + BL)⟩)
      rw [show ((n + BL : Nat) : Int) = (n : Int) + (BL : Int) by omega] at HFIN
      clear hblk
      go_wp2
      exact HFIN.out
    · rw [decide_eq_false hXY] at hse
      rw [if_pos (by simpa using hXY)] at HP
      clear hXY hq
      go_enter Try.func16, Try.ntmps16
      go_wp2
      have d0 := fun s : HeldW w [] => (HC.out s).1
      have d1 := fun s : HeldW w [] => (HC.out s).2.1
      have hLR := HLR.out
      refine wp_region_class_tail 13 w [] (by kernel_rfl) (by kernel_rfl) (Below.refl _ _) (by simp) (fun hne => ?_)
      simp only [List.take_succ_cons, List.take_zero, List.drop_succ_cons, List.drop_zero]
      clear c0 c1 c2 c3
      repeat (go_big_quiet_step (fail))
      refine wpQuiet_nil ?_
      rintro _ ⟨s, rfl⟩
      clear hne hLR
      go_wp2
      have hsl := HSL.out.1
      have hsl2 := HSL.out.2
      have hcx := HCV.out.1
      have hcy := HCV.out.2
      refine wp_region_class w [] (by kernel_rfl) (by kernel_rfl) s.below (by simp) (fun hne => ?_)
      clear s
      repeat (go_big_quiet_step (fail))
      refine wpQuiet_nil ?_
      rintro _ ⟨s, rfl⟩
      clear hne d0 d1 hsl hsl2 hcx hcy
      obtain ⟨c0, c1, c2, c3⟩ := HC.out s
      have hf := rrfail_all g dcap da ⟨n, 0, p⟩ s.w L code n (heap_below HH.out s.below)
      go_wp2_with (refine hf.mono ?_; rintro e w2 ⟨rfl, hb, ho⟩)
      have hQ : POST (.returned (.bool false)) w2 := by
        rw [HP.out]
        exact ⟨rfl, (But.of_below s.below).trans (hb.mono s.below.size), ho⟩
      exact hQ

theorem rrexpect_all (B : List Int) (ba : Option Addr) (bcap : Nat) (code : Int) (h : w.heap[g]? = some (rrS s D.length da dcap)) (hn : s.n ≤ D.length) (hD : BytesIn w da D dcap) (hB : BytesIn w ba B bcap) (okD : OkB D) (okB : OkB B) :
    Calls Try.prog 16 #[.pointer (some ⟨g, 0, none⟩), .slice ba B.length bcap, .int .i64 code] w (Puts g (rrS (expectR D B code s).2 D.length da dcap) (.bool (expectR D B code s).1) w) := by
  obtain ⟨n, c, p⟩ := s
  by_cases h0 : c = 0
  · subst h0
    exact rrexpect_ready g dcap da D w n B ba bcap p code h hn hD hB okD okB
  · rw [expectR_no D B code (s := ⟨n, c, p⟩) h0]
    exact rrexpect_not g dcap da w _ code n c p D.length h h0
end
end Go.Proofs.Ytefonhnidkfbgaa
