/- PatchApplies returns true for every file and delta, and changes nothing that was there. -/
import Derived.Great.BuildSlice
import Derived.Test.YtdedfjkenbaebaaDoorE08a5
import Derived.Test.YtdedfjkenbaebaaDoorE08a26
import Derived.Test.YtdedfjkenbaebaaDoorE08a25
namespace Go.Proofs.YtdedfjkenbaebaaDoor
open Go.RowKit
set_option linter.unusedVariables false
set_option linter.unusedSimpArgs false

theorem bytes_lit8 {w : World} {B : Nat} {l : List Int} {fr : Nat × Nat} (h : w.heap[B]? = some (.cells (byteA l) 5 fr)) (hl : l.length ≤ 1000000) : BytesIn w (some ⟨B, 0, none⟩) l l.length :=
  ⟨Nat.le_refl _, by omega, fun _ => ⟨B, 0, rfl, fun i hi => by rw [Nat.zero_add, cell_of_row _ _ _ _ _ _ h]; exact byteA_get l hi⟩, fun h => by cases h⟩

set_option maxRecDepth 100000 in
set_option maxHeartbeats 4000000 in
theorem patchApplies_big1 (a : Option Addr) (l : List Int) (cap : Nat) (D : Array Value) (w : World) (hR : Roots w) (hbig : 300 < l.length) :
    Calls Tryd.prog 3 #[.slice a l.length cap, .agg D] w (Gives (.bool true) w) := by
  obtain ⟨S, hS⟩ := start1 w (deltaO D)
  have hA := alive08_any S.w (hR.W S)
  have HS := Lib.hid hS
  generalize l.length = L at *
  clear hS hR
  have d9 : decide ((300 : Int) < (L : Int)) = true := by simp; omega
  go_enter Tryd.func3, Tryd.ntmps3
  go_wp2_with fail
  rw [HS.out]
  refine (HeldW.call hA).mono ?_
  rintro e _ ⟨rfl, s3, rfl⟩
  go_wp2
  go_ret
  exact ⟨rfl, s3.below⟩

set_option maxRecDepth 100000 in
set_option maxHeartbeats 4000000 in
theorem patchApplies_big2 (a : Option Addr) (l : List Int) (cap : Nat) (D : Array Value) (o n : Int) (x y : List Int) (ca : Option Addr) (cs : List Cmd) (ccap : Nat) (hD : DeltaOf D o n x y (.slice ca cs.length ccap)) (w : World) (hR : Roots w) (h : CmdsIn w ca cs ccap) (hs : l.length ≤ 300) (hf : ¬ FewD cs) :
    Calls Tryd.prog 3 #[.slice a l.length cap, .agg D] w (Gives (.bool true) w) := by
  obtain ⟨S, hS⟩ := start1 w (deltaO D)
  have hF := few_any D o n x y ca cs ccap hD S.w (h.W S)
  rw [decide_eq_false hf] at hF
  have HR := Lib.hid hR
  have hinf := infoDelta hD
  have hg : (w.alloc (deltaO D)).heap[w.heap.size]? = some (deltaO D) := heap_new w _ rfl
  have HS := Lib.hid hS
  generalize l.length = L at *
  clear hS hD h hf hR
  have d9 : decide ((300 : Int) < (L : Int)) = false := by simp; omega
  go_enter Tryd.func3, Tryd.ntmps3
  go_wp2_with (refine wpList_load_rowG rfl 26 (.tmp 3) rfl (some 11) rfl w.heap.size rfl 26 _ (0, 0) _ hg Tryd.underlying26 rfl hinf ?_)
  rw [HS.out]
  clear hg
  refine (HeldW.call hF).mono ?_
  rintro e _ ⟨rfl, s2, rfl⟩
  go_wp2_with fail
  refine (HeldW.call (alive08_any _ (HR.out.W s2))).mono ?_
  rintro e _ ⟨rfl, s3, rfl⟩
  go_wp2
  go_ret
  exact ⟨rfl, s3.below⟩

set_option maxRecDepth 100000 in
set_option maxHeartbeats 4000000 in
theorem patchApplies_big3 (a : Option Addr) (l : List Int) (cap : Nat) (D : Array Value) (o n : Int) (x y : List Int) (ca : Option Addr) (cs : List Cmd) (ccap : Nat) (hD : DeltaOf D o n x y (.slice ca cs.length ccap)) (w : World) (hR : Roots w) (h : CmdsIn w ca cs ccap) (hs : l.length ≤ 300) (hf : FewD cs) (hn : 3000 < n) :
    Calls Tryd.prog 3 #[.slice a l.length cap, .agg D] w (Gives (.bool true) w) := by
  obtain ⟨S, hS⟩ := start1 w (deltaO D)
  have hF := few_any D o n x y ca cs ccap hD S.w (h.W S)
  rw [decide_eq_true hf] at hF
  have HR := Lib.hid hR
  have H1 := Lib.hid (fun s : HeldW w [(w.heap.size, deltaO D)] => (cell_of (s.blocks (w.heap.size, deltaO D) (by simp)) 1).trans hD.c1)
  have hinf := infoDelta hD
  have hg : (w.alloc (deltaO D)).heap[w.heap.size]? = some (deltaO D) := heap_new w _ rfl
  have HS := Lib.hid hS
  generalize l.length = L at *
  clear hS hD h hf hR
  have d9 : decide ((300 : Int) < (L : Int)) = false := by simp; omega
  have d18 : decide ((3000 : Int) < n) = true := by simp; omega
  go_enter Tryd.func3, Tryd.ntmps3
  go_wp2_with (refine wpList_load_rowG rfl 26 (.tmp 3) rfl (some 11) rfl w.heap.size rfl 26 _ (0, 0) _ hg Tryd.underlying26 rfl hinf ?_)
  rw [HS.out]
  clear hg
  refine (HeldW.call hF).mono ?_
  rintro e _ ⟨rfl, s2, rfl⟩
  have c1 := H1.out s2
  go_wp2_with fail
  clear c1
  refine (HeldW.call (alive08_any _ (HR.out.W s2))).mono ?_
  rintro e _ ⟨rfl, s3, rfl⟩
  go_wp2
  go_ret
  exact ⟨rfl, s3.below⟩

set_option maxRecDepth 100000 in
set_option maxHeartbeats 8000000 in
theorem patchApplies_no (a : Option Addr) (l : List Int) (cap : Nat) (D : Array Value) (o n : Int) (x y : List Int) (ca : Option Addr) (cs : List Cmd) (ccap : Nat) (hD : DeltaOf D o n x y (.slice ca cs.length ccap)) (w : World) (hR : Roots w) (hb : BytesIn w a l cap) (h : CmdsIn w ca cs ccap) (hs : l.length ≤ 300) (hf : FewD cs) (hn : n ≤ 3000) (io : I64 o) (inn : I64 n) (hno : ¬ (o = (l.length : Int) ∧ ValidD o n cs)) :
    Calls Tryd.prog 3 #[.slice a l.length cap, .agg D] w (Gives (.bool true) w) := by
  obtain ⟨E⟩ := elem_of (P := Tryd.prog) (t := 22) (e := 5) (z := .int .u8 0) (n := 1) Tryd.underlying22 (by kernel_rfl) rfl (by omega)
  obtain ⟨S, hS⟩ := start1 w (deltaO D)
  have hF := few_any D o n x y ca cs ccap hD S.w (h.W S)
  rw [decide_eq_true hf] at hF
  have hL40 : cs.length ≤ 1000000 := by have := hf.2; omega
  have HR := Lib.hid hR
  have HB := Lib.hid hb
  have HF := Lib.hid (fun (W : World) (hW : Below w.heap.size w W) => rfits8_any a l.length cap D o n x y ca cs ccap hD W (h.below hW))
  have HNF : Hid (¬ FitsD l.length o n cs) := Lib.hid fun hh => hno ⟨hh.1.2, faultOf_zero.1 hh.1.1.2⟩
  have HA := Lib.hid (fun (b : Option Addr) (c : Nat) (W : World) (hW : Below w.heap.size w W) => papply_no b l.length c D o n x y ca cs ccap hD W (h.below hW) hL40 io inn hno)
  have H1 := Lib.hid (fun s : HeldW w [(w.heap.size, deltaO D)] => (cell_of (s.blocks (w.heap.size, deltaO D) (by simp)) 1).trans hD.c1)
  have HG := Lib.hid (fun s : HeldW w [(w.heap.size, deltaO D)] => s.blocks (w.heap.size, deltaO D) (by simp))
  have HEQ := Lib.hid (fun (b : Option Addr) (c : Nat) (W : World) (h1 : BytesIn W b l c) (h2 : BytesIn W a l cap) => show Calls Tryd.prog 11 #[.slice b l.length c, .slice a l.length cap] W (Gives (.bool true) W) from by have := eq8_any l l b a c cap W h1 h2; rwa [decide_eq_true rfl] at this)
  have hinf := infoDelta hD
  have hg : (w.alloc (deltaO D)).heap[w.heap.size]? = some (deltaO D) := heap_new w _ rfl
  have HS := Lib.hid hS
  have HML := Lib.hid (show l.length = (l.map (Value.int .u8)).length from (List.length_map _).symm)
  have HNIL := Lib.hid (hb.nil2 rfl)
  obtain ⟨L, hL⟩ : ∃ L, L = l.length := ⟨_, rfl⟩
  rw [← hL] at HML HNIL HA HF HNF HEQ hs ⊢
  have HL := Lib.hid hL
  clear hS hD h hf hR hno hL hb
  have d9 : decide ((300 : Int) < (L : Int)) = false := by simp; omega
  have d18 : decide ((3000 : Int) < n) = false := by simp; omega
  go_enter Tryd.func3, Tryd.ntmps3
  go_wp2_with (refine wpList_load_rowG rfl 26 (.tmp 3) rfl (some 11) rfl w.heap.size rfl 26 _ (0, 0) _ hg Tryd.underlying26 rfl hinf ?_)
  rw [HS.out]
  clear hg
  refine (HeldW.call hF).mono ?_
  rintro e _ ⟨rfl, s2, rfl⟩
  have c1 := H1.out s2
  obtain ⟨so, hso⟩ := own_empty s2.w
  have HSO := Lib.hid hso
  have HSRC := Lib.hid ((HB.out.W s2).below so.below).news
  clear hso
  go_wp2_with (first
    | (rw [HSO.out]; refine wpList_append_src E so (l.map (Value.int .u8)) (.tmp 21) (.tmp 22) rfl rfl rfl a L cap HML.out rfl HNIL.out HSRC.out (one_bytes _) (by rw [List.length_nil, ← HML.out]; omega) ?_; intro v' o1; obtain ⟨a1, cap1, rfl, hb1⟩ := (o1.as (show [] ++ l.map (Value.int .u8) = l.map (Value.int .u8) from rfl)).bytesN HL.out.symm; obtain ⟨s3, hs3⟩ := o1.on s2; replace hb1 : BytesIn s3.w a1 l cap1 := (by rw [← hs3]; exact hb1); rw [hs3]; have HB1 := Lib.hid hb1; have hg := HG.out s3; clear hs3 hb1 HSO HSRC so c1)
    | (refine wpList_load_row rfl 26 (.tmp 3) rfl w.heap.size rfl 26 _ (0, 0) _ hg Tryd.underlying26 rfl hinf ?_))
  clear hg
  refine (HA.out a1 cap1 s3.w s3.below).mono ?_
  rintro e W4 ⟨rfl, hb4⟩
  have HB4 := Lib.hid (HB1.out.below hb4)
  obtain ⟨s4, rfl⟩ := s3.after hb4
  have hc6 := HEQ.out a1 cap1 s4.w HB4.out (HB.out.W s4)
  go_wp2_with fail
  refine (HeldW.call hc6).mono ?_
  rintro e _ ⟨rfl, s5, rfl⟩
  have hg := HG.out s5
  clear hc6
  go_wp2_with (refine wpList_load_row rfl 26 (.tmp 3) rfl w.heap.size rfl 26 _ (0, 0) _ hg Tryd.underlying26 rfl hinf ?_)
  refine (HF.out s5.w s5.below).mono ?_
  rintro e W6 ⟨r, rfl, hr, hb6⟩
  obtain ⟨s6, rfl⟩ := s5.after hb6
  obtain rfl : r = false := by
    cases r with
    | false => rfl
    | true => exact absurd (hr.1 rfl) HNF.out
  clear hg hr hb6
  go_wp2_with fail
  refine (HeldW.call (alive08_any _ (HR.out.W s6))).mono ?_
  rintro e _ ⟨rfl, s7, rfl⟩
  go_wp2
  go_ret
  exact ⟨rfl, s7.below⟩
set_option maxRecDepth 100000 in
set_option maxHeartbeats 8000000 in
theorem patchApplies_yes (a : Option Addr) (l : List Int) (cap : Nat) (D : Array Value) (o : Int) (n : Nat) (x y : List Int) (ca : Option Addr) (cs : List Cmd) (ccap : Nat) (hD : DeltaOf D o n x y (.slice ca cs.length ccap)) (w : World) (hR : Roots w) (hb : BytesIn w a l cap) (h : CmdsIn w ca cs ccap) (hs : l.length ≤ 300) (hf : FewD cs) (hn : n ≤ 3000) (ho : (l.length : Int) = o) (hv : ValidD o n cs) :
    Calls Tryd.prog 3 #[.slice a l.length cap, .agg D] w (Gives (.bool true) w) := by
  obtain ⟨E⟩ := elem_of (P := Tryd.prog) (t := 22) (e := 5) (z := .int .u8 0) (n := 1) Tryd.underlying22 (by kernel_rfl) rfl (by omega)
  obtain ⟨S, hS⟩ := start1 w (deltaO D)
  have hF := few_any D o n x y ca cs ccap hD S.w (h.W S)
  rw [decide_eq_true hf] at hF
  have hL40 : cs.length ≤ 1000000 := by have := hf.2; omega
  have HR := Lib.hid hR
  have HB := Lib.hid hb
  have HF := Lib.hid (fun (W : World) (hW : Below w.heap.size w W) => rfits8_any a l.length cap D o n x y ca cs ccap hD W (h.below hW))
  have HNF : Hid (FitsD l.length o n cs) := Lib.hid ⟨⟨⟨hf, faultOf_zero.2 hv⟩, ho.symm⟩, by omega⟩
  have HA := Lib.hid (fun (b : Option Addr) (c : Nat) (W : World) (hW : Below w.heap.size w W) (hbb : BytesIn W b l c) => papply_yes l b c D o n x y ca cs ccap hD W hbb (h.below hW) hL40 (by omega) ho hv)
  have HRA := Lib.hid (fun (W : World) (hW : Below w.heap.size w W) => rapply8_any l a cap D o n x y ca cs ccap hD W (hb.below hW) (h.below hW) hL40 (by omega) ho hv)
  have H1 := Lib.hid (fun s : HeldW w [(w.heap.size, deltaO D)] => (cell_of (s.blocks (w.heap.size, deltaO D) (by simp)) 1).trans hD.c1)
  have HG := Lib.hid (fun s : HeldW w [(w.heap.size, deltaO D)] => s.blocks (w.heap.size, deltaO D) (by simp))
  have HEQ := Lib.hid (fun (b : Option Addr) (c : Nat) (W : World) (h1 : BytesIn W b l c) (h2 : BytesIn W a l cap) => show Calls Tryd.prog 11 #[.slice b l.length c, .slice a l.length cap] W (Gives (.bool true) W) from by have := eq8_any l l b a c cap W h1 h2; rwa [decide_eq_true rfl] at this)
  have HFL : Hid ((newF l n cs).length = n) := Lib.hid (newF_length _ _ _)
  obtain ⟨F, hF2⟩ : ∃ F, F = newF l n cs := ⟨_, rfl⟩
  rw [← hF2] at HA HRA HFL
  have HEQF := Lib.hid (fun (b b' : Option Addr) (c c' : Nat) (W : World) (h1 : BytesIn W b F c) (h2 : BytesIn W b' F c') => show Calls Tryd.prog 11 #[.slice b F.length c, .slice b' F.length c'] W (Gives (.bool true) W) from by have := eq8_any F F b b' c c' W h1 h2; rwa [decide_eq_true rfl] at this)
  have hinf := infoDelta hD
  have hg : (w.alloc (deltaO D)).heap[w.heap.size]? = some (deltaO D) := heap_new w _ rfl
  have HS := Lib.hid hS
  have HML := Lib.hid (show l.length = (l.map (Value.int .u8)).length from (List.length_map _).symm)
  have HNIL := Lib.hid (hb.nil2 rfl)
  obtain ⟨L, hL⟩ : ∃ L, L = l.length := ⟨_, rfl⟩
  rw [← hL] at HML HNIL HA HRA HF HNF HEQ hs ⊢
  have HL := Lib.hid hL
  clear hS hD h hf hR ho hv hL hb hF2
  have d9 : decide ((300 : Int) < (L : Int)) = false := by simp; omega
  have d18 : decide ((3000 : Int) < (n : Int)) = false := by simp; omega
  go_enter Tryd.func3, Tryd.ntmps3
  go_wp2_with (refine wpList_load_rowG rfl 26 (.tmp 3) rfl (some 11) rfl w.heap.size rfl 26 _ (0, 0) _ hg Tryd.underlying26 rfl hinf ?_)
  rw [HS.out]
  clear hg
  refine (HeldW.call hF).mono ?_
  rintro e _ ⟨rfl, s2, rfl⟩
  have c1 := H1.out s2
  obtain ⟨so, hso⟩ := own_empty s2.w
  have HSO := Lib.hid hso
  have HSRC := Lib.hid ((HB.out.W s2).below so.below).news
  clear hso
  go_wp2_with (first
    | (rw [HSO.out]; refine wpList_append_src E so (l.map (Value.int .u8)) (.tmp 21) (.tmp 22) rfl rfl rfl a L cap HML.out rfl HNIL.out HSRC.out (one_bytes _) (by rw [List.length_nil, ← HML.out]; omega) ?_; intro v' o1; obtain ⟨a1, cap1, rfl, hb1⟩ := (o1.as (show [] ++ l.map (Value.int .u8) = l.map (Value.int .u8) from rfl)).bytesN HL.out.symm; obtain ⟨s3, hs3⟩ := o1.on s2; replace hb1 : BytesIn s3.w a1 l cap1 := (by rw [← hs3]; exact hb1); rw [hs3]; have HB1 := Lib.hid hb1; have hg := HG.out s3; clear hs3 hb1 HSO HSRC so c1)
    | (refine wpList_load_row rfl 26 (.tmp 3) rfl w.heap.size rfl 26 _ (0, 0) _ hg Tryd.underlying26 rfl hinf ?_))
  clear hg
  refine (HA.out a1 cap1 s3.w s3.below HB1.out).mono ?_
  rintro e W4 ⟨g4, rfl, hg4, hk4, hb4⟩
  have HB4 := Lib.hid (HB1.out.below hb4)
  obtain ⟨s4, rfl⟩ : ∃ s4 : HeldW w [(g4, .cells (byteA F) 5 (0, 0)), (w.heap.size, deltaO D)], W4 = s4.w := ⟨⟨W4, s3.below.trans (hb4.mono s3.below.size), all2 hk4 (heap_below (s3.blocks (w.heap.size, deltaO D) (by simp)) hb4)⟩, rfl⟩
  clear hk4 hg4
  have hc6 := HEQ.out a1 cap1 s4.w HB4.out (HB.out.W s4)
  go_wp2_with fail
  refine (HeldW.call hc6).mono ?_
  rintro e _ ⟨rfl, s5, rfl⟩
  have hg := s5.blocks (w.heap.size, deltaO D) (by simp)
  clear hc6
  go_wp2_with (refine wpList_load_row rfl 26 (.tmp 3) rfl w.heap.size rfl 26 _ (0, 0) _ hg Tryd.underlying26 rfl hinf ?_)
  refine (HF.out s5.w s5.below).mono ?_
  rintro e W6 ⟨r, rfl, hr, hb6⟩
  obtain ⟨s6, rfl⟩ := s5.after hb6
  obtain rfl : r = true := hr.2 HNF.out
  clear hg hr hb6
  go_wp2_with fail
  refine (HeldW.call (alive08_any _ (HR.out.W s6))).mono ?_
  rintro e _ ⟨rfl, s7, rfl⟩
  have hg := s7.blocks (w.heap.size, deltaO D) (by simp)
  go_wp2_with (refine wpList_load_rowG rfl 26 (.tmp 3) rfl (some 45) rfl w.heap.size rfl 26 _ (0, 0) _ hg Tryd.underlying26 rfl hinf ?_)
  clear hg
  refine (HRA.out s7.w s7.below).mono ?_
  rintro e _ ⟨v8, rfl, o8, rfl⟩
  obtain ⟨a8, cap8, rfl, hb8⟩ := o8.bytes
  obtain ⟨s8, hs8⟩ := o8.on s7
  rw [hs8] at hb8 ⊢
  have hg8 := bytes_lit8 (s8.blocks (g4, .cells (byteA F) 5 (0, 0)) (by simp)) (by have := HFL.out; omega)
  have hc9 := HEQF.out _ _ _ _ s8.w hg8 hb8
  clear hs8 o8 hg8 hb8
  go_wp2_with fail
  refine (HeldW.call hc9).mono ?_
  rintro e _ ⟨rfl, s9, rfl⟩
  go_wp2
  go_ret
  exact ⟨rfl, s9.below⟩

theorem patchApplies_walk (a : Option Addr) (l : List Int) (cap : Nat) (o n : Int) (x y : List Int) (ca : Option Addr) (cs : List Cmd) (ccap : Nat) (w : World) (hR : Roots w) (hb : BytesIn w a l cap) (io : I64 o) (inn : I64 n) (hx : x.length = 32) (hy : y.length = 32) (h : CmdsIn w ca cs ccap) :
    Calls Tryd.prog 3 #[.slice a l.length cap, .agg (deltaA o n x y (.slice ca cs.length ccap))] w (Gives (.bool true) w) := by
  have hD : DeltaOf (deltaA o n x y (.slice ca cs.length ccap)) o n x y (.slice ca cs.length ccap) := ⟨rfl, hx, hy⟩
  by_cases h1 : 300 < l.length
  · exact patchApplies_big1 a l cap _ w hR h1
  · by_cases h2 : FewD cs
    · by_cases h3 : 3000 < n
      · exact patchApplies_big3 a l cap _ o n x y ca cs ccap hD w hR h (by omega) h2 h3
      · by_cases h4 : o = (l.length : Int) ∧ ValidD o n cs
        · obtain ⟨m, rfl⟩ : ∃ m : Nat, n = m := ⟨n.toNat, by have := h4.2.lens; unfold LensBad at this; omega⟩
          exact patchApplies_yes a l cap _ o m x y ca cs ccap hD w hR hb h (by omega) h2 (by omega) h4.1.symm h4.2
        · exact patchApplies_no a l cap _ o n x y ca cs ccap hD w hR hb h (by omega) h2 (by omega) io inn h4
    · exact patchApplies_big2 a l cap _ o n x y ca cs ccap hD w hR h (by omega) h2
end Go.Proofs.YtdedfjkenbaebaaDoor
